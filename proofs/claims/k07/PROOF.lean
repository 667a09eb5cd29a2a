import PyProof.Rows.All
import Wide.All
import OpenK.AllK
import Wide.FinOn
import HandS.ForMost
import HandS.Codes
import HandS.IsInst
import HandS.StrMore
import HandS.DictComp
import HandS.Walk
import HandS.Style
import HandS.Conv
import PyProof.ReprRoads
import HandS.Strs
import HandS.SetFor
import HandS.ClsMeth
import HandS.Property
import HandS.AnyAll
import PyProof.Rows.SortShellAny
import KE.RegKSuper
import PyProof.DictUpdate
import HandS.SetKeys
import HandS.MakeKwOnly
import HandS.GenList
import HandS.ListItems
import HandS.GenYield
import HandS.NoneIn
import HandS.Star
import HandS.DeepEq
import PyProof.Rows.StrPins
import PyProof.Rows.StrPadWhole
import PyProof.Rows.StrPadFill
import HandS.WordsExc
import HandS.ExcOwn
import HandS.ExcIs
import HandS.ExcValue
import HandS.DictTup
import KE.SortData
import KE.KRevSl
import KE.OsRunLaw
import KE.DataMinMax
import PySem.Challenge.RW_keptroutes_k07_tables_made
set_option Elab.async false
set_option linter.all false
set_option maxRecDepth 100000
set_option maxHeartbeats 4000000
section
open PySem PySem.W PyProof.Rows
local macro_rules | `(tactic| k_head) => `(tactic| k_headL)
set_option maxHeartbeats 0 in
open_top Kt.head0 for PySem.Challenge.rw_keptroutes_k07_tables_made
end
namespace Kt
open PySem PySem.Spec PyProof.Rows L2
/-! ### defs that may call repr: no repr is under way around them -/
structure FnG (P : Program) (w : World) (K : PySem.W.Frag) (mg : Str → Option Value) (base : Heap) (k : Nat) (f : Addr) (fd : FuncData) (ps : List Str) (sp : Sp) : Prop where
  many : ∀ vs H Q E, sp vs H Q E → vs.length = ps.length
  go : ∀ (A : Around), A.guards = some [] → ∀ (outer : List Env) (s : Shared) (H : Hp) (args : Args) (us : List Value) (vs : List V) (Q : VK), Room k A → Env0 P w K mg base A outer s H →
    BindsTo s fd args (ps.zip us) → Vals vs us → sp vs H Q E0 → codeAny (model P w) A (.call (.ref f) args) (CR CX0 outer P w H s Q E0) s
theorem FnG.mono {P : Program} {w : World} {K : PySem.W.Frag} {mg : Str → Option Value} {base : Heap} {j k : Nat} {f : Addr} {fd : FuncData} {ps : List Str} {sp : Sp} (F : FnG P w K mg base j f fd ps sp) (h : j ≤ k) : FnG P w K mg base k f fd ps sp :=
  ⟨F.many, fun A g outer s H args us vs Q hr => F.go A g outer s H args us vs Q (hr.mono h)⟩
section
variable {P : Program} {w : World} {K : PySem.W.Frag} {mg : Str → Option Value} {base : Heap}
/-- a def's promise, from its body, where no repr is under way -/
theorem okG {x qual : Str} {st : Stmt} {f : Addr} {fd : FuncData} {N ps : List Str} {k : Nat} {sp : Sp} (F : Fun K x qual st f fd) (S : FnScope N ps (defScope st)) (many : ∀ vs H Q E, sp vs H Q E → vs.length = ps.length)
    (body : ∀ (cdv : Value) (A : Around) (outer : List Env) (s : Shared) (H : Hp) (vs : List V) (Q : VK), A.guards = some [] → Room k (A.deeper (envOfC qual (defScope st) s.heap.objs.size f cdv)) → sp vs H Q E0 →
      ∃ t, PSs (cxOf CX0 P w K mg base N qual (defScope st) f cdv A outer s H E0).nox (defBody st) t ∧ t { nx := fun _ H' => Q .non H', rt := Q } (start N vs) H) : FnG P w K mg base (k + 1) f fd ps sp := by
  obtain ⟨oc, od, kV, doc, pm, an, cdv, ct, osl, rfl, lk, hcd⟩ := F.ex
  refine ⟨many, fun A g outer s H args us vs Q room e0 bind rel want => ?_⟩
  have old : ∀ b o, base.get? b = some o → s.heap.get? b = some o := fun b o e => (e0.bs b o e).1
  have KX : K.In s.heap := e0.mod.kin.keeps old
  have lim : s.heap.NoLimit := e0.mod.nolimit.keeps old
  have kinds : ∀ y ∈ ps.zip us, (defScope st).names.lookup y.1 = some .local ∨ ((defScope st).names.lookup y.1 = some .cell ∧ ((cellsFrom (s.heap.objs.size + 1) (defScope st).names []).lookup y.1).isSome = true) := by
    rintro ⟨n, v⟩ hy
    rcases S.par n (List.of_mem_zip hy).1 with q | q
    · exact .inl q
    · exact .inr ⟨q, PySem.W.cellsFrom_some _ _ _ (.inl q)⟩
  refine codeAny_call_function room.depth (KX _ _ lk) rfl S.co S.gen rfl (PySem.W.codeRec_of KX hcd) (bind _ _ _ _ (wpAny_newFunctionEnv_cells S.kind kinds fun env he s1 x => ?_))
  subst he
  obtain ⟨t, ht, hq⟩ := body cdv A outer s H vs Q g (room.deeper _) want
  have I := inv_start (CX := CX0) (E := E0) S room.hd e0 (many _ _ _ _ want) rel x
  refine ⟨lim.keeps x.toInCall.keep, codeAny_func (wpAny_mono (ht.nox.run [] s1 (start N vs) H _ I hq) (fun fl s' hs => ?_) fun e s' hs => hs)⟩
  cases fl with
  | ret u =>
    obtain ⟨v, σ', H', J, rv, q⟩ := hs
    exact ⟨v, H', J.os, J.bare, J.base, J.hok, rv, q⟩
  | next =>
    obtain ⟨σ', H', J, q⟩ := hs
    exact ⟨V.non, H', J.os, J.bare, J.base, J.hok, rfl, q⟩
  | brk =>
    obtain ⟨_, _, _, q⟩ := hs
    exact q.elim
  | cont =>
    obtain ⟨_, _, _, q⟩ := hs
    exact q.elim
end
/-- f(a, ..) of such a def, within such a def -/
theorem pe_callG {X : Cx} {k : Nat} {f : Addr} {fd : FuncData} {ps : List Str} {sp : Sp} {x : Str} {p pos : Pos} {e : Expr} {es : List Expr} {t : TA} (F : FnG X.prog X.w X.K X.mg X.base k f fd ps sp) (g : X.A.guards = some []) (hr : Room k X.A) (hg : Gl X x) (hm : X.mg x = some (.ref f))
    (hk : PySem.W.keepIn X.K (.ref f) = true) (hb : Binds X.K fd ps []) (ha : PA X (e :: es) t) (hdb : (x == ("__debug__" : Str)) = false := by decide)
    (he : starEach (e :: es) X.env = (false, eval e X.env) :: starEach es X.env := by rfl) (hpl : (backTo pos (starEach es X.env)).any (·.1) = false := by rfl) : PE X (.Call (.Name x p) (e :: es) [] pos) (tCall sp [] E0 t) := by
  constructor
  intro pins s σ H Q I h
  refine wpAny_Call_Name_kw (ld_glob I hg hm (PySem.W.callWith_K (h₀ := X.base) I.ok.mod.kin hk (thn (ha.run pos pins s σ H _ I h) ?_) he hpl) hdb)
  rintro us s1 ⟨vs, H1, I1, r, q⟩
  refine ⟨I1.kIn, ?_⟩
  have r2 : Vals (vs ++ []) (us ++ []) := r.append .nil
  have hl : (us ++ []).length = ps.length := by rw [← r2.length]; exact F.many _ _ _ _ q
  refine wpAny_call (codeAny_mono (F.go X.A g X.stack s1 H1 ⟨us, []⟩ (us ++ []) (vs ++ []) Q hr I1.env0 (hb s1 us I1.kIn hl) r2 q) fun res s' hq => ?_)
  match res, hq with
  | .ok (.ret u), hq => exact I1.after hq
/-! ### the end of a law whose promise is of this kind -/
theorem law_callG {P : Program} {w : World} {K : PySem.W.Frag} {mg mb : Str → Option Value} {k : Nat} {fa a : Addr} {fd : FuncData} {x : Str} {sp : Sp} {s₁ : Shared} {vs : List Value} {ns : List Int}
    (KX : K.In s₁.heap) (hns : s₁.heap.Ns mainGlobals mg) (hb : s₁.heap.Ns builtinsNs mb) (hbb : ∀ x : Str, x ≠ "__name__" → mb x = bootBuiltins x) (hlim : s₁.heap.NoLimit) (hsys : ∃ mm, s₁.heap.Ns sysModules mm) (hg : s₁.gens = #[])
    (ha : s₁.heap.get? a = some { cls := .type "list", data := .seq vs.toArray }) (hi : IntsAre vs ns) (hl : ns.length ≤ sizeLine) (hr : Room k callerA)
    (F : ∀ base : Heap, K.In base → base.Ns mainGlobals mg → (∃ mm, base.Ns sysModules mm) → FnG P w K mg base k fa fd [x] sp) (hbind : ∀ (s : Shared) (u : Value), BindsTo s fd ⟨[u], []⟩ [(x, u)])
    (hsp : ∀ H : Hp, SqL K H a (ns.map V.int) → sp [.ref a] H (fun v _ => v = .bl true) E0) :
    codeAny (model P w) callerA (.call (.ref fa) ⟨[.ref a], []⟩) (fun r s' => r = .ok (.ret (.bool true)) ∧ OldK s₁.heap s'.heap ∧ s'.os = s₁.os ∧ AllBare s'.gens) s₁ := by
  have rv := vals_ints hi
  have lenV := hi.length
  have main : ∀ H : Hp, SqL K H a (ns.map V.int) → HOk P w H s₁.heap → (∀ b, H b ≠ none → b = a ∧ K.lookup a = none ∧ ∃ u, H b = some (.frz { cls := .type "list", data := .seq vs.toArray } u)) →
      codeAny (model P w) callerA (.call (.ref fa) ⟨[.ref a], []⟩) (fun r s' => r = .ok (.ret (.bool true)) ∧ OldK s₁.heap s'.heap ∧ s'.os = s₁.os ∧ AllBare s'.gens) s₁ := by
    intro H hS ok only
    have free : ∀ {b : Addr} {o : Obj}, s₁.heap.get? b = some o → (H b ≠ none → False) → (hidT s₁.heap H).get? b = some o := fun {b o} e n => hidT_get e (by
      cases q : H b with
      | none => rfl
      | some u => exact (n (by rw [q]; exact fun z => nomatch z)).elim)
    have dct : ∀ {b : Addr} {m : Str → Option Value}, s₁.heap.Ns b m → (hidT s₁.heap H).Ns b m := by
      rintro b m ⟨o, es, ep, e, d, r⟩
      refine ⟨o, es, ep, free e fun n => ?_, d, r⟩
      obtain ⟨rfl, _, _⟩ := only b n
      rw [ha] at e
      cases e
      cases d
    have kin : K.In (hidT s₁.heap H) := fun b o e => free (KX b o e) fun n => by
      obtain ⟨rfl, z, _⟩ := only b n
      rw [z] at e
      cases e
    have mod : Mod K mg (hidT s₁.heap H) := ⟨kin, dct hns, ⟨mb, dct hb, hbb⟩, by obtain ⟨mc, h1, h2⟩ := hlim; exact ⟨mc, dct h1, h2⟩⟩
    have sys : ∃ mm, (hidT s₁.heap H).Ns sysModules mm := by obtain ⟨mm, h⟩ := hsys; exact ⟨mm, dct h⟩
    have env : Env0 P w K mg (hidT s₁.heap H) callerA [] s₁ H := ⟨rfl, mod, fun _ _ => of_hidT, Nat.le_of_eq (hidT_size _ _), trivial, fun _ hb => absurd hb List.not_mem_nil, ok, .of_eq hg⟩
    refine codeAny_mono ((F _ kin (dct hns) sys).go callerA rfl [] s₁ H ⟨[.ref a], []⟩ [.ref a] [.ref a] _ hr env (hbind s₁ (.ref a)) (.cons rfl .nil) (hsp H hS)) fun r s' h => ?_
    match r, h with
    | .ok (.ret u), ⟨v, H', os, bare, un, ok', rel, q⟩ =>
      subst q
      cases (show u = Value.bool true from rel)
      refine ⟨rfl, OldK.of_keep fun b o e => ?_, os, bare⟩
      cases q : H b with
      | none => exact un.keep b o e q (fun z => nomatch z) fun z => nomatch z
      | some u =>
        obtain ⟨rfl, _, u', z⟩ := only b (by rw [q]; exact fun z => nomatch z)
        rw [ha] at e
        cases e
        exact (ok' b _ (un.frzs b _ _ z)).1
  cases hk : K.lookup a with
  | some o =>
    have e := KX a o hk
    rw [ha] at e
    cases e
    exact main (fun _ => none) (.inr ⟨_, vs.toArray, _, hk, rfl, rfl, rfl, by rw [List.size_toArray, lenV]; exact hl, rv⟩) (fun b u z => nomatch (show (none : Option HO) = some u from z)) fun b z => absurd rfl z
  | none =>
    refine main (fun b => if b = a then some (.frz { cls := .type "list", data := .seq vs.toArray } (.lst (ns.map V.int))) else none) (.inl (.inr ⟨_, if_pos rfl⟩)) (fun b u z => ?_) fun b z => ?_
    · by_cases q : b = a
      · dsimp only at z
        rw [if_pos q] at z
        cases z
        rw [q]
        exact ⟨ha, by rw [List.length_map]; exact hl, vs, _, rv, ha⟩
      · dsimp only at z
        rw [if_neg q] at z
        cases z
    · by_cases q : b = a
      · exact ⟨q, hk, _, if_pos q⟩
      · exact absurd (if_neg q) z
theorem walkG {l : PySem.W.OpenLaw} {n k : Nat} {q : Program} {loose : List Str} {XP : (Str → Option Value) → Heap → Prop} {YP : World → Heap → Prop} {d : DefRec} {K : Params → PySem.W.Frag} {sp : World → Sp} {x : Str} (hn : l.most = some n) (hn2 : n ≤ sizeLine) (hdf : d.params.defaults = [])
    (him : importsNone q = true) (hr : Room k callerA) (hY : ∀ (w : World) (h : Heap), YP w h → (K w.params).In h)
    (F : ∀ (w : World) (mg : Str → Option Value) (fa : Addr) (h : Heap), (K w.params).In h → h.Ns mainGlobals mg → mg d.name = some (.ref fa) →
      ∃ fd : FuncData, (∀ (s : Shared) (u : Value), BindsTo s fd ⟨[u], []⟩ [(x, u)]) ∧ ∀ base : Heap, (K w.params).In base → base.Ns mainGlobals mg → (∃ mm, base.Ns sysModules mm) → FnG l.prog w (K w.params) mg base k fa fd [x] (sp w))
    (hsp : ∀ (w : World) (H : Hp) (a : Addr) (ns : List Int), ns.length ≤ n → SqL (K w.params) H a (ns.map V.int) → sp w [.ref a] H (fun v _ => v = .bl true) E0) : PySem.W.WalkO q loose XP YP l.row.toRowW d [] (fun f vs => PySem.call f vs) :=
  Att.attach_call hn hdf fun w _ _ mg _ fa _ _ _ _ a _ ns G Y _ _ _ hmg hobj hints hlen hg => by
    have KX := hY w _ Y
    obtain ⟨fd, hb, hF⟩ := F w mg fa _ KX G.T.g hmg
    obtain ⟨mm, hm, _⟩ := (G.T.seer him).mods
    exact law_callG KX G.T.g G.T.b G.T.builtins G.T.nolimit ⟨mm, hm⟩ hg hobj hints (Nat.le_trans hlen hn2) hr hF hb fun H hS => hsp w H a ns hlen hS
/-! ### repr of data: none, bools, ints, texts, lists, tuples, dicts by ints and texts -/
def keyD : Key → PyData
  | .inl i => .int i
  | .inr x => .str x
mutual
/-- in the heap H the value is this data -/
inductive Dr (K : PySem.W.Frag) (H : Hp) (N : Addr → Prop) : V → PyData → Prop
  | non : Dr K H N .non .none
  | bl (b : Bool) : Dr K H N (.bl b) (.bool b)
  | int (i : Int) : Dr K H N (.int i) (.int i)
  | str (x : Str) : Dr K H N (.str x) (.str x)
  | lst {a : Addr} {xs : List V} {ds : List PyData} (n : N a) (h : SqL K H a xs) (all : DrAll K H N xs ds) : Dr K H N (.ref a) (.list ds)
  | tup {a : Addr} {xs : List V} {ds : List PyData} (n : N a) (h : SqT K H a xs) (all : DrAll K H N xs ds) : Dr K H N (.ref a) (.tuple ds)
  | dic {a : Addr} {kvs : List (Key × V)} {ds : List (PyData × PyData)} (n : N a) (h : Rd H a (.dK kvs)) (all : DrKv K H N kvs ds) : Dr K H N (.ref a) (.dict ds)
inductive DrAll (K : PySem.W.Frag) (H : Hp) (N : Addr → Prop) : List V → List PyData → Prop
  | nil : DrAll K H N [] []
  | cons {v : V} {vs : List V} {d : PyData} {ds : List PyData} (h : Dr K H N v d) (t : DrAll K H N vs ds) : DrAll K H N (v :: vs) (d :: ds)
inductive DrKv (K : PySem.W.Frag) (H : Hp) (N : Addr → Prop) : List (Key × V) → List (PyData × PyData) → Prop
  | nil : DrKv K H N [] []
  | cons {k : Key} {v : V} {kvs : List (Key × V)} {d : PyData} {ds : List (PyData × PyData)} (h : Dr K H N v d) (t : DrKv K H N kvs ds) : DrKv K H N ((k, v) :: kvs) ((keyD k, d) :: ds)
end
mutual
theorem Dr.move {K : PySem.W.Frag} {H H' : Hp} {N N' : Addr → Prop} (k : ∀ a o, N a → H a = some o → H' a = some o) (m : ∀ a, N a → N' a) : ∀ {v : V} {d : PyData}, Dr K H N v d → Dr K H' N' v d
  | _, _, .non => .non
  | _, _, .bl b => .bl b
  | _, _, .int i => .int i
  | _, _, .str x => .str x
  | _, _, .lst (a := a) n h all => .lst (m _ n) (by
    rcases h with (h | ⟨o, h⟩) | h
    · exact .inl (.inl (k _ _ n h))
    · exact .inl (.inr ⟨o, k _ _ n h⟩)
    · exact .inr h) (all.move k m)
  | _, _, .tup n h all => .tup (m _ n) (by
    rcases h with (h | ⟨o, h⟩) | h
    · exact .inl (.inl (k _ _ n h))
    · exact .inl (.inr ⟨o, k _ _ n h⟩)
    · exact .inr h) (all.move k m)
  | _, _, .dic n h all => .dic (m _ n) (by
    rcases h with h | ⟨o, h⟩
    · exact .inl (k _ _ n h)
    · exact .inr ⟨o, k _ _ n h⟩) (all.move k m)
theorem DrAll.move {K : PySem.W.Frag} {H H' : Hp} {N N' : Addr → Prop} (k : ∀ a o, N a → H a = some o → H' a = some o) (m : ∀ a, N a → N' a) : ∀ {vs : List V} {ds : List PyData}, DrAll K H N vs ds → DrAll K H' N' vs ds
  | _, _, .nil => .nil
  | _, _, .cons h t => .cons (h.move k m) (t.move k m)
theorem DrKv.move {K : PySem.W.Frag} {H H' : Hp} {N N' : Addr → Prop} (k : ∀ a o, N a → H a = some o → H' a = some o) (m : ∀ a, N a → N' a) : ∀ {kvs : List (Key × V)} {ds : List (PyData × PyData)}, DrKv K H N kvs ds → DrKv K H' N' kvs ds
  | _, _, .nil => .nil
  | _, _, .cons h t => .cons (h.move k m) (t.move k m)
end
theorem DrAll.len {K : PySem.W.Frag} {H : Hp} {N : Addr → Prop} : ∀ {vs : List V} {ds : List PyData}, DrAll K H N vs ds → vs.length = ds.length
  | _, _, .nil => rfl
  | _, _, .cons _ t => congrArg (· + 1) t.len
theorem DrAll.snoc {K : PySem.W.Frag} {H : Hp} {N : Addr → Prop} {v : V} {d : PyData} (h : Dr K H N v d) : ∀ {vs : List V} {ds : List PyData}, DrAll K H N vs ds → DrAll K H N (vs ++ [v]) (ds ++ [d])
  | _, _, .nil => .cons h .nil
  | _, _, .cons h1 t => .cons h1 (t.snoc h)
theorem DrAll.get {K : PySem.W.Frag} {H : Hp} {N : Addr → Prop} : ∀ {vs : List V} {ds : List PyData} {i : Nat} {v : V}, DrAll K H N vs ds → vs[i]? = some v → ∃ d, ds[i]? = some d ∧ Dr K H N v d
  | _, _, _, _, .nil, e => by simp at e
  | _, _, 0, _, .cons h _, e => ⟨_, rfl, by
    have e' := Option.some.inj e
    rw [← e']
    exact h⟩
  | _, _, i + 1, v, .cons _ t, e => t.get (i := i) (v := v) e
theorem read_key {h : Heap} {k : Key} {u : Value} (e : keyIs k u = true) : Reads h u (keyD k) [] := by
  rcases keyIs_shape e with ⟨i, t, rfl, rfl⟩ | ⟨x, t, rfl, rfl⟩
  · exact .int i t
  · exact .str x t
section
variable {X : Cx} {pins : List (Addr × Obj)} {σ : L2.St} {H : Hp} {s : Shared} {N : Addr → Prop}
theorem no_sys_list (I : Inv X pins σ H s) (sys : ∃ mm, X.base.Ns sysModules mm) {a : Addr} {o : Obj} {its : Array Value} {n : Nat} (e : s.heap.get? a = some o) (d : o.data = .seq its n) : a ≠ sysModules := by
  rintro rfl
  obtain ⟨mm, o', es, ep, e', d', _⟩ := sys
  rw [I.bk _ _ e'] at e
  cases e
  rw [d] at d'
  cases d'
mutual
theorem Dr.reads (I : Inv X pins σ H s) (sys : ∃ mm, X.base.Ns sysModules mm) : ∀ (d : PyData) (v : V) (u : Value), Dr X.K H N v d → RelV v u → ∃ as, Reads s.heap u d as ∧ sysModules ∉ as
  | .none, _, _, h, r => by
    cases h
    cases r
    exact ⟨_, Reads.none, List.not_mem_nil⟩
  | .bool b, _, _, h, r => by
    cases h
    cases r
    exact ⟨_, Reads.bool b, List.not_mem_nil⟩
  | .int i, _, _, h, r => by
    cases h
    obtain ⟨t, rfl⟩ := r
    exact ⟨_, Reads.int i t, List.not_mem_nil⟩
  | .str x, _, _, h, r => by
    cases h
    obtain ⟨t, rfl⟩ := r
    exact ⟨_, Reads.str x t, List.not_mem_nil⟩
  | .list ds, _, _, h, r => by
    cases h with
    | lst _ hs ha =>
      cases r
      obtain ⟨its, rv, ⟨o, n, ho, hc, _, hd⟩, _⟩ := I.list hs
      obtain ⟨as, hr, hn⟩ := DrAll.reads I sys ds _ its ha rv
      exact ⟨_, Reads.list ho hc hd hr, fun m => (List.mem_cons.mp m).elim (fun e => no_sys_list I sys ho hd e.symm) hn⟩
  | .tuple ds, _, _, h, r => by
    cases h with
    | tup _ hs ha =>
      cases r
      obtain ⟨its, rv, ⟨o, ho, hc, n, hd⟩, _⟩ := I.tuple hs
      obtain ⟨as, hr, hn⟩ := DrAll.reads I sys ds _ its ha rv
      exact ⟨_, Reads.tuple ho hc hd hr, hn⟩
  | .dict ds, _, _, h, r => by
    cases h with
    | dic _ hs ha =>
      cases r
      obtain ⟨_, hsys, vs, rel, o, es, ep, ho, hc, hd, _, ps, _⟩ := dk_rd I.hok hs
      obtain ⟨as, bs, h1, h2, h3, h4⟩ := DrKv.reads I sys ds _ vs es.toList ha rel ps
      refine ⟨_, Reads.dict ho hc.1 hd h1 h2, fun m => ?_⟩
      rcases List.mem_append.mp m with m | m
      · rcases List.mem_cons.mp m with e | m
        · rw [← e] at hsys
          cases hsys
        · exact h3 m
      · exact h4 m
theorem DrAll.reads (I : Inv X pins σ H s) (sys : ∃ mm, X.base.Ns sysModules mm) : ∀ (ds : List PyData) (vs : List V) (us : List Value), DrAll X.K H N vs ds → Vals vs us → ∃ as, ReadsAll s.heap us ds as ∧ sysModules ∉ as
  | [], _, _, h, r => by
    cases h
    cases r
    exact ⟨_, ReadsAll.nil, List.not_mem_nil⟩
  | d :: ds, _, _, h, r => by
    cases h with
    | cons h1 h2 =>
      cases r with
      | cons r1 r2 =>
        obtain ⟨as, q1, n1⟩ := Dr.reads I sys d _ _ h1 r1
        obtain ⟨bs, q2, n2⟩ := DrAll.reads I sys ds _ _ h2 r2
        exact ⟨_, ReadsAll.cons q1 q2, fun m => (List.mem_append.mp m).elim n1 n2⟩
theorem DrKv.reads (I : Inv X pins σ H s) (sys : ∃ mm, X.base.Ns sysModules mm) : ∀ (ds : List (PyData × PyData)) (kvs : List (Key × V)) (vs : List (Key × Value)) (es : List DictEntry), DrKv X.K H N kvs ds → KV kvs vs → Pairs (mixKind X.prog X.w) es vs →
    ∃ as bs, ReadsAll s.heap (es.map (·.key)) (ds.map (·.1)) as ∧ ReadsAll s.heap (es.map (·.val)) (ds.map (·.2)) bs ∧ sysModules ∉ as ∧ sysModules ∉ bs
  | [], _, _, _, h, r, p => by
    cases h
    cases r
    cases p
    exact ⟨_, _, ReadsAll.nil, ReadsAll.nil, List.not_mem_nil, List.not_mem_nil⟩
  | (_, d) :: ds, _, _, _, h, r, p => by
    cases h with
    | cons h1 h2 =>
      cases r with
      | cons r1 r2 =>
        cases p with
        | cons p1 p2 p3 =>
          obtain ⟨e1, e2⟩ := r1
          obtain ⟨as, q1, n1⟩ := Dr.reads I sys d _ _ h1 e2
          obtain ⟨bs, cs, q2, q3, n2, n3⟩ := DrKv.reads I sys ds _ _ _ h2 r2 p3
          have e1' : _ = _ := e1
          rw [← e1'] at p1
          refine ⟨[] ++ bs, as ++ cs, ReadsAll.cons (read_key p1) q2, ReadsAll.cons (by show Reads _ (DictEntry.val _) d as; rw [p2]; exact q1) q3, by rw [List.nil_append]; exact n2, fun m => (List.mem_append.mp m).elim n1 n3⟩
end
end
/-- repr(x) -/
def rRepr (K : PySem.W.Frag) : List V → Hp → VK → Prop := fun xs H Q => ∃ (x : V) (d : PyData) (N : Addr → Prop), xs = [x] ∧ Dr K H N x d ∧ d.showable = true ∧ d.depth ≤ 60 ∧ d.shown.length ≤ sizeLine ∧ Q (.str d.shown) H
theorem call_repr {X : Cx} (g : X.A.guards = some []) (hu : X.A.units + 64 < cLine) (sys : ∃ mm, X.base.Ns sysModules mm) : CallR X (.builtin "repr") (rRepr X.K) := by
  intro pins s σ H xs us Q I r h
  obtain ⟨x, d, N, rfl, hd, hs, hz, hl, q⟩ := h
  obtain ⟨u, rfl, r1⟩ := vals1 r
  obtain ⟨as, hr, hn⟩ := Dr.reads I sys d x u hd r1
  have fin : ∀ (u : Tok) h' tk, (∀ b o, s.heap.get? b = some o → h'.get? b = some o) → EP X pins σ Q (.str d.shown u) { s with heap := h', toks := tk } := fun u h' tk hk => ⟨.str d.shown, H, I.kept hk, ⟨u, rfl⟩, q⟩
  cases hd with
  | non =>
    cases r1
    exact PySem.P.repr_of_none (fin _ s.heap _ fun _ _ e => e)
  | bl b =>
    cases r1
    cases b <;> exact PySem.P.repr_of_bool (fin _ s.heap _ fun _ _ e => e)
  | int i =>
    obtain ⟨t, rfl⟩ := r1
    exact PySem.P.repr_of_int (of_decide_eq_true (by simpa only [PyData.showable] using hs)) (fin _ s.heap _ fun _ _ e => e)
  | str z =>
    obtain ⟨t, rfl⟩ := r1
    exact PySem.P.repr_of_str (fin _ s.heap _ fun _ _ e => e) (by simpa only [PyData.shown] using hl)
  | lst _ h1 h2 =>
    cases r1
    exact repr_of_reads' (h₀ := s.heap) hr hs (fun _ => hn) g (by omega) (fun _ _ e => e) (fun h' u tk hk => fin u h' tk hk) hl
  | tup _ h1 h2 =>
    cases r1
    exact repr_of_reads' (h₀ := s.heap) hr hs (fun _ => hn) g (by omega) (fun _ _ e => e) (fun h' u tk hk => fin u h' tk hk) hl
  | dic _ h1 h2 =>
    cases r1
    exact repr_of_reads' (h₀ := s.heap) hr hs (fun _ => hn) g (by omega) (fun _ _ e => e) (fun h' u tk hk => fin u h' tk hk) hl
/-! ### texts -/
def onlyOf (y x : Str) : Bool := x.cps.toList.all fun c => y.cps.contains c
theorem takeWhile_full {α : Type} (p : α → Bool) : ∀ l : List α, decide ((l.takeWhile p).length = l.length) = l.all p
  | [] => rfl
  | a :: r => by
    have ih := takeWhile_full p r
    rw [List.takeWhile_cons, List.all_cons]
    cases ha : p a with
    | true =>
      rw [if_pos rfl, List.length_cons, List.length_cons, ← ih]
      simp
    | false =>
      rw [if_neg Bool.false_ne_true]
      simp
theorem empty_str : ("" : Str) = ⟨#[]⟩ := by decide +kernel
theorem str_ext {x y : Str} (h : x.cps.toList = y.cps.toList) : x = y := by
  cases x
  cases y
  congr 1
  exact Array.toList_inj.mp h
theorem lstrip_empty (x y : Str) : decide (V.str (Txt.lstripChars x y) = V.str "") = onlyOf y x := by
  have e : Txt.lstripChars x y = ⟨x.cps.extract (x.cps.toList.takeWhile y.cps.contains).length x.cps.size⟩ := stripBy_eq y.cps.contains true false x
  have h := takeWhile_full (fun c => y.cps.contains c) x.cps.toList
  unfold onlyOf
  rw [← h]
  apply decide_eq_decide.mpr
  have le : (x.cps.toList.takeWhile fun c => y.cps.contains c).length ≤ x.cps.toList.length := (List.takeWhile_sublist _).length_le
  constructor
  · intro q
    have q1 : Txt.lstripChars x y = "" := V.str.inj q
    rw [e, empty_str] at q1
    have q2 : (x.cps.extract (x.cps.toList.takeWhile y.cps.contains).length x.cps.size).size = 0 := by rw [Str.mk.inj q1]; rfl
    rw [Array.size_extract] at q2
    have q3 : x.cps.toList.length = x.cps.size := Array.length_toList
    have q4 : (x.cps.toList.takeWhile y.cps.contains).length ≤ x.cps.toList.length := le
    show (x.cps.toList.takeWhile y.cps.contains).length = _
    omega
  · intro q
    have q0 : (x.cps.toList.takeWhile y.cps.contains).length = x.cps.size := by
      rw [← Array.length_toList]
      exact q
    congr 1
    rw [e, empty_str, q0]
    congr 1
    simp
/-- bits alone -/
def isBits (x : Str) : Bool := onlyOf "01" x
/-- is_prefix -/
def isPfx (v : V) (w : Int) : Bool := match v with
  | .str x => decide ((x.length : Int) ≤ w) && isBits x
  | _ => false
def isStrV : V → Bool
  | .str _ => true
  | _ => false
/-- a value whose type isinstance reads: text or not -/
def TyS (K : PySem.W.Frag) (H : Hp) (v : V) : Prop := ∃ t : String, TyX K H v (.type t) ∧ PySem.W.kitOne K (.type t) (.type "str") = some (isStrV v)
theorem kit_f {K : PySem.W.Frag} {t : String} (h : kitB t "str" = some false) : PySem.W.kitOne K (.type t) (.type "str") = some false := kit_ty h
theorem TyS.of {K : PySem.W.Frag} {H : Hp} {N : Addr → Prop} {v : V} {d : PyData} (h : Dr K H N v d) : TyS K H v := by
  cases h with
  | non => exact ⟨_, .base .non, kit_f (by decide +kernel)⟩
  | bl b => exact ⟨_, .base (.bl b), kit_f (by decide +kernel)⟩
  | int i => exact ⟨_, .base (.int i), kit_f (by decide +kernel)⟩
  | str x => exact ⟨_, .base (.str x), kit_ty (r := true) (by decide +kernel)⟩
  | lst _ h _ =>
    rcases h with (h | ⟨o, h⟩) | ⟨o, _, _, h, hc, _⟩
    · exact ⟨_, .base (.lst h), kit_f (by decide +kernel)⟩
    · exact ⟨_, .base (.frz h), kit_f (by decide +kernel)⟩
    · exact ⟨_, .kList h hc, kit_f (by decide +kernel)⟩
  | tup _ h _ =>
    rcases h with (h | ⟨o, h⟩) | ⟨o, _, _, h, hc, _⟩
    · exact ⟨_, .base (.tup h), kit_f (by decide +kernel)⟩
    · exact ⟨_, .fTuple h, kit_f (by decide +kernel)⟩
    · exact ⟨_, .kTuple h hc, kit_f (by decide +kernel)⟩
  | dic _ h _ =>
    rcases h with h | ⟨o, h⟩
    · exact ⟨_, .base (.dK h), kit_f (by decide +kernel)⟩
    · exact ⟨_, .fDict h, kit_f (by decide +kernel)⟩
/-! ### the pen -/
/-- a pen stands at p: its numbers at c, its place i, its stock s, what was appended -/
def penL (c : Addr) (i s : Int) (m : List V) : HO := .lst (.ref c :: .int i :: .int s :: m)
structure PenAt (H : Hp) (p : Addr) (n : Nat) (m : List V) (c : Addr) (ns : List Int) (i s : Int) : Prop where
  at_ : H p = some (penL c i s m)
  cells : H c = some (.lst (ns.map V.int))
  len : ns.length ≤ 60
  i0 : 0 ≤ i
  i1 : i ≤ n
  s0 : 0 ≤ s
theorem PenAt.ne {H : Hp} {p c : Addr} {n : Nat} {m : List V} {ns : List Int} {i s : Int} (h : PenAt H p n m c ns i s) : c ≠ p := fun e => by
  have h1 := h.cells
  rw [e, h.at_] at h1
  have h2 := HO.lst.inj (Option.some.inj h1)
  cases ns with
  | nil => cases h2
  | cons x r => cases (List.cons.inj h2).1
theorem PenAt.mono {H : Hp} {p c : Addr} {n k : Nat} {m : List V} {ns : List Int} {i s : Int} (h : PenAt H p n m c ns i s) (hk : n ≤ k) : PenAt H p k m c ns i s :=
  ⟨h.at_, h.cells, h.len, h.i0, by have := h.i1; omega, h.s0⟩
/-- the pen behind a draw -/
theorem PenAt.next {H : Hp} {p c : Addr} {n k : Nat} {m : List V} {ns : List Int} {i s i' s' : Int} (h : PenAt H p n m c ns i s) (h0 : 0 ≤ i') (h1 : i' ≤ k) (h2 : 0 ≤ s') : PenAt (upd H p (penL c i' s' m)) p k m c ns i' s' :=
  ⟨upd_same, by rw [upd_ne h.ne]; exact h.cells, h.len, h0, h1, h2⟩
theorem PenAt.keep {H H' : Hp} {p c : Addr} {n : Nat} {m : List V} {ns : List Int} {i s : Int} (h : PenAt H p n m c ns i s) (k : Same H H') : PenAt H' p n m c ns i s :=
  ⟨k _ _ h.at_, k _ _ h.cells, h.len, h.i0, h.i1, h.s0⟩
/-- a pen at p, its numbers at c, whatever it holds -/
def Pen (H : Hp) (p c : Addr) (n : Nat) (m : List V) : Prop := ∃ ns i s, PenAt H p n m c ns i s
theorem Pen.keep {H H' : Hp} {p c : Addr} {n : Nat} {m : List V} (h : Pen H p c n m) (k : Same H H') : Pen H' p c n m := by
  obtain ⟨ns, i, s, h⟩ := h
  exact ⟨ns, i, s, h.keep k⟩
theorem Pen.mono {H : Hp} {p c : Addr} {n k : Nat} {m : List V} (h : Pen H p c n m) (hk : n ≤ k) : Pen H p c k m := by
  obtain ⟨ns, i, s, h⟩ := h
  exact ⟨ns, i, s, h.mono hk⟩
theorem Pen.ne_p {H : Hp} {p c : Addr} {n : Nat} {m : List V} (h : Pen H p c n m) {a : Addr} (e : H a = none) : a ≠ p := by
  obtain ⟨ns, i, s, h⟩ := h
  rintro rfl
  rw [h.at_] at e
  cases e
theorem Pen.ne_c {H : Hp} {p c : Addr} {n : Nat} {m : List V} (h : Pen H p c n m) {a : Addr} (e : H a = none) : a ≠ c := by
  obtain ⟨ns, i, s, h⟩ := h
  rintro rfl
  rw [h.cells] at e
  cases e
/-- a store elsewhere -/
theorem Pen.off {H : Hp} {p c : Addr} {n : Nat} {m : List V} (h : Pen H p c n m) {a : Addr} {o : HO} (h1 : a ≠ p) (h2 : a ≠ c) : Pen (upd H a o) p c n m := by
  obtain ⟨ns, i, s, h⟩ := h
  exact ⟨ns, i, s, by rw [upd_ne h1.symm]; exact h.at_, by rw [upd_ne h2.symm]; exact h.cells, h.len, h.i0, h.i1, h.s0⟩
/-- all but p is as it was -/
def But (p : Addr) (H H' : Hp) : Prop := ∀ b o, b ≠ p → H b = some o → H' b = some o
theorem But.refl (p : Addr) (H : Hp) : But p H H := fun _ _ _ e => e
theorem But.trans {p : Addr} {H H1 H2 : Hp} (a : But p H H1) (b : But p H1 H2) : But p H H2 := fun c o n e => b c o n (a c o n e)
theorem But.of_same {p : Addr} {H H' : Hp} (h : Same H H') : But p H H' := fun b o _ e => h b o e
theorem But.upd {p : Addr} {H : Hp} {o : HO} : But p H (upd H p o) := fun b x n e => by rw [upd_ne n]; exact e
/-- what is free behind was free ahead -/
theorem But.free {p : Addr} {H H' : Hp} (e : But p H H') {a : Addr} (n : a ≠ p) (h : H' a = none) : H a = none := by
  cases q : H a with
  | none => rfl
  | some o =>
    rw [e a o n q] at h
    cases h
theorem But.seq {K : PySem.W.Frag} {p : Addr} {H H' : Hp} {a : Addr} {xs : List V} (e : But p H H') (hn : a ≠ p) (h : SqL K H a xs) : SqL K H' a xs := by
  rcases h with (h | ⟨o, h⟩) | h
  · exact .inl (.inl (e _ _ hn h))
  · exact .inl (.inr ⟨o, e _ _ hn h⟩)
  · exact .inr h
theorem PenAt.but {H H' : Hp} {p c : Addr} {n k : Nat} {m : List V} {ns : List Int} {i s i' s' : Int} (h : PenAt H p n m c ns i s) (hb : But p H H') (e : H' p = some (penL c i' s' m)) (h0 : 0 ≤ i') (h1 : i' ≤ k) (h2 : 0 ≤ s') : PenAt H' p k m c ns i' s' :=
  ⟨e, hb _ _ h.ne h.cells, h.len, h0, h1, h2⟩
/-- no call makes more turns of the pen -/
abbrev PB : Nat := 1000000000000
def spPen (K : PySem.W.Frag) : Sp := fun vs H Q _ => ∃ (a : Addr) (ns : List Int), vs = [.ref a] ∧ SqL K H a (ns.map V.int) ∧ ns.length ≤ 63 ∧ ∀ H' p c, Same H H' → H p = none → H c = none → Pen H' p c 0 [] → Q (.ref p) H'
def spNext : Sp := fun vs H Q _ => ∃ (p : Addr) (n : Nat) (m : List V) (c : Addr) (ns : List Int) (i s : Int), vs = [.ref p] ∧ PenAt H p n m c ns i s ∧ n ≤ PB ∧
  ∀ (x : Int) (H' : Hp), 0 ≤ x → But p H H' → PenAt H' p (n + 1) m c ns (i + 1) s → Q (.int x) H'
def spDraw : Sp := fun vs H Q _ => ∃ (p c : Addr) (n : Nat) (m : List V) (below : Int), vs = [.ref p, .int below] ∧ Pen H p c n m ∧ n ≤ PB ∧ 0 < below ∧ below < 1073741824 ∧
  ∀ (d : Int) (H' : Hp), 0 ≤ d → d < below → But p H H' → Pen H' p c (n + 1) m → Q (.int d) H'
theorem sixty {ns : List Int} : HT.sIx ns.length 0 none = 0 ∧ HT.sIx ns.length ns.length (some 60) ≤ 60 := by
  refine ⟨HT.sIx_none _ _, ?_⟩
  rw [show HT.sIx ns.length ns.length (some 60) = min 60 ns.length from HT.sIx_nat ns.length ns.length 60]
  omega
theorem cut60 (ns : List Int) : ∃ ms : List Int, cutV (ns.map V.int) none (some 60) = ms.map V.int ∧ ms.length ≤ 60 := by
  unfold cutV
  refine ⟨(ns.drop (HT.sIx (ns.map V.int).length 0 none)).take (HT.sIx (ns.map V.int).length (ns.map V.int).length (some 60) - HT.sIx (ns.map V.int).length 0 none), ?_, ?_⟩
  · rw [List.map_take, List.map_drop]
  · rw [List.length_take, List.length_map]
    have h := (sixty (ns := ns)).2
    omega
theorem same_upd {H : Hp} {p : Addr} {o : HO} (h : H p = none) : Same H (upd H p o) := fun b x e => by
  rw [upd_ne (ne_of_none e h)]
  exact e
theorem ix1 {a b c : V} {m : List V} : ixN (a :: b :: c :: m).length 1 = some 1 := by
  unfold ixN
  rw [if_pos (by decide), if_pos (by rw [List.length_cons, List.length_cons]; omega)]
  rfl
theorem ix2 {a b c : V} {m : List V} : ixN (a :: b :: c :: m).length 2 = some 2 := by
  unfold ixN
  rw [if_pos (by decide), if_pos (by rw [List.length_cons, List.length_cons, List.length_cons]; omega)]
  rfl
theorem dpAll_ints {K : PySem.W.Frag} {H : Hp} : ∀ ns : List Int, DpAll K H (ns.map V.int) (ns.map PyData.int)
  | [] => .nil
  | n :: r => .cons (.int n) (dpAll_ints r)
theorem eqv_nil (ns : List Int) : PyData.eqv (.list (ns.map PyData.int)) (.list []) = decide (ns = []) := by
  cases ns with
  | nil => rfl
  | cons x r => rfl
/-! ### what the reprs of small data come to -/
structure OkD (L B : Nat) (d : PyData) : Prop where
  sh : d.showable = true
  dp : d.depth ≤ L
  ln : d.shown.length ≤ B
theorem OkD.mono {L B L' B' : Nat} {d : PyData} (h : OkD L B d) (h1 : L ≤ L') (h2 : B ≤ B') : OkD L' B' d := ⟨h.sh, Nat.le_trans h.dp h1, Nat.le_trans h.ln h2⟩
theorem comma_len : ((", " : String) : Str).length = 2 := by decide +kernel
theorem join_le : ∀ ts : List Str, (Str.join ", " ts).length ≤ (ts.map fun t => t.length + 2).sum
  | [] => Nat.zero_le _
  | [x] => by
    show x.length ≤ _
    rw [List.map_cons, List.sum_cons]
    omega
  | x :: y :: r => by
    have ih := join_le (y :: r)
    show (x ++ ((", " : String) : Str) ++ Str.join ", " (y :: r)).length ≤ _
    rw [strLen_append, strLen_append, comma_len, List.map_cons, List.sum_cons]
    omega
theorem sum_le_of {l : List Str} {B : Nat} (h : ∀ t ∈ l, t.length ≤ B) : (l.map fun t => t.length + 2).sum ≤ l.length * (B + 2) := by
  induction l with
  | nil => exact Nat.zero_le _
  | cons x r ih =>
    have h1 := h x List.mem_cons_self
    have h2 := ih fun t ht => h t (List.mem_cons_of_mem _ ht)
    rw [List.map_cons, List.sum_cons, List.length_cons, Nat.succ_mul]
    omega
theorem shownAll_map : ∀ ds : List PyData, PyData.shownAll ds = ds.map PyData.shown
  | [] => PyData.shownAll_nil
  | d :: ds => by rw [PyData.shownAll_cons, shownAll_map ds, List.map_cons]
theorem showableAll_all : ∀ {ds : List PyData}, (∀ d ∈ ds, d.showable = true) → PyData.showableAll ds = true := PySem.Spec.showableAll_of
theorem depthAll_le {L : Nat} : ∀ {ds : List PyData}, (∀ d ∈ ds, d.depth ≤ L) → PyData.depthAll ds ≤ L
  | [], _ => by simp only [PyData.depthAll]; exact Nat.zero_le _
  | d :: ds, h => by
    have h1 := h d List.mem_cons_self
    have h2 := depthAll_le fun x hx => h x (List.mem_cons_of_mem _ hx)
    simp only [PyData.depthAll]
    omega
theorem OkD.list {L B n : Nat} {ds : List PyData} (hn : ds.length ≤ n) (h : ∀ d ∈ ds, OkD L B d) : OkD (L + 1) (n * (B + 2) + 2) (.list ds) := by
  refine ⟨by simp only [PyData.showable]; exact showableAll_all fun d hd => (h d hd).sh, ?_, ?_⟩
  · have := depthAll_le fun d hd => (h d hd).dp
    simp only [PyData.depth]
    omega
  · rw [PyData.shown_list, shownAll_map, strLen_append, strLen_append]
    have h1 := join_le (ds.map PyData.shown)
    have h2 := sum_le_of (l := ds.map PyData.shown) (B := B) fun t ht => by
      obtain ⟨d, hd, rfl⟩ := List.mem_map.mp ht
      exact (h d hd).ln
    rw [List.length_map] at h2
    have h3 := Nat.mul_le_mul_right (B + 2) hn
    have e1 : ((("[" : String) : Str)).length = 1 := by decide +kernel
    have e2 : ((("]" : String) : Str)).length = 1 := by decide +kernel
    omega
theorem OkD.tuple {L B n : Nat} {ds : List PyData} (hn : ds.length ≤ n) (h : ∀ d ∈ ds, OkD L B d) : OkD (L + 1) (n * (B + 2) + 3) (.tuple ds) := by
  refine ⟨by simp only [PyData.showable]; exact showableAll_all fun d hd => (h d hd).sh, ?_, ?_⟩
  · have := depthAll_le fun d hd => (h d hd).dp
    simp only [PyData.depth]
    omega
  · rw [PyData.shown_tuple, shownAll_map, strLen_append, strLen_append]
    have h1 := join_le (ds.map PyData.shown)
    have h2 := sum_le_of (l := ds.map PyData.shown) (B := B) fun t ht => by
      obtain ⟨d, hd, rfl⟩ := List.mem_map.mp ht
      exact (h d hd).ln
    rw [List.length_map] at h2
    have h3 := Nat.mul_le_mul_right (B + 2) hn
    have e1 : ((("(" : String) : Str)).length = 1 := by decide +kernel
    have e2 : (((if (ds.length == 1) = true then ",)" else ")" : String) : Str)).length ≤ 2 := by split <;> decide +kernel
    omega
theorem depthKv_le {L : Nat} : ∀ {ds : List (PyData × PyData)}, (∀ d ∈ ds, d.1.depth ≤ L ∧ d.2.depth ≤ L) → PyData.depthKv ds ≤ L
  | [], _ => by simp only [PyData.depthKv]; exact Nat.zero_le _
  | (a, b) :: ds, h => by
    have h1 : a.depth ≤ L ∧ b.depth ≤ L := h (a, b) List.mem_cons_self
    have h2 := depthKv_le fun x hx => h x (List.mem_cons_of_mem _ hx)
    simp only [PyData.depthKv]
    omega
theorem shownKv_map : ∀ ds : List (PyData × PyData), PyData.shownKv ds = ds.map fun p => p.1.shown ++ ((": " : String) : Str) ++ p.2.shown
  | [] => PyData.shownKv_nil
  | (a, b) :: ds => by rw [PyData.shownKv_cons, shownKv_map ds, List.map_cons]
theorem OkD.dict {L B C n : Nat} {ds : List (PyData × PyData)} (hn : ds.length ≤ n) (h : ∀ d ∈ ds, OkD L C d.1 ∧ OkD L B d.2) : OkD (L + 1) (n * (C + B + 4) + 2) (.dict ds) := by
  refine ⟨by simp only [PyData.showable]; exact PySem.Spec.showableKv_of fun d hd => ⟨(h d hd).1.sh, (h d hd).2.sh⟩, ?_, ?_⟩
  · have := depthKv_le fun d hd => ⟨(h d hd).1.dp, (h d hd).2.dp⟩
    simp only [PyData.depth]
    omega
  · rw [PyData.shown_dict, shownKv_map, strLen_append, strLen_append]
    have h1 := join_le (ds.map fun p => p.1.shown ++ ((": " : String) : Str) ++ p.2.shown)
    have e0 : (((": " : String) : Str)).length = 2 := by decide +kernel
    have h2 := sum_le_of (l := ds.map fun p => p.1.shown ++ ((": " : String) : Str) ++ p.2.shown) (B := C + B + 2) fun t ht => by
      obtain ⟨d, hd, rfl⟩ := List.mem_map.mp ht
      have z1 := (h d hd).1.ln
      have z2 := (h d hd).2.ln
      rw [strLen_append, strLen_append, e0]
      omega
    rw [List.length_map] at h2
    have h3 := Nat.mul_le_mul_right (C + B + 2 + 2) hn
    have e1 : ((("{" : String) : Str)).length = 1 := by decide +kernel
    have e2 : ((("}" : String) : Str)).length = 1 := by decide +kernel
    have e3 : C + B + 2 + 2 = C + B + 4 := by omega
    rw [e3] at h2 h3
    omega
/-! ### dicts made of pairs -/
theorem putK_end {kvs : List (Key × V)} {k : Key} {v : V} (h : k ∉ kvs.map (·.1)) : putK kvs k v = kvs ++ [(k, v)] := by
  unfold putK
  rw [if_neg]
  intro q
  obtain ⟨p, hp, e⟩ := List.any_eq_true.mp q
  exact h (List.mem_map.mpr ⟨p, hp, of_decide_eq_true e⟩)
theorem mergeK_nd : ∀ (more kvs : List (Key × V)), ((kvs ++ more).map (·.1)).Nodup → mergeK kvs more = kvs ++ more
  | [], kvs, _ => (List.append_nil _).symm
  | (k, v) :: r, kvs, h => by
    have e : kvs ++ (k, v) :: r = (kvs ++ [(k, v)]) ++ r := by rw [List.append_assoc]; rfl
    have hk : k ∉ kvs.map (·.1) := fun m => by
      rw [List.map_append, List.nodup_append] at h
      exact h.2.2 k m k (by rw [List.map_cons]; exact List.mem_cons_self) rfl
    show mergeK (putK kvs k v) r = _
    rw [putK_end hk, e]
    rw [e] at h
    exact mergeK_nd r _ h
theorem DrKv.zip {K : PySem.W.Frag} {H : Hp} {N : Addr → Prop} : ∀ (ks : List Key) {vs : List V} {ds : List PyData}, DrAll K H N vs ds → DrKv K H N (ks.zip vs) ((ks.map keyD).zip ds)
  | [], _, _, _ => .nil
  | _ :: _, _, _, .nil => .nil
  | k :: ks, _, _, .cons h t => .cons h (DrKv.zip ks t)
theorem nodup_zip {α β : Type} {ks : List α} (h : ks.Nodup) : ∀ vs : List β, ((ks.zip vs).map (·.1)).Nodup := fun vs => by
  have e : (ks.zip vs).map (·.1) = ks.take vs.length := by
    induction ks generalizing vs with
    | nil => cases vs <;> rfl
    | cons k ks ih =>
      cases vs with
      | nil => rfl
      | cons v vs =>
        show k :: (ks.zip vs).map (·.1) = _
        rw [ih (List.nodup_cons.mp h).2]
        rfl
  rw [e]
  exact h.sublist (List.take_sublist _ _)
/-- a comprehension without tests: the item is kept -/
theorem yes_if {σ : L2.St} {H : Hp} {A B : Hp → Prop} (h : A H) : tYes σ H fun b H3 => if b = true then A H3 else B H3 := by
  unfold tYes
  dsimp only
  rw [if_pos rfl]
  exact h
/-! ### texts made of texts -/
/-- the signs of a text -/
abbrev sg (x : Str) : List Nat := x.cps.toList
theorem sg_len (x : Str) : (sg x).length = x.length := Array.length_toList
theorem sg_app (x y : Str) : sg (x ++ y) = sg x ++ sg y := by
  show ((x.cps ++ y.cps).toList : List Nat) = _
  rw [Array.toList_append]
theorem sg_empty : sg "" = [] := by rw [show ("" : Str) = ⟨#[]⟩ from empty_str]
theorem app_empty (x : Str) : x ++ ((("" : String) : Str)) = x := str_ext (by
  show sg (x ++ _) = sg x
  rw [sg_app, sg_empty, List.append_nil])
theorem sg_join : ∀ ys : List Str, sg (Txt.join "" ys) = (ys.map sg).flatten := by
  intro ys
  show sg (Builtin.Str.glued "" ys) = _
  rw [StrLaws.glued_eq_join]
  induction ys with
  | nil => rfl
  | cons y r ih =>
    cases r with
    | nil =>
      show sg y = _
      rw [List.map_cons, List.map_nil, List.flatten_cons, List.flatten_nil, List.append_nil]
    | cons z t =>
      show sg (y ++ ((("" : String) : Str)) ++ Str.join "" (z :: t)) = _
      rw [app_empty, sg_app, ih, List.map_cons (a := y), List.flatten_cons]
/-- a text that is not long, of signs that repr writes short -/
structure Sm (n : Nat) (x : Str) : Prop where
  ln : x.length ≤ n
  ch : ∀ c ∈ sg x, c < 128
theorem Sm.mono {n m : Nat} {x : Str} (h : Sm n x) (hm : n ≤ m) : Sm m x := ⟨Nat.le_trans h.ln hm, h.ch⟩
theorem Sm.app {n m : Nat} {x y : Str} (h : Sm n x) (h' : Sm m y) : Sm (n + m) (x ++ y) := ⟨by
  rw [strLen_append]
  exact Nat.add_le_add h.ln h'.ln, fun c hc => by
  rw [sg_app] at hc
  exact (List.mem_append.mp hc).elim (h.ch c) (h'.ch c)⟩
theorem Sm.cut {n : Nat} {x : Str} (h : Sm n x) (lo hi : Option Int) : Sm n (cutS x lo hi) := ⟨Nat.le_trans (cutS_length x lo hi) h.ln, fun c hc => by
  have e : sg (cutS x lo hi) = ((sg x).drop (HT.sIx x.length 0 lo)).take (HT.sIx x.length x.length hi - HT.sIx x.length 0 lo) := rfl
  rw [e] at hc
  exact h.ch c (List.mem_of_mem_drop (List.mem_of_mem_take hc))⟩
theorem Sm.one {c : Nat} (h : c < 128) : Sm 1 ⟨#[c]⟩ := ⟨Nat.le_refl _, fun d hd => by
  have hd' : d ∈ [c] := hd
  rw [List.mem_singleton.mp hd']
  exact h⟩
theorem Sm.join {ys : List Str} (h : ∀ y ∈ ys, Sm 1 y) : Sm ys.length (Txt.join "" ys) := by
  constructor
  · rw [← sg_len, sg_join]
    induction ys with
    | nil => exact Nat.le_refl _
    | cons y r ih =>
      have h1 := (h y List.mem_cons_self).ln
      have h2 := ih fun z hz => h z (List.mem_cons_of_mem _ hz)
      rw [List.map_cons, List.flatten_cons, List.length_append, List.length_cons, sg_len]
      omega
  · intro c hc
    rw [sg_join] at hc
    obtain ⟨l, hl, hc⟩ := List.mem_flatten.mp hc
    obtain ⟨y, hy, rfl⟩ := List.mem_map.mp hl
    exact (h y hy).ch c hc
theorem Sm.ok {n B : Nat} {x : Str} (h : Sm n x) (hb : 10 * n + 2 ≤ B) : OkD 0 B (.str x) := by
  refine ⟨by simp only [PyData.showable], by simp only [PyData.depth]; exact Nat.le_refl _, ?_⟩
  rw [PyData.shown_str]
  have h1 := StrLaws.reprText_len x fun c hc => Nat.lt_of_lt_of_le (h.ch c hc) (by decide)
  have h2 := h.ln
  omega
theorem sum_ones {ys : List Str} (h : ∀ y ∈ ys, Sm 1 y) : (ys.map (·.length)).sum ≤ ys.length := by
  induction ys with
  | nil => exact Nat.le_refl _
  | cons y r ih =>
    have h1 := (h y List.mem_cons_self).ln
    have h2 := ih fun z hz => h z (List.mem_cons_of_mem _ hz)
    rw [List.map_cons, List.sum_cons, List.length_cons]
    omega
/-- text * number -/
def rMulS : R2 := fun x y H Q => ∃ z n, x = .str z ∧ y = .int n ∧ MulOk z n ∧ Q (.str (Txt.mul z n)) H
theorem op_mulS {X : Cx} : OpR X (binaryOp .Mult) rMulS := by
  intro pins s σ H x y v u Q I rx ry h
  obtain ⟨z, n, rfl, rfl, ok, q⟩ := h
  obtain ⟨t, rfl⟩ := rx
  obtain ⟨t', rfl⟩ := ry
  exact SB.mul ok fun t k => ⟨.str _, H, I.tok _, ⟨_, rfl⟩, q⟩
theorem foldl_app (l : List (Array Nat)) : ∀ a : Array Nat, (l.foldl (· ++ ·) a).toList = a.toList ++ (l.map Array.toList).flatten := by
  induction l with
  | nil => intro a; simp
  | cons x r ih =>
    intro a
    rw [List.foldl_cons, ih, Array.toList_append, List.map_cons, List.flatten_cons, List.append_assoc]
theorem mul_sm {x : Str} {n : Nat} (h : Sm 1 x) (h1 : 2 ≤ n) (hx : (x.length == 0) = false) : Sm n (Txt.mul x (n : Int)) := by
  have e : Txt.mul x (n : Int) = ⟨(List.replicate n x.cps).foldl (· ++ ·) #[]⟩ := by
    unfold Txt.mul
    rw [if_neg (by omega), hx, show ((n : Int) == 1) = false from beq_eq_false_iff_ne.mpr (by omega)]
    rfl
  have e2 : sg (Txt.mul x (n : Int)) = (List.replicate n (sg x)).flatten := by
    rw [e]
    show ((List.replicate n x.cps).foldl (· ++ ·) #[]).toList = _
    rw [foldl_app, List.map_replicate]
    rfl
  constructor
  · rw [← sg_len, e2, List.length_flatten, List.map_replicate, List.sum_replicate_nat, sg_len]
    have := h.ln
    exact Nat.le_trans (Nat.mul_le_mul_left n this) (by omega)
  · intro c hc
    rw [e2] at hc
    obtain ⟨l, hl, hc⟩ := List.mem_flatten.mp hc
    rw [(List.mem_replicate.mp hl).2] at hc
    exact h.ch c hc
/-- bit in ['0', '1'] -/
theorem bit_in (c : Nat) : inV (.str ⟨#[c]⟩) [.str "0", .str "1"] = (("01" : Str)).cps.contains c := by
  have e0 : ("0" : Str) = ⟨#[48]⟩ := by decide +kernel
  have e1 : ("1" : Str) = ⟨#[49]⟩ := by decide +kernel
  have e2 : (("01" : Str)).cps = #[48, 49] := by decide +kernel
  have eq1 : ∀ d : Nat, eqV (.str ⟨#[d]⟩) (.str ⟨#[c]⟩) = (c == d) := fun d => by
    show ((⟨#[d]⟩ : Str) == ⟨#[c]⟩) = (c == d)
    rw [Bool.eq_iff_iff, beq_iff_eq, beq_iff_eq]
    constructor
    · intro h
      have h2 : ([d] : List Nat) = [c] := congrArg Array.toList (Str.mk.inj h)
      exact (List.cons.inj h2).1.symm
    · rintro rfl
      rfl
  rw [e0, e1, e2]
  show (eqV (.str ⟨#[48]⟩) (.str ⟨#[c]⟩) || (eqV (.str ⟨#[49]⟩) (.str ⟨#[c]⟩) || false)) = _
  rw [eq1, eq1, Bool.eq_iff_iff]
  simp
/-! ### rows -/
theorem bits_sm {x : Str} (h : isBits x = true) : ∀ c ∈ sg x, c < 128 := fun c hc => by
  have h1 := List.all_eq_true.mp h c hc
  have e2 : (("01" : Str)).cps = #[48, 49] := by decide +kernel
  rw [e2] at h1
  simp at h1
  omega
theorem bits_iff {x : Str} : isBits x = true ↔ ∀ c ∈ sg x, c = 48 ∨ c = 49 := by
  have e2 : (("01" : Str)).cps = #[48, 49] := by decide +kernel
  unfold isBits onlyOf
  rw [e2, List.all_eq_true]
  constructor
  · intro h c hc
    have := h c hc
    simp at this
    omega
  · intro h c hc
    have := h c hc
    simp
    omega
theorem bits_app {x y : Str} (h : isBits x = true) (h' : isBits y = true) : isBits (x ++ y) = true := bits_iff.mpr fun c hc => by
  rw [sg_app] at hc
  exact (List.mem_append.mp hc).elim (bits_iff.mp h c) (bits_iff.mp h' c)
theorem bits_sub {x y : Str} (h : isBits x = true) (k : ∀ c ∈ sg y, c ∈ sg x) : isBits y = true := bits_iff.mpr fun c hc => bits_iff.mp h c (k c hc)
theorem sg_cut (x : Str) (lo hi : Option Int) : sg (cutS x lo hi) = ((sg x).drop (HT.sIx x.length 0 lo)).take (HT.sIx x.length x.length hi - HT.sIx x.length 0 lo) := rfl
theorem bits_cut {x : Str} (h : isBits x = true) (lo hi : Option Int) : isBits (cutS x lo hi) = true := bits_sub h fun c hc => by
  rw [sg_cut] at hc
  exact List.mem_of_mem_drop (List.mem_of_mem_take hc)
/-- x[:k] -/
theorem sg_take (x : Str) (k : Nat) : sg (cutS x none (some (k : Int))) = (sg x).take k := by
  rw [sg_cut, HT.sIx_none, HT.sIx_nat, List.drop_zero, Nat.sub_zero, ← sg_len]
  rcases Nat.le_total k (sg x).length with h | h
  · rw [Nat.min_eq_left h]
  · rw [Nat.min_eq_right h, List.take_length, List.take_of_length_le h]
theorem take_len (x : Str) (k : Nat) : (cutS x none (some (k : Int))).length ≤ k := by
  rw [← sg_len, sg_take, List.length_take]
  omega
theorem bits_empty : isBits "" = true := by decide +kernel
theorem flat_str (xs : List Str) : (xs.map V.str).all flatV = true := by
  induction xs with
  | nil => rfl
  | cons x r ih => exact ih
theorem inV_str (x : Str) (xs : List Str) : inV (.str x) (xs.map V.str) = decide (x ∈ xs) := by
  induction xs with
  | nil => rfl
  | cons y r ih =>
    have e : inV (.str x) ((y :: r).map V.str) = ((y == x) || inV (.str x) (r.map V.str)) := rfl
    rw [e, ih, Bool.eq_iff_iff, Bool.or_eq_true, beq_iff_eq, decide_eq_true_iff, decide_eq_true_iff, List.mem_cons]
    exact ⟨fun h => h.imp Eq.symm id, fun h => h.imp Eq.symm id⟩
theorem dpAll_strs {K : PySem.W.Frag} {H : Hp} : ∀ xs : List Str, DpAll K H (xs.map V.str) (xs.map PyData.str)
  | [] => .nil
  | x :: r => .cons (.str x) (dpAll_strs r)
theorem shaped_strs {xs : List Str} (h : ∀ x ∈ xs, isBits x = true) : SeqAt.shaped (.list (xs.map PyData.str)) = true := by
  have h1 : PyData.canLayAll0 (xs.map PyData.str) = true := by
    induction xs with
    | nil => simp only [List.map_nil, PyData.canLayAll0]
    | cons x r ih =>
      rw [List.map_cons]
      simp only [PyData.canLayAll0, PyData.canLay0]
      rw [ih fun y hy => h y (List.mem_cons_of_mem _ hy), Bool.and_true]
      unfold PyData.strOk
      have hx := bits_sm (h x List.mem_cons_self)
      rw [Array.all_eq_true']
      intro c hc
      have := hx c (Array.mem_toList_iff.mpr hc)
      exact decide_eq_true (by omega)
  have h2 : PyData.depthAll (xs.map PyData.str) ≤ 0 := depthAll_le fun d hd => by
    obtain ⟨x, _, rfl⟩ := List.mem_map.mp hd
    simp only [PyData.depth]
    exact Nat.le_refl _
  unfold SeqAt.shaped
  rw [Bool.and_eq_true]
  refine ⟨by simp only [PyData.canLay0]; exact h1, decide_eq_true ?_⟩
  simp only [PyData.depth]
  omega
theorem eqv_nilS (xs : List Str) : PyData.eqv (.list (xs.map PyData.str)) (.list []) = decide (xs = []) := by
  cases xs with
  | nil => rfl
  | cons x r => rfl
/-- the prefixes of a map of this width, each once -/
structure PfxL (w : Nat) (xs : List Str) : Prop where
  nd : xs.Nodup
  bits : ∀ x ∈ xs, isBits x = true
  len : ∀ x ∈ xs, x.length ≤ w
/-- rows: prefixes of this width with values of this kind -/
structure RowsOk (w : Nat) (vok : V → Prop) (xs : List Str) (kvs : List (Key × V)) : Prop where
  keys : kvs.map (·.1) = xs.map Sum.inr
  pfx : PfxL w xs
  val : ∀ kv ∈ kvs, vok kv.2
def isIntV : V → Prop
  | .int _ => True
  | _ => False
def spBits : Sp := fun vs H Q _ => ∃ (p c : Addr) (n z : Nat) (m : List V), vs = [.ref p, .int z] ∧ Pen H p c n m ∧ n + 100 ≤ PB ∧ z ≤ 40 ∧
  ∀ (x : Str) (H' : Hp), But p H H' → Pen H' p c (n + 1 + z) m → isBits x = true → x.length ≤ z → Q (.str x) H'
def spSize : Sp := fun vs H Q _ => ∃ (p c : Addr) (n : Nat) (m : List V), vs = [.ref p] ∧ Pen H p c n m ∧ n + 100 ≤ PB ∧ m.length ≤ 1 ∧
  ∀ (z : Nat) (m' : List V) (H' : Hp), But p H H' → Pen H' p c (n + 1) m' → m'.length ≤ 1 → 1 ≤ z → z ≤ 32 → Q (.int z) H'
def spPrefixes : Sp := fun vs H Q _ => ∃ (p c : Addr) (n z k : Nat) (m : List V), vs = [.ref p, .int z, .int k] ∧ Pen H p c n m ∧ n + 1000 ≤ PB ∧ z ≤ 32 ∧ k ≤ 20 ∧
  ∀ (l : Addr) (xs : List Str) (H' : Hp), But p H H' → Pen H' p c (n + 1 + 8 * k) m → H l = none → H' l = some (.lst (xs.map V.str)) → PfxL z xs → xs.length ≤ k → Q (.ref l) H'
/-! ### types as isinstance reads them -/
def isIntish : V → Bool
  | .int _ => true
  | .bl _ => true
  | _ => false
def isBoolV : V → Bool
  | .bl _ => true
  | _ => false
def isWholeV : V → Bool
  | .int _ => true
  | _ => false
def isWidthV : V → Bool
  | .int z => decide ((1 : Int) ≤ z) && decide (z ≤ 32)
  | _ => false
structure TyI (K : PySem.W.Frag) (H : Hp) (v : V) (t : String) : Prop where
  ty : TyX K H v (.type t)
  int : PySem.W.kitOne K (.type t) (.type "int") = some (isIntish v)
  bool : PySem.W.kitOne K (.type t) (.type "bool") = some (isBoolV v)
theorem kitv {K : PySem.W.Frag} {t c : String} {b : Bool} (h : kitB t c = some b) : PySem.W.kitOne K (.type t) (.type c) = some b := kit_ty h
theorem TyI.of {K : PySem.W.Frag} {H : Hp} {N : Addr → Prop} {v : V} {d : PyData} (h : Dr K H N v d) : ∃ t, TyI K H v t := by
  cases h with
  | non => exact ⟨_, .base .non, kitv (b := false) (by decide +kernel), kitv (b := false) (by decide +kernel)⟩
  | bl b => exact ⟨_, .base (.bl b), kitv (b := true) (by decide +kernel), kitv (b := true) (by decide +kernel)⟩
  | int i => exact ⟨_, .base (.int i), kitv (b := true) (by decide +kernel), kitv (b := false) (by decide +kernel)⟩
  | str x => exact ⟨_, .base (.str x), kitv (b := false) (by decide +kernel), kitv (b := false) (by decide +kernel)⟩
  | lst _ h _ =>
    rcases h with (h | ⟨o, h⟩) | ⟨o, _, _, h, hc, _⟩
    · exact ⟨_, .base (.lst h), kitv (b := false) (by decide +kernel), kitv (b := false) (by decide +kernel)⟩
    · exact ⟨_, .base (.frz h), kitv (b := false) (by decide +kernel), kitv (b := false) (by decide +kernel)⟩
    · exact ⟨_, .kList h hc, kitv (b := false) (by decide +kernel), kitv (b := false) (by decide +kernel)⟩
  | tup _ h _ =>
    rcases h with (h | ⟨o, h⟩) | ⟨o, _, _, h, hc, _⟩
    · exact ⟨_, .base (.tup h), kitv (b := false) (by decide +kernel), kitv (b := false) (by decide +kernel)⟩
    · exact ⟨_, .fTuple h, kitv (b := false) (by decide +kernel), kitv (b := false) (by decide +kernel)⟩
    · exact ⟨_, .kTuple h hc, kitv (b := false) (by decide +kernel), kitv (b := false) (by decide +kernel)⟩
  | dic _ h _ =>
    rcases h with h | ⟨o, h⟩
    · exact ⟨_, .base (.dK h), kitv (b := false) (by decide +kernel), kitv (b := false) (by decide +kernel)⟩
    · exact ⟨_, .fDict h, kitv (b := false) (by decide +kernel), kitv (b := false) (by decide +kernel)⟩
/-! ### locked and as it was -/
theorem upd_back {H : Hp} {d : Addr} {u o : HO} (h : H d = some u) : upd (upd H d o) d u = H := by
  rw [upd_upd]
  funext b
  by_cases hb : b = d
  · rw [hb, upd_same, h]
  · rw [upd_ne hb]
/-- a dict comprehension over any walk -/
theorem dc_it {J : It} {n : Nat} {G : Hp → Prop} {Y : Nat → Hp → V → Hp → Prop} (w : Walk J n G Y) {g : TG} {tt : TT} {tk tv : TE} {vs : List Nat} {σ : L2.St} {H1 : Hp} {D : Addr} {Qd : Hp → Prop} (Pv : Nat → Hp → Prop) (h0 : Pv 0 (upd H1 D (.dK []))) (hG : ∀ i H, i ≤ n → Pv i H → G H)
    (hs : ∀ i x H H', i < n → Pv i H → Y i H x H' → g x (wipe σ vs) H' fun σ2 H2 => wipe σ2 vs = wipe σ vs ∧ tt σ2 H2 fun b H3 =>
      if b = true then tk σ2 H3 fun y H4 => tv σ2 H4 fun z H5 => ∃ kvs k, y = kV k ∧ H5 D = some (.dK kvs) ∧ kvs.length < sizeLine ∧ Pv (i + 1) (upd H5 D (.dK (putK kvs k z))) else Pv (i + 1) H3) (hd : ∀ H, Pv n H → Qd H) :
    ∃ W : Nat → Nat → Hp → Prop, (∃ m, W 0 m (upd H1 D (.dK []))) ∧ ∀ i m H, W i m H → (J.stop i H ∧ Qd H) ∨ (J.go i H ∧ ∃ Nx : Hp → Prop, (∀ H', Nx H' → ∃ m', m' < m ∧ W (i + 1) m' H') ∧
      ∀ x H', J.yld i H x H' → g x (wipe σ vs) H' fun σ2 H2 => wipe σ2 vs = wipe σ vs ∧ tt σ2 H2 fun b H3 =>
        if b = true then tk σ2 H3 fun y H4 => tv σ2 H4 fun z H5 => ∃ kvs k, y = kV k ∧ H5 D = some (.dK kvs) ∧ kvs.length < sizeLine ∧ Nx (upd H5 D (.dK (putK kvs k z))) else Nx H3) := by
  refine ⟨fun i m H => m + i = n ∧ Pv i H, ⟨n, rfl, h0⟩, ?_⟩
  rintro i m H ⟨hm, p⟩
  have q := hG i H (by omega) p
  rcases Nat.lt_or_ge i n with lt | ge
  · exact .inr ⟨w.goes i H lt q, Pv (i + 1), fun H' p' => ⟨m - 1, by omega, by omega, p'⟩, fun x H' y => hs i x H H' lt p (w.yields i H x H' lt q y)⟩
  · obtain rfl : i = n := by omega
    exact .inl ⟨w.stops H q, hd H p⟩
/-! ### prefixes of texts -/
def Pre (y x : Str) : Prop := sg y <+: sg x
instance (y x : Str) : Decidable (Pre y x) := inferInstanceAs (Decidable (sg y <+: sg x))
theorem startswith_iff (x y : Str) : Txt.startswith x y = decide (Pre y x) := by
  have e : Txt.startswith x y = (decide (0 + y.length ≤ x.length) && ((x.cps.extract 0 (0 + y.length)) == y.cps)) := rfl
  rw [e, Bool.eq_iff_iff, Bool.and_eq_true, decide_eq_true_iff, decide_eq_true_iff, beq_iff_eq]
  have e2 : (x.cps.extract 0 (0 + y.length)).toList = (sg x).take y.length := by simp [sg]
  constructor
  · rintro ⟨_, h⟩
    have h2 : (sg x).take y.length = sg y := by rw [← e2, h]
    show sg y <+: sg x
    rw [← h2]
    exact List.take_prefix _ _
  · intro h
    have h1 : sg y = (sg x).take (sg y).length := List.prefix_iff_eq_take.mp h
    have h3 := h.length_le
    rw [sg_len, sg_len] at h3
    refine ⟨by omega, ?_⟩
    apply Array.toList_inj.mp
    rw [e2, ← sg_len y]
    exact h1.symm
theorem pre_take (x : Str) (k : Nat) : Pre (cutS x none (some (k : Int))) x := by
  show sg _ <+: sg x
  rw [sg_take]
  exact List.take_prefix _ _
theorem pre_eq {x y : Str} (h : Pre y x) : y = cutS x none (some (y.length : Int)) := str_ext (by
  show sg y = sg _
  rw [sg_take, ← sg_len]
  exact List.prefix_iff_eq_take.mp h)
theorem pre_len {x y : Str} (h : Pre y x) : y.length ≤ x.length := by
  have := List.IsPrefix.length_le h
  rw [sg_len, sg_len] at this
  exact this
/-- the longest of xs with which x begins -/
def IsLong (xs : List Str) (x : Str) : Option Str → Prop
  | none => ∀ y ∈ xs, ¬ Pre y x
  | some y => y ∈ xs ∧ Pre y x ∧ ∀ z ∈ xs, Pre z x → z.length ≤ y.length
theorem IsLong.uniq {xs ys : List Str} {x : Str} (hm : ∀ y, y ∈ xs ↔ y ∈ ys) : ∀ {r r' : Option Str}, IsLong xs x r → IsLong ys x r' → r = r'
  | none, none, _, _ => rfl
  | none, some y, h, h' => absurd h'.2.1 (h y ((hm y).mpr h'.1))
  | some y, none, h, h' => absurd h.2.1 (h' y ((hm y).mp h.1))
  | some y, some z, h, h' => by
    have h1 := h.2.2 z ((hm z).mpr h'.1) h'.2.1
    have h2 := h'.2.2 y ((hm y).mp h.1) h.2.1
    have e : y.length = z.length := by omega
    rw [pre_eq h.2.1, pre_eq h'.2.1, e]
def optV : Option Str → V
  | none => .non
  | some x => .str x
/-! ### dicts by texts -/
theorem valV_mem {kvs : List (Key × V)} {k : Key} : (valV kvs k).isSome = true ↔ k ∈ kvs.map (·.1) := by
  unfold valV
  rw [Option.isSome_map, List.find?_isSome, List.mem_map]
  constructor
  · rintro ⟨p, hp, e⟩
    exact ⟨p, hp, of_decide_eq_true e⟩
  · rintro ⟨p, hp, e⟩
    exact ⟨p, hp, decide_eq_true e⟩
theorem inr_mem {kvs : List (Key × V)} {xs : List Str} (h : kvs.map (·.1) = xs.map Sum.inr) (y : Str) : (Sum.inr y : Key) ∈ kvs.map (·.1) ↔ y ∈ xs := by
  rw [h, List.mem_map]
  constructor
  · rintro ⟨z, hz, e⟩
    rw [← Sum.inr.inj e]
    exact hz
  · intro hy
    exact ⟨y, hy, rfl⟩
theorem key_at {kvs : List (Key × V)} {xs : List Str} (h : kvs.map (·.1) = xs.map Sum.inr) {i : Nat} {k : Key} {v : V} (e : kvs[i]? = some (k, v)) : ∃ y, xs[i]? = some y ∧ k = .inr y := by
  have h1 : (kvs.map (·.1))[i]? = some k := by rw [List.getElem?_map, e]; rfl
  rw [h, List.getElem?_map] at h1
  cases hx : xs[i]? with
  | none => rw [hx] at h1; cases h1
  | some y =>
    rw [hx] at h1
    exact ⟨y, rfl, (Option.some.inj h1).symm⟩
theorem valV_some {kvs : List (Key × V)} (nd : (kvs.map (·.1)).Nodup) {k : Key} {v : V} (h : (k, v) ∈ kvs) : valV kvs k = some v := by
  induction kvs with
  | nil => cases h
  | cons p r ih =>
    obtain ⟨k', v'⟩ := p
    rw [List.map_cons, List.nodup_cons] at nd
    rcases List.mem_cons.mp h with e | h
    · cases e
      exact valV_pos rfl
    · have hne : k' ≠ k := fun e => nd.1 (by rw [e]; exact List.mem_map.mpr ⟨_, h, rfl⟩)
      have hz := ih nd.2 h
      unfold valV at hz ⊢
      rw [List.find?_cons_of_neg (by simpa using hne)]
      exact hz
/-! ### the lines of a law: a new dict by drawn prefixes -/
theorem SqT.but {K : PySem.W.Frag} {p a : Addr} {H H' : Hp} {o : List V} {xs : List V} (e : But p H H') (hp : H p = some (.lst o)) (h : SqT K H a xs) : SqT K H' a xs := by
  rcases h with (h | ⟨u, h⟩) | h
  · exact .inl (.inl (e _ _ (ne_of h hp (fun z => nomatch z)) h))
  · exact .inl (.inr ⟨u, e _ _ (ne_of h hp (fun z => nomatch z)) h⟩)
  · exact .inr h
theorem SqT.same {K : PySem.W.Frag} {a : Addr} {H H' : Hp} {xs : List V} (e : Same H H') (h : SqT K H a xs) : SqT K H' a xs := by
  rcases h with (h | ⟨u, h⟩) | h
  · exact .inl (.inl (e _ _ h))
  · exact .inl (.inr ⟨u, e _ _ h⟩)
  · exact .inr h
def spLines (vok : V → Prop) (most : Nat) : Sp := fun vs H Q _ => ∃ (p c : Addr) (n z : Nat) (m : List V), vs = [.ref p, .int z] ∧ Pen H p c n m ∧ n + 1000 ≤ PB ∧ z ≤ 32 ∧
  ∀ (d : Addr) (xs : List Str) (kvs : List (Key × V)) (H' : Hp), But p H H' → H d = none → H' d = some (.dK kvs) → RowsOk z vok xs kvs → xs.length ≤ most → Pen H' p c (n + 200) m → Q (.ref d) H'
theorem Pen.lst {H : Hp} {p c : Addr} {n : Nat} {m : List V} (h : Pen H p c n m) : ∃ o, H p = some (.lst o) := by
  obtain ⟨ns, i, s, h⟩ := h
  exact ⟨_, h.at_⟩
/-- the loop of such a dict: pairs of a prefix and a value that is drawn -/
structure PairsAt (K : PySem.W.Frag) (H : Hp) (D : Addr) (vok : V → Prop) (xs : List Str) (ps : List Addr) (kvs : List (Key × V)) : Prop where
  at_ : H D = some (.lst (ps.map V.ref))
  prs : Paired (fun a kv => SqT K H a [kV kv.1, kv.2]) ps kvs
  keys : kvs.map (·.1) = xs.map Sum.inr
  val : ∀ kv ∈ kvs, vok kv.2
theorem PairsAt.but {K : PySem.W.Frag} {H H' : Hp} {D p : Addr} {vok : V → Prop} {xs : List Str} {ps : List Addr} {kvs : List (Key × V)} {o : List V} (h : PairsAt K H D vok xs ps kvs) (e : But p H H') (hp : H p = some (.lst o)) (hD : D ≠ p) : PairsAt K H' D vok xs ps kvs :=
  ⟨e _ _ hD h.at_, h.prs.mono fun _ _ t => SqT.but e hp t, h.keys, h.val⟩
theorem PairsAt.same {K : PySem.W.Frag} {H H' : Hp} {D : Addr} {vok : V → Prop} {xs : List Str} {ps : List Addr} {kvs : List (Key × V)} (h : PairsAt K H D vok xs ps kvs) (e : Same H H') : PairsAt K H' D vok xs ps kvs :=
  ⟨e _ _ h.at_, h.prs.mono fun _ _ t => SqT.same e t, h.keys, h.val⟩
theorem PairsAt.snoc {K : PySem.W.Frag} {H : Hp} {D : Addr} {vok : V → Prop} {xs : List Str} {ps : List Addr} {kvs : List (Key × V)} (h : PairsAt K H D vok xs ps kvs) {y : Str} {v : V} (hv : vok v) {t : Addr} (ht : H t = none) :
    PairsAt K (upd (upd H t (.tup [.str y, v])) D (.lst (ps.map V.ref ++ [.ref t]))) D vok (xs ++ [y]) (ps ++ [t]) (kvs ++ [(.inr y, v)]) := by
  have nt : t ≠ D := fun e => by
    rw [e, h.at_] at ht
    cases ht
  refine ⟨by rw [upd_same, List.map_append]; rfl, Paired.snoc (h.prs.mono fun a kv q => ?_) (.inl (.inl (by rw [upd_ne nt, upd_same]; rfl))), by rw [List.map_append, List.map_append, h.keys]; rfl, fun kv hk => ?_⟩
  · refine SqT.but (p := D) (H := upd H t (.tup [.str y, v])) .upd (by rw [upd_ne nt.symm]; exact h.at_) (SqT.same (same_upd ht) q)
  · rcases List.mem_append.mp hk with hk | hk
    · exact h.val kv hk
    · rw [List.mem_singleton.mp hk]
      exact hv
theorem pair_merge {K : PySem.W.Frag} {H : Hp} {D : Addr} {vok : V → Prop} {xs : List Str} {ps : List Addr} {kvs : List (Key × V)} (h : PairsAt K H D vok xs ps kvs) (nd : xs.Nodup) : mergeK [] kvs = kvs := by
  have e : (([] ++ kvs : List (Key × V)).map (·.1)).Nodup := by
    rw [List.nil_append, h.keys]
    exact nd.map Sum.inr (fun a b h e => h (Sum.inr.inj e))
  rw [mergeK_nd kvs [] e, List.nil_append]
/-- such a list made one longer: what stood else is as it was -/
theorem pairs_old {H H1 H3 : Hp} {D t p : Addr} {o1 o2 : HO} (hD : H D = none) (b1 : But p H H1) (b3 : But p H1 H3) (ht : H3 t = none) : But p H (upd (upd H3 t o1) D o2) := fun a o na ha => by
  have h1 := b3 a o na (b1 a o na ha)
  rw [upd_ne (ne_of_none ha hD), upd_ne (ne_of_none h1 ht)]
  exact h1
/-! ### lists of spots -/
theorem sg_mul (c n : Nat) : sg (Txt.mul ⟨#[c]⟩ (n : Int)) = List.replicate n c := by
  unfold Txt.mul
  by_cases h0 : (n : Int) < 1
  · rw [if_pos h0]
    have : n = 0 := by omega
    subst this
    rfl
  · rw [if_neg h0]
    by_cases h1 : n = 1
    · subst h1
      rfl
    · have e : (((n : Int) == 1) || ((⟨#[c]⟩ : Str).length == 0)) = false := by
        rw [show ((n : Int) == 1) = false from beq_eq_false_iff_ne.mpr (by omega)]
        rfl
      rw [e, if_neg Bool.false_ne_true]
      show ((List.replicate ((n : Int)).toNat (#[c] : Array Nat)).foldl (· ++ ·) #[]).toList = _
      rw [foldl_app, Int.toNat_natCast, List.map_replicate]
      show [] ++ (List.replicate n [c]).flatten = _
      rw [List.nil_append]
      induction n with
      | zero => rfl
      | succ k ih => 
        clear ih h0 h1 e
        induction k with
        | zero => rfl
        | succ j ih => rw [List.replicate_succ, List.flatten_cons, ih]; rfl
theorem zero_is : ("0" : Str) = ⟨#[48]⟩ := by decide +kernel
theorem one_is : ("1" : Str) = ⟨#[49]⟩ := by decide +kernel
theorem mul_ok1 {x : Str} {n : Nat} (hx : x.length ≤ 1) (hn : n ≤ 1000) : MulOk x (n : Int) := mulOk_of 1 1000 hx (by omega) (by omega) (by decide) (by decide)
theorem zeros_bits (n : Nat) : isBits (Txt.mul "0" (n : Int)) = true ∧ (Txt.mul "0" (n : Int)).length = n := by
  rw [zero_is]
  refine ⟨bits_iff.mpr fun c hc => ?_, ?_⟩
  · rw [sg_mul] at hc
    exact .inl (List.mem_replicate.mp hc).2
  · rw [← sg_len, sg_mul, List.length_replicate]
theorem ones_bits (n : Nat) : isBits (Txt.mul "1" (n : Int)) = true ∧ (Txt.mul "1" (n : Int)).length = n := by
  rw [one_is]
  refine ⟨bits_iff.mpr fun c hc => ?_, ?_⟩
  · rw [sg_mul] at hc
    exact .inr (List.mem_replicate.mp hc).2
  · rw [← sg_len, sg_mul, List.length_replicate]
/-- texts of bits, none longer than z -/
def AllS (z : Nat) (vs : List V) : Prop := ∀ v ∈ vs, ∃ x, v = .str x ∧ isBits x = true ∧ x.length ≤ z
theorem AllS.nil {z : Nat} : AllS z [] := fun _ h => absurd h List.not_mem_nil
theorem AllS.app {z : Nat} {vs us : List V} (h : AllS z vs) (h' : AllS z us) : AllS z (vs ++ us) := fun v hv => (List.mem_append.mp hv).elim (h v) (h' v)
theorem AllS.one {z : Nat} {x : Str} (h1 : isBits x = true) (h2 : x.length ≤ z) : AllS z [.str x] := fun v hv => ⟨x, List.mem_singleton.mp hv, h1, h2⟩
theorem AllS.rev {z : Nat} {vs : List V} (h : AllS z vs) : AllS z vs.reverse := fun v hv => h v (List.mem_reverse.mp hv)
theorem AllS.strs {z : Nat} {xs : List Str} (h : PfxL z xs) : AllS z (xs.map V.str) := fun v hv => by
  obtain ⟨x, hx, rfl⟩ := List.mem_map.mp hv
  exact ⟨x, rfl, h.bits x hx, h.len x hx⟩
theorem big_of {n : Nat} (h : n ≤ 1000) : n ≤ sizeLine := Nat.le_trans h (by decide)
theorem big_lt {n : Nat} (h : n ≤ 1000) : n < sizeLine := Nat.lt_of_le_of_lt h (by decide)
/-! ### rows whatever their order and however often they come -/
structure RowsAcc (w : Nat) (vok : V → Prop) (kvs : List (Key × V)) : Prop where
  nd : (kvs.map (·.1)).Nodup
  all : ∀ kv ∈ kvs, ∃ y, kv.1 = .inr y ∧ isBits y = true ∧ y.length ≤ w ∧ vok kv.2
theorem RowsAcc.put {w : Nat} {vok : V → Prop} {kvs : List (Key × V)} (h : RowsAcc w vok kvs) {y : Str} {v : V} (h1 : isBits y = true) (h2 : y.length ≤ w) (h3 : vok v) : RowsAcc w vok (putK kvs (.inr y) v) := by
  by_cases hm : (Sum.inr y : Key) ∈ kvs.map (·.1)
  · have e : putK kvs (.inr y) v = kvs.map (fun kv => if kv.1 = .inr y then (kv.1, v) else kv) := by
      unfold putK
      rw [if_pos]
      obtain ⟨p, hp, e⟩ := List.mem_map.mp hm
      exact List.any_eq_true.mpr ⟨p, hp, decide_eq_true e⟩
    rw [e]
    constructor
    · rw [List.map_map]
      have e2 : (Prod.fst ∘ fun kv : Key × V => if kv.1 = .inr y then (kv.1, v) else kv) = Prod.fst := by
        funext kv
        show (if kv.1 = .inr y then (kv.1, v) else kv).1 = kv.1
        split <;> rfl
      rw [e2]
      exact h.nd
    · intro kv hkv
      obtain ⟨p, hp, rfl⟩ := List.mem_map.mp hkv
      by_cases hy : p.1 = .inr y
      · rw [if_pos hy]
        exact ⟨y, hy, h1, h2, h3⟩
      · rw [if_neg hy]
        exact h.all p hp
  · rw [putK_end hm]
    constructor
    · rw [List.map_append, List.nodup_append]
      refine ⟨h.nd, List.nodup_cons.mpr ⟨List.not_mem_nil, List.nodup_nil⟩, fun a ha b hb e => hm ?_⟩
      have e2 : b = .inr y := List.mem_singleton.mp hb
      rw [← e2, ← e]
      exact ha
    · intro kv hkv
      rcases List.mem_append.mp hkv with hkv | hkv
      · exact h.all kv hkv
      · rw [List.mem_singleton.mp hkv]
        exact ⟨y, rfl, h1, h2, h3⟩
theorem RowsAcc.merge {w : Nat} {vok : V → Prop} : ∀ {more kvs : List (Key × V)}, RowsAcc w vok kvs → (∀ kv ∈ more, ∃ y, kv.1 = .inr y ∧ isBits y = true ∧ y.length ≤ w ∧ vok kv.2) → RowsAcc w vok (mergeK kvs more)
  | [], _, h, _ => h
  | (k, v) :: r, kvs, h, hm => by
    obtain ⟨y, e, h1, h2, h3⟩ := hm (k, v) List.mem_cons_self
    have e' : k = .inr y := e
    subst e'
    show RowsAcc w vok (mergeK (putK kvs (.inr y) v) r)
    exact RowsAcc.merge (h.put h1 h2 h3) fun kv hk => hm kv (List.mem_cons_of_mem _ hk)
theorem RowsAcc.ok {w : Nat} {vok : V → Prop} {kvs : List (Key × V)} (h : RowsAcc w vok kvs) : ∃ xs, RowsOk w vok xs kvs ∧ xs.length = kvs.length := by
  have key : ∀ l : List (Key × V), (∀ kv ∈ l, ∃ y, kv.1 = .inr y ∧ isBits y = true ∧ y.length ≤ w ∧ vok kv.2) → ∃ xs : List Str, l.map (·.1) = xs.map Sum.inr ∧ (∀ x ∈ xs, isBits x = true ∧ x.length ≤ w) := by
    intro l
    induction l with
    | nil => exact fun _ => ⟨[], rfl, fun _ h => absurd h List.not_mem_nil⟩
    | cons p r ih =>
      intro hl
      obtain ⟨xs, e, hx⟩ := ih fun kv hk => hl kv (List.mem_cons_of_mem _ hk)
      obtain ⟨y, ey, h1, h2, _⟩ := hl p List.mem_cons_self
      refine ⟨y :: xs, by rw [List.map_cons, List.map_cons, e, ey], fun x hx' => ?_⟩
      rcases List.mem_cons.mp hx' with rfl | hx'
      · exact ⟨h1, h2⟩
      · exact hx x hx'
  obtain ⟨xs, e, hx⟩ := key kvs h.all
  refine ⟨xs, ⟨e, ⟨?_, fun x hx' => (hx x hx').1, fun x hx' => (hx x hx').2⟩, fun kv hk => by obtain ⟨_, _, _, _, h⟩ := h.all kv hk; exact h⟩, ?_⟩
  · have hn := h.nd
    rw [e] at hn
    exact List.Pairwise.of_map Sum.inr (fun a b h e => h (by rw [e])) hn
  · have := congrArg List.length e
    rw [List.length_map, List.length_map] at this
    exact this.symm
/-! ### super().__init__(a, ..) -/
/-- an __init__ that calls its base's: its def at f, the cell of its class at cc -/
structure FunS (K : PySem.W.Frag) (file : Str) (x qual : Str) (st : Stmt) (f D : Addr) (fd : FuncData) : Prop where
  ex : ∃ (oc : Value) (od : Option Addr) (kV doc pm : Value) (an : Option Addr) (cda cc : Addr) (ct : Value) (osl : Array (Option Value)) (ck : Value) (cd : Option Addr) (vs : Array Value) (cs : Array (Option Value)) (tf : Tok) (lk : Value) (ld : Option Addr) (ls : Array (Option Value)),
    fd = PySem.W.ksFn x qual (defArgs st) (defBody st) (defScope st) .none kV doc pm an (.ref cda) ct cc ∧ K.lookup f = some ⟨oc, od, .func fd, osl⟩ ∧ PySem.W.codeIn K (.ref cda) qual = true ∧
    K.lookup cda = some ⟨ck, cd, .fields vs, cs⟩ ∧ vs[2]? = some (.str file tf) ∧ K.lookup cc = some ⟨lk, ld, .cell (some (.ref D)), ls⟩
  kp : PySem.W.keepIn K (.ref f) = true
/-- the scope of such a def: its parameters alone, and the cell -/
structure ScS (ps : List Str) (sc : Scope) : Prop where
  kind : sc.kind = .function
  co : sc.isCoroutine = false
  gen : sc.isGenerator = false
  nd : ps.Nodup
  par : ∀ x ∈ ps, sc.names.lookup x = some .local
  nocell : ∀ y ∈ sc.names, y.2 ≠ .cell
  free : ∀ y ∈ sc.names, y.2 = .free → y.1 = "__class__"
  sup : sc.names.lookup ("super" : Str) = some .globalImplicit
  cls : sc.names.lookup ("__class__" : Str) = some .free
theorem rev_get {x : Str} {v : Value} : ∀ {P : List Str} {vs : List Value} {i : Nat}, P.Nodup → P[i]? = some x → vs[i]? = some v → (P.zip vs).reverse.lookup x = some v
  | [], _, _, _, h, _ => by simp at h
  | _ :: _, [], _, _, _, h => by simp at h
  | p :: P, w :: vs, 0, nd, h1, h2 => by
    obtain rfl : p = x := by simpa using h1
    obtain rfl : w = v := by simpa using h2
    have out : (P.zip vs).reverse.lookup p = none := by
      rw [List.lookup_eq_none_iff]
      intro q hq
      have hq' := List.mem_reverse.mp hq
      have : q.1 ∈ P := (List.of_mem_zip (a := q.1) (b := q.2) hq').1
      have ne : p ≠ q.1 := by rintro e; exact (List.nodup_cons.mp nd).1 (e ▸ this)
      simpa using ne
    show ((p, w) :: P.zip vs).reverse.lookup p = _
    rw [List.reverse_cons, List.lookup_append, out]
    simp
  | p :: P, w :: vs, i + 1, nd, h1, h2 => by
    have := rev_get (i := i) (List.nodup_cons.mp nd).2 (by simpa using h1) (by simpa using h2)
    show ((p, w) :: P.zip vs).reverse.lookup x = _
    rw [List.reverse_cons, List.lookup_append, this]
    rfl
/-- the context of its body -/
def cxS (P : Program) (w : World) (K : PySem.W.Frag) (mg : Str → Option Value) (base : Heap) (N : List Str) (qual : Str) (scope : Scope) (f : Addr) (cd : Value) (cc : Addr) (A : Around) (outer : List Env) (s : Shared) (H : Hp) : Cx where
  prog := P
  w := w
  K := K
  mg := mg
  base := base
  A := A.deeper (PySem.W.ksEnv qual scope s.heap.objs.size f cd cc)
  N := N
  s_0 := s
  H_0 := H
  env := PySem.W.ksEnv qual scope s.heap.objs.size f cd cc
  outer := outer
  stack := PySem.W.ksEnv qual scope s.heap.objs.size f cd cc :: outer
  ex := []
  calm := true
  fn := fun _ => false
  pn := []
  xe := fun _ _ => False
section
variable {P : Program} {w : World} {K : PySem.W.Frag} {mg : Str → Option Value} {base : Heap}
theorem inv_super {ps : List Str} {qual : Str} {scope : Scope} {f cc : Addr} {cd : Value} {A : Around} {outer : List Env} {s : Shared} {h1 : Heap} {tk : Nat} {H : Hp} {us : List Value} {vs : List V} {D : Addr} {lk : Value} {ld : Option Addr} {ls : Array (Option Value)}
    (S : ScS ps scope) (hd : A.handled = none) (e0 : Env0 P w K mg base A outer s H) (hl : vs.length = ps.length) (r : Vals vs us) (hcc : K.lookup cc = some ⟨lk, ld, .cell (some (.ref D)), ls⟩)
    (ns : h1.Ns s.heap.objs.size (fun y => (ps.zip us).reverse.lookup y)) (hk : ∀ b o, s.heap.get? b = some o → h1.get? b = some o) :
    Inv (cxS P w K mg base ps qual scope f cd cc A outer s H) [] (vs.map some) H { s with heap := h1, toks := tk } := by
  have KX : K.In s.heap := e0.mod.kin.keeps fun b o e => (e0.bs b o e).1
  have one : ∀ {x : Str} {c : Addr}, ([("__class__", cc)] : List (Str × Addr)).lookup x = some c → x = "__class__" ∧ c = cc := by
    intro x c h
    simp only [List.lookup] at h
    split at h
    · rename_i q
      exact ⟨by simpa using q, by cases h; rfl⟩
    · cases h
  have hcb : base.get? cc = some ⟨lk, ld, .cell (some (.ref D)), ls⟩ := e0.mod.kin _ _ hcc
  have noA : ∀ b : Addr, b ∉ (cxS P w K mg base ps qual scope f cd cc A outer s H).ex := fun b z => absurd (show b ∈ ([] : List Addr) from z) (by simp)
  refine ⟨⟨e0.mod, S.kind, rfl, rfl, Nat.le_refl _, fun y z c h1 h2 => (one h1).1.trans (one h2).1.symm, fun y hy => ?_, fun y c q _ => absurd (show false = true from q) (by decide), fun _ => hd, Around.frames_deeper e0.frames, .inr ⟨rfl, rfl⟩, fun b z => absurd z (noA b), e0.bs, e0.bsz, fun b _ _ => noA b, fun b z => absurd z (noA b), e0.funs, e0.frf⟩,
    rfl, e0.bare, Un.kept hk, ⟨_, ns, fun i y v g1 g2 g3 => ?_⟩, fun y c h => ?_, e0.hok.fresh (Nat.le_refl _), fun y c h => ?_, fun p hp => absurd (show p ∈ ([] : List (Addr × Obj)) from hp) (by simp), e0.hok.kept hk, ?_⟩
  · have hy : scope.names.lookup y = some .cell ∨ scope.names.lookup y = some .free := hy
    rcases hy with hy | hy
    · exact absurd rfl (S.nocell _ (PySem.mem_of_lookup hy))
    · obtain rfl := S.free _ (PySem.mem_of_lookup hy) rfl
      exact ⟨cc, rfl⟩
  · have g2' : (vs.map some)[i]? = some (some v) := g2
    rw [List.getElem?_map] at g2'
    obtain ⟨v', ha, e⟩ := Option.map_eq_some_iff.mp g2'
    obtain rfl : v' = v := Option.some.inj e
    obtain ⟨u, hu, rv⟩ := r.get ha
    exact ⟨u, rv, .inl ⟨S.par y (List.mem_of_getElem? g1), rev_get S.nd g1 hu⟩⟩
  · obtain ⟨rfl, rfl⟩ := one h
    exact ⟨_, _, hk _ _ (KX _ _ hcc), rfl⟩
  · obtain ⟨rfl, rfl⟩ := one h
    exact (e0.bs _ _ hcb).2
  · show (vs.map some).length = ps.length
    rw [List.length_map, hl]
/-- the first statement super().__init__(a, ..), then the rest -/
theorem ok_super {x qual : Str} {st : Stmt} {f f2 C D : Addr} {fd : FuncData} {ps : List Str} {k : Nat} {file self : Str} {sp sp2 : Sp} {rest : List Stmt} {e : Expr} {es : List Expr} {p0 p1 ap pos sps : Pos} {m : Str}
    (F : FunS K file x qual st f D fd) (S : ScS ps (defScope st)) (G2 : FnR P w K mg base CX0 k f2 sp2) (fi : PySem.W.fnIn K f2 = true) (ty : PySem.W.typeIn K (.ref f2) = some (.type "function"))
    (hcd : ∃ cdD, PySem.W.clsIn K D = some cdD) (hsub : PySem.W.mroIn K C (.ref D) = some true) (hm : PySem.W.ks_superIn K C D m = some (some (.ref f2))) (hop : PySem.W.nsIn K cStatics "thirdparty.any" = some none) (hsu : mg "super" = none)
    (hfile : ((P.main.file : Str) == file) = true) (htop : (P.main.scope.names.lookup ("super" : Str)).isSome = false)
    (hb : defBody st = .Expr (.Call (.Attribute (.Call (.Name "super" p0) [] [] p1) m ap) (e :: es) [] pos) sps :: rest) (hself : ∃ ar, ((defArgs st).posonlyargs ++ (defArgs st).args).head? = some ar ∧ ar.arg = self) (h0 : ps[0]? = some self)
    (hn : (m == ("__class__" : Str)) = false)
    (hev : ∀ env, ∃ pl, eval (.Call (.Attribute (.Call (.Name "super" p0) [] [] p1) m ap) (e :: es) [] pos) env = (do
      let ov ← attributeBase (.Call (.Name "super" p0) [] [] p1) m env (eval (.Call (.Name "super" p0) [] [] p1) env)
      standAt ap.atName
      let (g, first) ← holding [ov] (getMethod ov m pl)
      callWith pos g first (backTo pos (starEach (e :: es) env)) []))
    (hsw : ∀ env, swapsWith (.Call (.Attribute (.Call (.Name "super" p0) [] [] p1) m ap) (e :: es) [] pos) none sps.line env = pure false)
    (hst : ∀ env, starEach (e :: es) env = (false, eval e env) :: starEach es env) (hpl : ∀ env, (backTo pos (starEach es env)).any (·.1) = false)
    (many : ∀ vs H Q E, sp vs H Q E → vs.length = ps.length) (hE : ∀ {vs H Q E}, sp vs H Q E → sp vs H Q E0)
    (want : ∀ (A : Around) (cda cc : Addr) (outer : List Env) (s : Shared) (H : Hp) (vs : List V) (Q : VK), Room (k + 1) A → sp vs H Q E0 → ∃ (x dx : Addr) (fs : List (Str × V)) (t : TA) (u : TS), vs[0]? = some (.ref x) ∧ H x = some (.ins C dx fs) ∧ PA (cxS P w K mg base ps qual (defScope st) f (.ref cda) cc A outer s H) (e :: es) t ∧
      PSs (cxS P w K mg base ps qual (defScope st) f (.ref cda) cc A outer s H) rest u ∧ t (vs.map some) H (fun ws H1 => sp2 (.ref x :: ws) H1 (fun _ H2 => u { nx := fun _ H' => Q .non H', rt := Q } (vs.map some) H2) E0)) :
    FnOk P w K mg base CX0 (k + 1) f fd ps sp := by
  refine ⟨many, fun A outer s H args us vs Q E hr e0 bind rel hsp => ?_⟩
  obtain ⟨oc, od, kV, doc, pm, an, cda, cc, ct, osl, ck, cdd, cvs, ccs, tf, lk, ld, ls, rfl, lf, hcode, lcda, hvs, lcc⟩ := F.ex
  have old : ∀ b o, base.get? b = some o → s.heap.get? b = some o := fun b o e => (e0.bs b o e).1
  have KX : K.In s.heap := e0.mod.kin.keeps old
  have lim : s.heap.NoLimit := e0.mod.nolimit.keeps old
  refine ks_codeAny_call_defAt (body := defBody st) (binds := ps.zip us) hr.depth (KX _ _ lf) rfl lim (PySem.W.codeRec_of KX hcode) rfl bind S.nocell (fun y hy => S.par _ (List.of_mem_zip (a := y.1) (b := y.2) hy).1) (fun h1 ns hk => ?_) S.co S.gen S.kind
  have I := inv_super (qual := qual) (f := f) (cd := .ref cda) (tk := s.toks + (ps.zip us).length) S hr.hd e0 (many _ _ _ _ hsp) rel lcc ns hk
  obtain ⟨x, dx, fs, t, u, hx0, hx, pa, pr, q⟩ := want A cda cc outer s H vs Q hr (hE hsp)
  obtain ⟨mA, O, _⟩ := ins_get I.hok hx
  obtain ⟨od', J, _⟩ := O.look
  obtain ⟨cdD, hcD⟩ := hcd
  have KX1 := I.kIn
  obtain ⟨oD, hD1, hD2⟩ : ∃ oD, h1.get? D = some oD ∧ oD.data = .cls cdD := by
    have hcD' := hcD
    unfold PySem.W.clsIn at hcD'
    split at hcD'
    · rename_i ho
      cases hcD'
      exact ⟨_, KX1 _ _ ho, rfl⟩
    · cases hcD'
  obtain ⟨mb, hb1, hb2⟩ := I.mod.blt
  obtain ⟨ar, har, ear⟩ := hself
  obtain ⟨ux, hux, rux⟩ := rel.get hx0
  obtain rfl : ux = Value.ref x := rux
  have hC : ∃ cdC, PySem.W.clsIn K C = some cdC := by
    cases z : PySem.W.clsIn K C with
    | some c => exact ⟨c, rfl⟩
    | none =>
      unfold PySem.W.ks_superIn at hm
      rw [z] at hm
      cases hm
  obtain ⟨cdC, hcC⟩ := hC
  have hm' : PySem.W.alongIn K m ((cdC.mro.dropWhile (· != .ref D)).drop 1) = some (some (.ref f2)) := by
    unfold PySem.W.ks_superIn at hm
    rw [hcC] at hm
    exact hm
  have key : PySem.wpAt (model P w) (cxS P w K mg base ps qual (defScope st) f (.ref cda) cc A outer s H).A (.func (defBody st) (cxS P w K mg base ps qual (defScope st) f (.ref cda) cc A outer s H).env) (execs (defBody st) (cxS P w K mg base ps qual (defScope st) f (.ref cda) cc A outer s H).env)
      (SP (cxS P w K mg base ps qual (defScope st) f (.ref cda) cc A outer s H) [] { nx := fun _ H' => Q .non H', rt := Q }) (fun _ _ => False) { s with heap := h1, toks := s.toks + (ps.zip us).length } := by
    have e1 := congrArg (fun b => execs b (cxS P w K mg base ps qual (defScope st) f (.ref cda) cc A outer s H).env) hb
    rw [show execs (defBody st) (cxS P w K mg base ps qual (defScope st) f (.ref cda) cc A outer s H).env = _ from e1]
    obtain ⟨pl, epl⟩ := hev (cxS P w K mg base ps qual (defScope st) f (.ref cda) cc A outer s H).env
    refine ks_wpAt_execs_cons (ks_wpAt_Expr_any (ks_wpAt_MethodCall ?_ epl) (by show ((defScope st).kind == .module && _) = false; rw [S.kind]; rfl) (hsw _))
    refine ks_wpAt_super_base S.sup S.cls hn rfl (KX1 _ _ lf) rfl har rfl (KX1 _ _ lcda) rfl hvs hfile htop ?_
    refine PySem.W.ks_loadName_global S.kind S.sup (PySem.Calls.loadGlobal_builtin (I.mod.glob.keeps I.bk) hsu (hb1.keeps I.bk) ((hb2 _ (by decide)).trans (by rfl)) ⟨rfl, ?_⟩)
    refine wpAny_loadName_free S.kind S.cls rfl ⟨_, KX1 _ _ lcc, rfl⟩ ?_
    refine wpAny_loadName_local S.kind (by rw [ear]; exact S.par self (List.mem_of_getElem? h0)) ns (by rw [ear]; exact rev_get S.nd h0 hux) ?_
    refine ks_wpAny_isType_cls hD1 hD2 ⟨rfl, ?_⟩
    refine ks_wpAny_call_super hD1 hD2 J.at_ J.cls (fun c e => ?_) (PySem.W.looks_mroIn KX1 hsub) (fun h' e ke => ?_)
    · have z := J.no
      unfold PySem.W.notCls at z
      rw [e] at z
      cases z
    have I1 := ClX.pin_new (t' := s.toks + (ps.zip us).length) I ke (Nat.le_refl _) e (fun v z => nomatch z)
    obtain ⟨of2, hof2, hof2c⟩ : ∃ of, h'.get? f2 = some of ∧ of.cls = .type "function" := by
      have ty' : (K.lookup f2).map (·.cls) = some (.type "function") := ty
      obtain ⟨of, z1, z2⟩ := Option.map_eq_some_iff.mp ty'
      exact ⟨of, I1.kIn _ _ z1, z2⟩
    refine ks_wpAny_getMethod_super e (PySem.W.looks_opaque I1.kIn hop) (l₀ := cdC.mro) (fun A Q E s k q => wpAny_bind ((PySem.W.looks_clsIn I1.kIn hcC) A _ E s k (wpAny_pure q))) rfl I1.kIn hm' hof2 hof2c (PySem.W.ks_ne KX1 J hcC) hn ?_
    have I2 := ClX.met_new (g := f2) (C := x) I1
    refine ClX.callwith_cm I2 (ClX.base_none I1 (Nat.le_refl _)) fi (thn (pa.run pos _ _ _ H _ I2 q) fun ws s3 ⟨zs, H2, I3, rv, q2⟩ => ⟨⟨ClX.pin_at I3, I3.kIn⟩, ?_⟩) (hst _) (hpl _)
    refine thn (ClX.run_cm G2 (hr.deeper _) pass0 I3 rv q2) fun r s4 ⟨v4, H4, I4, _, q4⟩ => ?_
    exact PySem.wpAt_of_wpAny (pr.run [] _ _ H4 _ (ClX.unpin I4) q4)
  refine ks_wpAt_mono key (fun fl s' hs => ?_) fun _ _ z => False.elim z
  cases fl with
  | ret v =>
    obtain ⟨v', σ', H', J, rv, q⟩ := hs
    exact ⟨v', H', J.os, J.bare, J.base, J.hok, rv, q⟩
  | next =>
    obtain ⟨σ', H', J, q⟩ := hs
    exact ⟨V.non, H', J.os, J.bare, J.base, J.hok, rfl, q⟩
  | brk =>
    obtain ⟨_, _, _, q⟩ := hs
    exact q.elim
  | cont =>
    obtain ⟨_, _, _, q⟩ := hs
    exact q.elim
end
/-! ### sets of texts -/
/-- the text that an entry of a set's table holds -/
def txV : Value → Str
  | .str k _ => k
  | _ => Str.empty
def txOf (e : Int × Value) : Str := txV e.2
/-- an entry is a text with its own hash -/
def TxE (w : World) (e : Int × Value) : Prop := ∃ k u, e.2 = Value.str k u ∧ e.1 = hashStr w k
/-- the table of a set whose members are ks -/
structure TxT (w : World) (es : Array (Int × Value)) (t : SetTable) (ks : List Str) : Prop where
  ent : ∀ e ∈ es.toList, TxE w e
  mem : (es.toList.map txOf).Perm ks
  nd : ks.Nodup
  few : es.size < scanBound
  fit : t.fits es.size = true
  ris : Ris t.place.toList
  led : w.params.followText "set-order" = true ∨ t.led = true
/-- at a the set of the texts ks -/
def TxS (w : World) (h : Heap) (a : Addr) (ks : List Str) : Prop := ∃ (o : Obj) (es : Array (Int × Value)) (ep : Nat) (t : SetTable), h.get? a = some o ∧ o.ExactSet ∧ o.data = .set es ep t ∧ TxT w es t ks
theorem TxS.keep {w : World} {h h' : Heap} {a : Addr} {ks : List Str} (R : TxS w h a ks) (k : ∀ o, h.get? a = some o → h'.get? a = some o) : TxS w h' a ks :=
  let ⟨o, es, ep, t, ho, r⟩ := R
  ⟨o, es, ep, t, k o ho, r⟩
theorem tx_is {P : Program} {w : World} {e : Int × Value} (g : TxE w e) (k : Str) : (PySem.strKind P w).is k e.2 = true ↔ txOf e = k := by
  obtain ⟨k0, u, h1, _⟩ := g
  have z : txOf e = k0 := by unfold txOf; rw [h1]; rfl
  rw [z, h1]
  constructor
  · intro q
    exact (PySem.strKind P w).inj _ _ _ (strKind_is P w k0 u) q
  · rintro rfl
    exact strKind_is P w _ u
section
variable {P : Program} {w : World} {A : Around} {E : Value → Shared → Prop} {s : Shared} {a : Addr}
theorem TxT.elems {es : Array (Int × Value)} {t : SetTable} {ks : List Str} (T : TxT w es t ks) : ElemsOf (PySem.strKind P w) es.toList := fun e he => by
  obtain ⟨k, u, h1, h2⟩ := T.ent e he
  exact ⟨⟨k, by rw [h1]; exact strKind_is P w k u, h2⟩, by rw [h1]; rfl⟩
theorem TxT.relaid {es es' : Array (Int × Value)} {t t' : SetTable} {ks : List Str} (T : TxT w es t ks) (p : es'.toList.Perm es.toList) (hf : t'.fits es'.size = true) (hr : Ris t'.place.toList) (hl : t'.led = t.led) : TxT w es' t' ks := by
  have n : es'.size = es.size := by
    rw [← Array.length_toList, ← Array.length_toList]
    exact p.length_eq
  exact ⟨fun e he => T.ent e (p.mem_iff.mp he), (p.map txOf).trans T.mem, T.nd, n ▸ T.few, hf, hr, by rw [hl]; exact T.led⟩
theorem tx_store {h : Heap} {o : Obj} {es es' : Array (Int × Value)} {ep : Nat} {t t' : SetTable} (ho : h.get? a = some o) (hd : o.data = .set es ep t) : (h.update a (Obj.putSet es' t')).get? a = some { o with data := .set es' (ep + 1) t' } :=
  L2.store_at ho hd
theorem tx_tail {g : Bool → Sem Unit} (free : ∀ (b : Bool) (r : Shared) (Z : Unit → Shared → Prop), Z () r → wpAny (model P w) A (g b) Z E r) {o : Obj} {es es1 : Array (Int × Value)} {ep : Nat} {t t2 : SetTable} {ks : List Str} (ho : s.heap.get? a = some o) (hx : o.ExactSet)
    (hd : o.data = .set es ep t) (T : TxT w es1 t2 ks) {wd : Bool} {Z : Option Bool → Shared → Prop} (hZ : ∀ h', Heap.SameBut a s.heap h' → TxS w h' a ks → Z (some true) { s with heap := h' }) :
    wpAny (model P w) A (storeSet a es1 t2 >>= fun _ => if (!wd && t2.tooFull) = true then g (relayAll t2 es1 (SetTable.grown es1.size)).2.2 >>= fun _ => storeSet a (relayAll t2 es1 (SetTable.grown es1.size)).1 (relayAll t2 es1 (SetTable.grown es1.size)).2.1 >>= fun _ => pure (some true) else pure (some true)) Z E s := by
  refine wpAny_bind (wpAny_storeSet_of ho hd ?_ (fits_of_scanBound T.few))
  have o1 := tx_store (es' := es1) (t' := t2) ho hd
  have b1 := Heap.SameBut.update s.heap a (Obj.putSet es1 t2)
  split
  · have T2 := T.relaid (relayAll_perm t2 es1 (SetTable.grown es1.size)) (relayAll_fits t2 es1 _) (L2.relayAll_ris t2 es1 _) (L2.relayAll_led t2 es1 _)
    revert T2
    generalize relayAll t2 es1 (SetTable.grown es1.size) = z
    intro T2
    refine wpAny_bind (free _ _ _ (wpAny_bind (wpAny_storeSet_of o1 rfl ?_ (fits_of_scanBound T2.few))))
    exact wpAny_pure (hZ _ (b1.trans (Heap.SameBut.update _ a _)) ⟨_, z.1, _, z.2.1, tx_store (es' := z.1) (t' := z.2.1) o1 rfl, hx, rfl, T2⟩)
  · exact wpAny_pure (hZ _ b1 ⟨_, es1, _, t2, o1, hx, rfl, T⟩)
theorem tx_add {ks : List Str} {k : Str} {u : Tok} {Z : Bool → Shared → Prop} (R : TxS w s.heap a ks) (room : ks.length + 1 < scanBound)
    (hZ : ∀ h' b ks', Heap.SameBut a s.heap h' → TxS w h' a ks' → (∀ x, x ∈ ks' ↔ x = k ∨ x ∈ ks) → ks'.length ≤ ks.length + 1 → Z b { s with heap := h' }) : wpAny (model P w) A (setAddHashed a (.str k u) ((PySem.strKind P w).hash k)) Z E s := by
  obtain ⟨o, es, ep, t, ho, hx, hd, T⟩ := R
  have hsc : (Value.str k u).scannable = true := rfl
  unfold setAddHashed setAddHashedIn
  refine wpAny_holding (wpAny_bind (wpAny_setState_of ho hd T.fit ?_))
  show wpAny _ _ (if byScan (.str k u) es = true then _ else _) _ _ _
  rw [if_pos (byScan_of hsc T.few (T.elems (P := P)))]
  unfold setAddByScan
  refine wpAny_bind (wpAny_bind (wpAny_rule (wpAny_bind (wpAny_setScan_of (strKind_is P w k u) ho hd T.fit T.elems ?_))))
  cases hf : es.toList.findIdx? (fun e => (PySem.strKind P w).is k e.2) with
  | some j =>
    obtain ⟨hj, pj, _⟩ := List.findIdx?_eq_some_iff_getElem.mp hf
    have hk : k ∈ ks := T.mem.mem_iff.mp (List.mem_map.mpr ⟨_, List.getElem_mem hj, (tx_is (T.ent _ (List.getElem_mem hj)) k).mp pj⟩)
    refine wpAny_pure (wpAny_pure (hZ s.heap _ ks (Heap.SameBut.refl a s.heap) ⟨o, es, ep, t, ho, hx, hd, T⟩ (fun x => ⟨.inr, fun q => q.elim (fun e => e ▸ hk) id⟩) (Nat.le_succ _)))
  | none =>
    have hk : k ∉ ks := fun q => by
      obtain ⟨e, he, ee⟩ := List.mem_map.mp (T.mem.mem_iff.mpr q)
      have c := List.findIdx?_eq_none_iff.mp hf e he
      rw [(tx_is (T.ent e he) k).mpr ee] at c
      cases c
    have gw : ∀ (b : Bool) {r : Shared} {Y : Unit → Shared → Prop}, Y () r → wpAny (model P w) A (match b with | true => rule "set.scan.the-table-gave-way" | false => pure ()) Y E r := fun b r Y q => by
      cases b
      · exact wpAny_pure q
      · exact wpAny_rule q
    have pm := layNew_perm t es ((PySem.strKind P w).hash k) (.str k u)
    have f1 := layNew_fits t es ((PySem.strKind P w).hash k) (.str k u)
    have r1 := L2.layNew_ris t es ((PySem.strKind P w).hash k) (.str k u) T.ris
    have l1 := L2.layNew_led t es ((PySem.strKind P w).hash k) (.str k u)
    dsimp only
    revert pm f1 r1 l1
    generalize layNew t es ((PySem.strKind P w).hash k) (.str k u) = z
    obtain ⟨es1, t1, wd, gave⟩ := z
    dsimp only
    intro pm f1 r1 l1
    rw [Array.toList_push] at pm
    have pc : es1.toList.Perm (((PySem.strKind P w).hash k, Value.str k u) :: es.toList) := pm.trans (List.perm_append_singleton _ _)
    have n1 : es1.size = es.size + 1 := by
      rw [← Array.length_toList, pc.length_eq, List.length_cons, Array.length_toList]
    have n2 : ks.length = es.size := by
      rw [← T.mem.length_eq, List.length_map, Array.length_toList]
    have mk : ∀ t2 : SetTable, t2.fits es1.size = true → Ris t2.place.toList → t2.led = t1.led → TxT w es1 t2 (k :: ks) := fun t2 q1 q2 q3 =>
      ⟨fun e he => (List.mem_cons.mp (pc.mem_iff.mp he)).elim (fun q => by rw [q]; exact ⟨k, u, rfl, rfl⟩) (T.ent e), (pc.map txOf).trans (T.mem.cons k), List.nodup_cons.mpr ⟨hk, T.nd⟩, by rw [n1, ← n2]; exact room, q1, q2, by rw [q3, l1]; exact T.led⟩
    have fin : ∀ h', Heap.SameBut a s.heap h' → TxS w h' a (k :: ks) → Z true { s with heap := h' } := fun h' sb r => hZ h' true (k :: ks) sb r (fun x => List.mem_cons) (Nat.le_refl _)
    refine wpAny_bind (gw _ ?_)
    split
    · refine wpAny_bind ?_
      rw [hashByValue_scannable 8 hsc]
      refine wpAny_pure (tx_tail (fun b r Y q => gw b q) ho hx hd (mk _ ?_ ?_ ?_) fun h' sb r => wpAny_pure (fin h' sb r))
      · first | (split <;> first | exact f1 | exact SetTable.fits_plain_off f1) | exact f1
      · first | (split <;> exact r1) | exact r1
      · first | (split <;> rfl) | rfl
    · refine wpAny_bind (wpAny_pure ?_)
      simp only [↓reduceIte]
      exact tx_tail (fun b r Y q => gw b q) ho hx hd (mk t1 f1 r1 rfl) fun h' sb r => wpAny_pure (fin h' sb r)
end
/-! ### set(a list of texts), sorted(a set of texts) -/
abbrev newSetO (w : World) : Obj := { cls := .type "set", dict := none, data := .set #[] 0 (.fresh 0 0 (!w.params.followText "set-order")) }
theorem tx_new {w : World} {h : Heap} {a : Addr} (e : h.get? a = some (newSetO w)) : TxS w h a [] := by
  refine ⟨_, #[], 0, _, e, ⟨rfl, rfl, rfl⟩, rfl, fun e he => ?_, .nil, List.nodup_nil, by decide, by rfl, List.Pairwise.nil, ?_⟩
  · simp at he
  · show _ ∨ (!w.params.followText "set-order") = true
    cases w.params.followText "set-order"
    · exact .inr rfl
    · exact .inl rfl
section
variable {P : Program} {w : World} {A : Around} {E : Value → Shared → Prop} {s : Shared}
theorem tx_fill {I S : Addr} {fp wr : List Addr} {G : Array GenState → Array GenState → Prop} {n : Nat} {Pv : Nat → Value → Prop} {St : Nat → Shared → Prop} {Z : Result → Shared → Prop} (W : WalksS P w A.in1 I fp wr G n Pv St) (nS : S ∉ fp) (xs : List Str) (en : n = xs.length) (room : xs.length + 1 < scanBound)
    (txt : ∀ i v, Pv i v → ∃ k u, xs[i]? = some k ∧ v = .str k u) : ∀ (m i : Nat) (s : Shared), n - i = m → i ≤ n → St i s → (∃ ks, TxS w s.heap S ks ∧ (∀ x, x ∈ ks ↔ x ∈ xs.take i) ∧ ks.length ≤ i) →
      (∀ s' ks, Moved (S :: wr) G s s' → TxS w s'.heap S ks → (∀ x, x ∈ ks ↔ x ∈ xs) → ks.length ≤ n → Z (.ok (.ret .none)) s') → codeAny (model P w) A (.builtin "set.update.loop" ⟨[.ref S, .ref I], []⟩) Z s := by
  have nW : S ∉ wr := fun q => nS (W.sub _ q)
  have up : ∀ b ∈ wr, b ∈ S :: wr := fun b q => List.mem_cons_of_mem _ q
  intro m
  induction m with
  | zero =>
    rintro i s hm hi st ⟨ks, R, sub, len⟩ fin
    obtain rfl : i = n := by omega
    rw [List.take_of_length_le (by omega)] at sub
    refine codeAny_builtin PyProof.Rows.F.entry_set_update_loop ?_
    rw [Around.under_plainId PyProof.Rows.F.plain_set_update_loop _]
    show wpAny _ A.in1 (pyNext (.ref I) >>= _) _ _ _
    refine wpAny_bind (W.done s _ _ st fun s' mv => ?_)
    exact wpAny_pure (fin s' ks (mv.mono up) (R.keep fun o e => mv.heap S o nW e) sub len)
  | succ m ih =>
    rintro i s hm hi st ⟨ks, R, sub, len⟩ fin
    have lt : i < n := by omega
    refine codeAny_builtin PyProof.Rows.F.entry_set_update_loop ?_
    rw [Around.under_plainId PyProof.Rows.F.plain_set_update_loop _]
    show wpAny _ A.in1 (pyNext (.ref I) >>= _) _ _ _
    refine wpAny_bind (W.item i s _ _ lt st fun v s' pv st' mv => ?_)
    obtain ⟨k, u, hk, rfl⟩ := txt i v pv
    have R1 : TxS w s'.heap S ks := R.keep fun o e => mv.heap S o nW e
    show wpAny _ A.in1 (holding [Value.str k u] (setAdd S (.str k u)) >>= _) _ _ _
    refine wpAny_bind (wpAny_holding ?_)
    unfold setAdd
    refine wpAny_holding (wpAny_bind ((PySem.strKind P w).pyHash (k := k) (strKind_is _ _ _ _) ?_))
    refine tx_add (s := { s' with toks := s'.toks + 1 }) R1 (by omega) fun h' b ks' sb R2 mem ln => ?_
    refine wpAny_pure ⟨plainId_quiet PyProof.Rows.F.plain_set_update_loop _, ih (i + 1) _ (by omega) lt (W.frame _ s' _ _ st' (Nat.le_succ _) fun c hc o e => ?_) ⟨ks', R2, fun x => ?_, by omega⟩ fun s'' ks'' mv2 R3 sub3 ln3 => ?_⟩
    · rw [sb.2 c (fun q : c = S => nS (q ▸ hc))]
      exact e
    · rw [mem x, List.take_add_one, hk, List.mem_append, sub x]
      exact ⟨fun q => q.elim (fun e => .inr (by rw [e]; exact List.mem_singleton.mpr rfl)) .inl, fun q => q.elim .inr fun e => .inl (List.mem_singleton.mp e)⟩
    · refine fin s'' ks'' (Moved.trans W.gtrans ((mv.mono up).then_heap (Nat.le_succ _) fun c o hc e => ?_) mv2) R3 sub3 ln3
      rw [sb.2 c (fun q : c = S => hc (by rw [q]; exact List.mem_cons_self))]
      exact e
set_option maxHeartbeats 8000000 in
theorem tx_make {l : Addr} {its : Array Value} (xs : List Str) {Z : Value → Shared → Prop} (calm : A.handled = none) (hl : s.heap.IsList l its) (hx : StrsAre its.toList xs) (room : xs.length + 1 < scanBound)
    (hZ : ∀ (h' : Heap) (tk : Nat) (ks : List Str), TxS w h' s.heap.objs.size ks → (∀ x, x ∈ ks ↔ x ∈ xs) → ks.length ≤ xs.length → (∀ b o, s.heap.get? b = some o → h'.get? b = some o) → Z (.ref s.heap.objs.size) { s with heap := h', toks := tk }) :
    wpAny (model P w) A (call (.type "set") [.ref l]) Z E s := by
  have many : its.size = xs.length := by
    have q := StrsAre.len_eq hx
    rw [Array.length_toList] at q
    exact q
  obtain ⟨_, _, m1⟩ := PySem.F.called_set.mro; have m2 := PySem.F.called_set.made; have m3 := PySem.F.called_set.sub
  refine wpAny_call (codeAny_of_tree ?_)
  show wpAny _ _ (callAny (.type "set") ⟨[.ref l], []⟩) _ _ _
  refine wpAny_pure ⟨Code.quiet_builtin _ (by decide +kernel), codeAny_builtin PySem.F.entry_type_call ?_⟩
  rw [Around.under_plain (weight_type_call_type "set" [.ref l] []) rfl]
  have c1 := PySem.F.called_set.notType; have c2 := PySem.F.called_set.canCreate; have c3 := PySem.F.typeCall_set_1 (.ref l)
  repeat (any_goals (first | assumption | wp_step))
  refine codeAny_mono (L2.code_set_led1 (.ref l) (E := E) (Q₁ := fun v r => v = .ref s.heap.objs.size ∧ r = { s with heap := s.heap.push (newSetO w) }) ⟨rfl, rfl⟩) fun res r1 hr => ?_
  match res, hr with
  | .error e, hr => exact hr
  | .ok (.ret v), hr =>
    obtain ⟨rfl, rfl⟩ := hr
    have at0 : (s.heap.push (newSetO w)).get? s.heap.objs.size = some (newSetO w) := Heap.get?_push_size _ rfl
    have ty0 : Shared.TypeIs { s with heap := s.heap.push (newSetO w) } (.ref s.heap.objs.size) "set" := ⟨_, at0, rfl⟩
    have i1 := PySem.F.called_set.init.lookup; have i2 := PySem.F.called_set.init.bind (.ref s.heap.objs.size)
    repeat (any_goals (first | assumption | wp_step))
    refine codeAny_mono (codeAny_call_builtin (R := wants (fun v r => v = .none ∧ ∃ h' tk ks, r = { s with heap := h', toks := tk } ∧ TxS w h' s.heap.objs.size ks ∧ (∀ x, x ∈ ks ↔ x ∈ xs) ∧ ks.length ≤ xs.length ∧ ∀ b o, s.heap.get? b = some o → h'.get? b = some o) E) PySem.F.called_set.init.plain
      PySem.F.entry_set_init (check_set_init_1 ty0 ?_)) fun res2 r2 hr2 => ?_
    · obtain ⟨⟨ocls, od, odt, osl⟩, e0, e1, nn, e2⟩ := hl
      simp only at e1 e2
      subst e1; subst e2
      have lS : l < s.heap.objs.size := Heap.lt_size e0
      have e3 := Heap.get?_push_of_some (newSetO w) e0
      have d1 := PySem.F.sub_list_set; have d2 := PySem.F.sub_list_frozenset; have d3 : (Value.type "list" == Value.type "dict") = false := by decide
      have l1 : (s.heap.push (newSetO w)).IsList l its := ⟨_, e3, rfl, nn, rfl⟩
      unfold Builtin.«set.__init__» noKeywords Builtin.Frozenset.updateFrom
      generalize hPI : pyIter = PI
      wp_walk
      subst hPI
      refine wpAny_pyIter_list l1 (wpAny_bind (wpAny_runValue ?_))
      have z1 : (s.heap.push (newSetO w)).objs.size = s.heap.objs.size + 1 := Heap.size_push ..
      have far : l ≠ (s.heap.push (newSetO w)).objs.size := by
        rw [z1]
        exact Nat.ne_of_lt (Nat.lt_succ_of_lt lS)
      have out : s.heap.objs.size ∉ [(s.heap.push (newSetO w)).objs.size, l] := by
        rw [z1, List.mem_cons, List.mem_singleton]
        exact fun q => q.elim (Nat.ne_of_lt (Nat.lt_succ_self _)) (Nat.ne_of_gt lS)
      refine tx_fill ((Walks.list (show A.in1.in1.in1.handled = none by simp [calm]) _ l far its).toS) out xs many room (fun i v hv => ?_) (its.size - 0) 0 _ rfl (Nat.zero_le _) ⟨⟨_, Heap.get?_push_size _ rfl, rfl, rfl⟩, l1.push _⟩ ⟨[], tx_new (Heap.get?_push_of_some _ at0), fun _ => Iff.rfl, Nat.le_refl _⟩ fun r ks mv R sub ln => ?_
      · have hi : i < xs.length := by
          rw [← many]
          exact (Array.getElem?_eq_some_iff.mp hv).1
        obtain ⟨u, e⟩ := SS.strs_at hx i v (by rw [Array.getElem?_toList]; exact hv)
        exact ⟨xs[i], u, List.getElem?_eq_getElem hi, by rw [e, List.getD_eq_getElem?_getD, List.getElem?_eq_getElem hi]; rfl⟩
      · obtain ⟨h', g', d', tk', os'⟩ := r
        obtain rfl : g' = s.gens := mv.gens
        obtain rfl : d' = s.drawn := mv.drawn
        obtain rfl : os' = s.os := mv.os
        show wpAny _ _ _ _ _ _
        refine wpAny_pure ?_
        show wpAny _ _ (ret Value.none) _ _ _
        refine wpAny_pure ⟨rfl, h', tk', ks, rfl, R, sub, by omega, fun b o e => ?_⟩
        have b0 : b < s.heap.objs.size := Heap.lt_size e
        refine mv.heap b o ?_ (Heap.get?_push_of_some _ (Heap.get?_push_of_some _ e))
        rw [List.mem_cons, List.mem_singleton, z1]
        exact fun q => q.elim (Nat.ne_of_lt b0) (Nat.ne_of_lt (Nat.lt_succ_of_lt b0))
    · match res2, hr2 with
      | .error e, hr2 => exact hr2
      | .ok (.ret v), hr2 =>
        obtain ⟨rfl, h', tk, ks, rfl, R, sub, ln, kp⟩ := hr2
        repeat (any_goals (first | assumption | wp_step))
        exact hZ _ _ _ R sub ln kp
theorem strs_of : ∀ l : List Value, (∀ v ∈ l, ∃ k u, v = Value.str k u) → ∃ xs, StrsAre l xs ∧ xs.length = l.length ∧ ∀ x ∈ xs, ∃ u, Value.str x u ∈ l
  | [], _ => ⟨[], .nil, rfl, fun _ h => absurd h List.not_mem_nil⟩
  | v :: l, h => by
    obtain ⟨k, u, rfl⟩ := h v List.mem_cons_self
    obtain ⟨xs, h1, h2, h3⟩ := strs_of l fun r hr => h r (List.mem_cons_of_mem _ hr)
    refine ⟨k :: xs, .cons k u h1, by rw [List.length_cons, List.length_cons, h2], fun x hx => ?_⟩
    rcases List.mem_cons.mp hx with rfl | hx
    · exact ⟨u, List.mem_cons_self⟩
    · obtain ⟨r, hr⟩ := h3 x hx
      exact ⟨r, List.mem_cons_of_mem _ hr⟩
end
section
variable {P : Program} {w : World} {A : Around} {E : Value → Shared → Prop} {s : Shared}
theorem strs_tx : ∀ {l : List Value}, (∀ v ∈ l, ∃ k u, v = Value.str k u) → StrsAre l (l.map txV)
  | [], _ => .nil
  | v :: l, h => by
    obtain ⟨k, u, rfl⟩ := h v List.mem_cons_self
    exact .cons k u (strs_tx fun x hx => h x (List.mem_cons_of_mem _ hx))
theorem tx_sorted {a : Addr} {ks : List Str} {Z : Value → Shared → Prop} (R : TxS w s.heap a ks) (calm : A.handled = none)
    (hZ : ∀ s' p (out : Array Value) (c : Nat) (ys : List Str), (∀ b o, s.heap.get? b = some o → s'.heap.get? b = some o) → s'.gens = s.gens → s'.os = s.os → s.heap.objs.size ≤ p → s'.heap.get? p = some (seqObj "list" out c) → StrsAre out.toList ys → ys.Perm ks → sortedS ys = true → Z (.ref p) s') :
    wpAny (model P w) A (call (.builtin "sorted") [.ref a]) Z E s := by
  obtain ⟨o, es, ep, t, ho, hx, hd, T⟩ := R
  refine Calls.call_function_entry kind_sorted plain_sorted entry_sorted (args_sorted1 _) ?_
  unfold Builtin.«sorted»
  refine wpAny_bind (m := checkCount "sorted" 1 1 _) (wpAny_pure (wpAny_bind (L2.collect_set (A := A.in1) calm ⟨o, ho, hx.1, hd⟩ T.fit T.few T.ris T.led fun s1 vs k1 z1 g1 o1 pm => ?_)))
  have hS : StrsAre vs (vs.map txV) := strs_tx fun v hv => by
    obtain ⟨e, he, rfl⟩ := List.mem_map.mp (pm.mem_iff.mp hv)
    obtain ⟨k, u, q, _⟩ := T.ent e he
    exact ⟨k, u, q⟩
  have p1 : (vs.map txV).Perm (es.toList.map txOf) := by
    have q := pm.map txV
    rw [List.map_map] at q
    exact q
  have len : vs.length ≤ sizeLine := by
    rw [pm.length_eq, List.length_map, Array.length_toList]
    exact fits_of_scanBound T.few
  refine wpAny_bind (wpAny_newList ?_ len)
  have at1 : (s1.heap.push (seqObj "list" vs.toArray 0)).get? s1.heap.objs.size = some (seqObj "list" vs.toArray 0) := Heap.get?_push_size _ rfl
  refine wpAny_bind (wpAny_holding (wpAny_call_entry slot_list_sort ⟨_, at1, rfl⟩ entry_list_sort (list_sort_treeKAny strKind_oneLt at1 hS.keysOf (fun v1 v2 rest e => keyKind_strs (by rw [← e]; exact hS)) len fun st' a1 a2 => ⟨_, rfl, ?_⟩) (args_list_sort _)))
  obtain ⟨ys, y1, y2, y3⟩ := sorted_out_str hS a1 a2
  obtain ⟨c, hc⟩ := sortedHeap_at (vs := vs) (out := (arrOf st').map (·.2)) at1
  refine wpAny_pure ⟨_, rfl, hZ _ s1.heap.objs.size _ c ys (fun b u e => ?_) g1 o1 z1 hc y1 (y2.trans (p1.trans T.mem)) y3⟩
  have q := k1 b u e
  have lt := Heap.lt_size q
  show (sortedHeap (s1.heap.push (seqObj "list" vs.toArray 0)) s1.heap.objs.size (vs) ((arrOf st').map (·.2))).get? b = some u
  rw [sortedHeap_old (Nat.ne_of_lt lt) (by rw [size_push']; exact Nat.lt_succ_of_lt lt)]
  exact Heap.get?_push_of_some _ q
end
/-! ### as rules -/
def TxO (w : World) (a : Addr) (ks : List Str) : HO := .ext fun h => TxS w h a ks
section
variable {X : Cx}
theorem txO_new {w : World} {P : Program} {H : Hp} {h : Heap} {a : Addr} {ks : List Str} (R : TxS w h a ks) : ObjOk P w H h a (TxO w a ks) := by
  have ⟨o, _, _, _, ho, _⟩ := R
  exact ⟨R, ⟨o, ho⟩, fun _ _ p k => p.keep k⟩
/-- set(a list of texts) -/
def rSetTx (w : World) (K : PySem.W.Frag) : List V → Hp → VK → Prop := fun xs H Q => ∃ (a : Addr) (ys : List Str), xs = [.ref a] ∧ SqL K H a (ys.map V.str) ∧ ys.length < 4000 ∧ ∀ (p : Addr) (ks : List Str), H p = none → ks.Nodup → (∀ x, x ∈ ks ↔ x ∈ ys) → ks.length ≤ ys.length → Q (.ref p) (upd H p (TxO w p ks))
theorem cr_setTx (calm : X.calm = true) : CallR X (.type "set") (rSetTx X.w X.K) := by
  intro pins s σ H xs us Q I r h
  obtain ⟨a, ys, rfl, hs, hl, q⟩ := h
  obtain ⟨its, rv, at1, _⟩ := I.list hs
  rw [Vals.ref1 r]
  refine tx_make ys (I.ok.hd calm) at1.isList (by rw [List.toList_toArray]; exact rv.strs) (by show ys.length + 1 < 4096; omega) fun h' tk ks R sub ln kp => ?_
  have hn : H s.heap.objs.size = none := I.hok.fresh (Nat.le_refl _)
  exact ⟨.ref s.heap.objs.size, _, I.laid (t' := tk) kp (Nat.le_refl _) (txO_new R), rfl, q _ ks hn (let ⟨_, _, _, _, _, _, _, T⟩ := R; T.nd) sub ln⟩
/-- sorted(a set of texts) -/
def rSortTx (w : World) : List V → Hp → VK → Prop := fun xs H Q => ∃ (a : Addr) (ks : List Str), xs = [.ref a] ∧ H a = some (TxO w a ks) ∧ ∀ (p : Addr) (ys : List Str), H p = none → ys.Perm ks → sortedS ys = true → Q (.ref p) (upd H p (.lst (ys.map V.str)))
theorem cr_sortTx (calm : X.calm = true) : CallR X (.builtin "sorted") (rSortTx X.w) := by
  intro pins s σ H xs us Q I r h
  obtain ⟨a, ks, rfl, ha, q⟩ := h
  have R : TxS X.w s.heap a ks := (I.hok a _ ha).1
  have few : ks.length < 4096 := by
    obtain ⟨_, es, _, _, _, _, _, T⟩ := R
    rw [← T.mem.length_eq, List.length_map, Array.length_toList]
    exact T.few
  rw [Vals.ref1 r]
  refine tx_sorted R (I.ok.hd calm) fun s' p out c ys k g o hp hg hy pm up => ?_
  have hn : H p = none := I.hok.fresh hp
  have hlen : (ys.map V.str).length ≤ sizeLine := by
    rw [List.length_map, pm.length_eq, sizeLine_eq]
    omega
  have J : Inv X pins σ (upd H p (.lst (ys.map V.str))) { s with heap := s'.heap, gens := s'.gens, drawn := s'.drawn, toks := s'.toks } :=
    I.call (ch := []) (Un.laid k hp hn) (I.hok.laid k hp ⟨hlen, out.toList, c, vals_of_strs hy, hg⟩) (by rw [g]; exact I.bare) (fun _ z => nomatch z)
  have e : s' = { s with heap := s'.heap, gens := s'.gens, drawn := s'.drawn, toks := s'.toks } := by
    obtain ⟨_, _, _, _, _⟩ := s'
    cases o
    rfl
  rw [e]
  exact ⟨.ref p, _, J, rfl, q p ys hn pm up⟩
end
/-! ### o.m(a, ..), m a staticmethod of the object's class; o.m(k = v) -/
structure SMeth (K : PySem.W.Frag) (C : Addr) (m : Str) (p g : Addr) : Prop where
  at_ : PySem.W.findIn K (.ref C) m = some (some (.ref p))
  ty : PySem.W.typeIn K (.ref p) = some (.type "staticmethod")
  get : PySem.W.specialIn K (.ref p) "__get__" = some (some (.builtin "staticmethod.__get__"))
  tk : PySem.W.takesIn K (.ref p) = some false
  cp : PySem.W.copiedNames.contains m = false
  rc : ∃ rest, PySem.W.recIn K p "staticmethod" = some (.ref g :: rest)
  kp : PySem.W.keepIn K (.ref g) = true
def tStat (C : Addr) (m : Str) (sp : Sp) (ta : TE) (t : TA) : TE := fun σ H Q => ta σ H fun x H1 => ∃ a dx fs, x = .ref a ∧ H1 a = some (.ins C dx fs) ∧ fs.lookup m = none ∧ t σ H1 fun ws H2 => sp ws H2 Q E0
def tMethK (C : Addr) (m : Str) (sp : Sp) (gV : List V → List V → List V) (ta : TE) (tk : TA) : TE := fun σ H Q => ta σ H fun x H1 => ∃ a dx fs, x = .ref a ∧ H1 a = some (.ins C dx fs) ∧ fs.lookup m = none ∧ tk σ H1 fun zs H2 => sp (gV [.ref a] zs) H2 Q E0
section
variable {X : Cx} {k : Nat} {C p g f : Addr} {sp : Sp} {o e : Expr} {es : List Expr} {kws : List Keyword} {m : Str} {pos apos : Pos} {ta : TE} {t tk : TA} {fd : FuncData} {ps ks : List Str}
theorem pe_stat {pl : Sem Bool} (he : PE X o ta) (c : Cls X.K C) (k1 : SMeth X.K C m p g) (F : FnOk X.prog X.w X.K X.mg X.base CX0 k g fd ps sp) (hr : Room k X.A) (hb : Binds X.K fd ps []) (ha : PA X (e :: es) t)
    (hst : starEach (e :: es) X.env = (false, eval e X.env) :: starEach es X.env := by rfl) (hpl : (backTo pos (starEach es X.env)).any (·.1) = false := by rfl)
    (ht : eval (.Call (.Attribute o m apos) (e :: es) [] pos) X.env = (eval o X.env >>= fun ov => standAt apos.atName >>= fun _ => holding [ov] (getMethod ov m pl) >>= fun q => callWith pos q.1 q.2 (backTo pos (starEach (e :: es) X.env)) (backToKw pos (keywordEach [] X.env))) := by rfl) :
    PE X (.Call (.Attribute o m apos) (e :: es) [] pos) (tStat C m sp ta t) := by
  refine ⟨fun pins s σ H Q I h => ?_⟩
  refine PySem.W.methodCall_KW (pl := pl) (thn (he.run pins s σ H _ I h) fun u s1 ⟨x, H1, I1, rx, a, dx, fs, ex, ea, l, q⟩ => ?_) ht
  subst ex
  obtain rfl : u = Value.ref a := rx
  obtain ⟨mA, O, rr, _, _, _⟩ := ins_get I1.hok ea
  have hn : mA m = none := RelO.none_of (by rw [← l]; exact rr m)
  obtain ⟨od, J, hl⟩ := O.look
  obtain ⟨rest, hrec⟩ := k1.rc
  have hc : PySem.W.isClsIn X.K C = true := by
    obtain ⟨cd, hc, _⟩ := PySem.W.any_some c.hd
    show (PySem.W.clsIn X.K C).isSome = true
    rw [hc]
    rfl
  have pg := PySem.W.plainGet_of (c.get m)
  refine PySem.W.method_usual (r := some (.ref p)) I1.kIn J pg.1 pg.2 k1.at_ ?_ ?_
  · show ((PySem.W.typeIn X.K (.ref p)).any fun t => t != .type "function" && t != .type "method_descriptor" && t != .type "wrapper_descriptor") = true
    rw [k1.ty]
    first | rfl | decide +kernel
  refine PySem.W.get_bind I1.kIn J pg.1 (ClX.find_cm hc k1.at_ k1.get k1.tk k1.cp (by rw [hl m, hn])) pg.2 (wpAny_call (PySem.W.sm_get (s := { s1 with toks := s1.toks + 1 }) I1.kIn hrec (PySem.W.handed_on (by rfl) ?_)))
  have I2 := I1.tok (s1.toks + 1)
  refine PySem.W.callWith_K (first := []) (h₀ := X.base) I2.ok.mod.kin k1.kp (thn (ha.run pos pins _ σ H1 _ I2 q) fun us s2 ⟨vs, H2, I3, r, q2⟩ => ⟨I3.kIn, ?_⟩) hst hpl
  exact run_fn F hr hb .nil pass0 I3 r (by rw [List.append_nil]; exact q2)
theorem pe_methK {pl : Sem Bool} {h : List Value → List Value → List Value} {hV : List V → List V → List V} (he : PE X o ta) (c : Cls X.K C) (hm : Meth X.K C m f) (F : FnOk X.prog X.w X.K X.mg X.base CX0 k f fd ps sp) (hr : Room k X.A) (hb : KBinds X.K fd ps ks h hV) (hkw : PK X kws tk)
    (hall : (backToKw pos (keywordEach kws X.env)).all (·.1.isSome) = true := by rfl) (hks : (backToKw pos (keywordEach kws X.env)).filterMap (·.1) = ks := by rfl) (hpl : ((backTo pos (starEach [] X.env)).any (·.1) || (backToKw pos (keywordEach kws X.env)).any (·.1.isNone)) = false := by rfl)
    (ht : eval (.Call (.Attribute o m apos) [] kws pos) X.env = (eval o X.env >>= fun ov => standAt apos.atName >>= fun _ => holding [ov] (getMethod ov m pl) >>= fun q => callWith pos q.1 q.2 (backTo pos (starEach [] X.env)) (backToKw pos (keywordEach kws X.env))) := by rfl) :
    PE X (.Call (.Attribute o m apos) [] kws pos) (tMethK C m sp hV ta tk) := by
  refine ⟨fun pins s σ H Q I h => ?_⟩
  refine PySem.W.methodCall_KW (pl := pl) (thn (he.run pins s σ H _ I h) fun u s1 ⟨x, H1, I1, rx, a, dx, fs, ex, ea, l, q⟩ => ?_) ht
  subst ex
  obtain rfl : u = Value.ref a := rx
  refine getmeth_ok I1 ea c hm l (PySem.W.callWith_KW0 (first := [.ref a]) (h₀ := X.base) I1.ok.mod.kin hm.kp hall (thn (hkw.run pos pins s1 σ H1 _ I1 q) fun ws s2 ⟨zs, H2, I2, rz, q2⟩ => ⟨I2.kIn, ?_⟩) hpl)
  rw [hks]
  exact run_fnk (us := [.ref a]) (vs := [.ref a]) F hr hb pass0 I2 (.cons rfl .nil) rz q2
end
/-- one value by position, one by keyword -/
def two1 {α : Type} : List α → List α → List α
  | [a], [b] => [a, b]
  | _, _ => []
theorem kb2 {K : PySem.W.Frag} {fd : FuncData} {p1 p2 : Str} (h : ∀ (s : Shared) (a b : Value), K.In s.heap → BindsTo s fd ⟨[a], [(p2, b)]⟩ [(p1, a), (p2, b)]) : KBinds K fd [p1, p2] [p2] two1 two1 := by
  refine ⟨fun s us ws X len => ?_, fun r1 r2 => ?_⟩
  · match us, ws, len with
    | [a], [b], _ => exact h s a b X
  · cases r1 with
    | nil => exact .nil
    | cons q1 r1 =>
      cases r1 with
      | cons _ _ => exact .nil
      | nil =>
        cases r2 with
        | nil => exact .nil
        | cons q2 r2 =>
          cases r2 with
          | cons _ _ => exact .nil
          | nil => exact .cons q1 (.cons q2 .nil)
/-! ### a list by the keys of a dict -/
theorem upd_free {H : Hp} {a e : Addr} {o : HO} (h : upd H a o e = none) : e ≠ a ∧ H e = none := by
  have n : e ≠ a := fun q => by
    rw [q, upd_same] at h
    cases h
  rw [upd_ne n] at h
  exact ⟨n, h⟩
theorem keys_strs {kvs : List (Key × V)} {xs : List Str} (h : kvs.map (·.1) = xs.map Sum.inr) : (kvs.map fun kv => kV kv.1) = xs.map V.str := by
  have e : (kvs.map fun kv => kV kv.1) = (kvs.map (·.1)).map kV := by rw [List.map_map]; rfl
  rw [e, h, List.map_map]
  rfl
theorem lock_keys {σ : L2.St} {H : Hp} {Q : VK} {td te : TE} {i : Nat} {d : Addr} {kvs : List (Key × V)} {xs : List Str} {f : Str → Str} (hd : H d = some (.dK kvs)) (hk : kvs.map (·.1) = xs.map Sum.inr) (hl : xs.length ≤ 900)
    (htd : ∀ (H' : Hp) (Q' : VK), Q' (.ref d) H' → td σ H' Q') (hte : ∀ x ∈ xs, ∀ (H' : Hp) (Q' : VK), Q' (.str (f x)) H' → te ((wipe σ [i]).set i (some (.str x))) H' Q')
    (q : ∀ (D : Addr) (H' : Hp), H D = none → Same H H' → H' D = some (.lst (xs.map fun x => .str (f x))) → Q (.ref D) H') : tLockE (tLc (iKeys td) (gName i) tYes te [i]) σ H Q := by
  refine ⟨d, .dK kvs, hd, trivial, fun od => ?_⟩
  refine htd _ _ ⟨d, od, rfl, .inl ⟨kvs, upd_same, fun D nD => ?_⟩⟩
  have hlen : kvs.length = xs.length := by
    have := congrArg List.length hk
    rw [List.length_map, List.length_map] at this
    exact this
  obtain ⟨nDd, nDH⟩ := upd_free nD
  refine lc_it walk_keys (fun j H' => H' D = some (.lst ((xs.take j).map fun x => .str (f x))) ∧ H' d = some (.frz od (.dK kvs)) ∧ ∀ b o, b ≠ d → H b = some o → H' b = some o) ⟨by rw [upd_same]; rfl, by rw [upd_ne nDd.symm, upd_same], fun b o nb e => by rw [upd_ne (ne_of_none e nDH), upd_ne nb]; exact e⟩ (fun _ _ _ h => h.2.1) ?_ ?_
  · rintro j v H1 H2 hj ⟨hD, hd1, keep⟩ ⟨rfl, k, v', hkv, rfl⟩
    obtain ⟨x, hx, rfl⟩ := key_at hk hkv
    refine ⟨?_, yes_if ?_⟩
    · show ((wipe σ [i]).set i (some (kV (.inr x)))).set i none = σ.set i none
      show ((σ.set i none).set i (some (V.str x))).set i none = σ.set i none
      rw [List.set_set, List.set_set]
    refine hte x (List.mem_of_getElem? hx) _ _ ⟨_, hD, big_lt (by rw [List.length_map, List.length_take]; omega), ?_, ?_, ?_⟩
    · rw [upd_same, List.take_add_one, hx, List.map_append]
      rfl
    · rw [upd_ne nDd.symm]
      exact hd1
    · intro b o nb e
      rw [upd_ne (ne_of_none e nDH)]
      exact keep b o nb e
  · rintro H1 ⟨hD, hd1, keep⟩
    refine ⟨hd1, q D _ nDH (fun b o e => ?_) ?_⟩
    · by_cases hb : b = d
      · rw [hb, upd_same, ← hd, ← hb, e]
      · rw [upd_ne hb]
        exact keep b o hb e
    · rw [upd_ne nDd, hD, List.take_of_length_le (by omega)]
theorem paired_app {α β : Type} {R : α → β → Prop} : ∀ {l1 l2 : List α} {k1 k2 : List β}, Paired R l1 k1 → Paired R l2 k2 → Paired R (l1 ++ l2) (k1 ++ k2)
  | _, _, _, _, .nil, h => h
  | _, _, _, _, .cons a t, h => .cons a (paired_app t h)
/-! ### comprehensions whose elements write nothing but new tuples -/
theorem prd_snoc {α β : Type} {R : α → β → Prop} : ∀ {as : List α} {bs : List β} {a : α} {b : β}, Paired R as bs → R a b → Paired R (as ++ [a]) (bs ++ [b])
  | _, _, _, _, .nil, h => .cons h .nil
  | _, _, _, _, .cons h t, h' => .cons h (prd_snoc t h')
theorem prd_len {α β : Type} {R : α → β → Prop} : ∀ {as : List α} {bs : List β}, Paired R as bs → as.length = bs.length
  | _, _, .nil => rfl
  | _, _, .cons _ t => by rw [List.length_cons, List.length_cons, prd_len t]
theorem filt_snoc {α : Type} {zs : List α} {i : Nat} {x : α} (b : α → Bool) (h : zs[i]? = some x) : (zs.take (i + 1)).filter b = (zs.take i).filter b ++ (if b x = true then [x] else []) := by
  rw [List.take_add_one, h, List.filter_append]
  congr 1
  show [x].filter b = _
  cases e : b x with
  | true => rw [List.filter_cons_of_pos e, List.filter_nil, if_pos rfl]
  | false => rw [List.filter_cons_of_neg (by rw [e]; decide), List.filter_nil, if_neg (by decide)]
theorem take_few {α : Type} (zs : List α) (b : α → Bool) (i : Nat) : ((zs.take i).filter b).length ≤ zs.length := Nat.le_trans (List.length_filter_le _ _) (by rw [List.length_take]; exact Nat.min_le_right _ _)
section
variable {J : It} {n : Nat} {G : Hp → Prop} {Y : Nat → Hp → V → Hp → Prop} {g : TG} {tt : TT} {te tk tv : TE} {vs : List Nat} {σ : L2.St} {H1 : Hp} {D : Addr} {Qd : Hp → Prop} {α : Type}
theorem lc_tups (w : Walk J n G Y) (zs : List α) (val : α → V) (st : α → L2.St) (b : α → Bool) (f1 f2 : α → V) (hn : zs.length = n) (nD : H1 D = none) (few : n ≤ 60000) (hG : ∀ H', Same H1 H' → G H')
    (hY : ∀ i H v H', Y i H v H' → H' = H ∧ ∃ x, zs[i]? = some x ∧ v = val x) (hg : ∀ x ∈ zs, ∀ H' (Q' : L2.St → Hp → Prop), Same H1 H' → Q' (st x) H' → g (val x) (wipe σ vs) H' Q')
    (hw : ∀ x ∈ zs, wipe (st x) vs = wipe σ vs) (ht : ∀ x ∈ zs, ∀ H' (Q' : Bool → Hp → Prop), Same H1 H' → Q' (b x) H' → tt (st x) H' Q')
    (he : ∀ x ∈ zs, b x = true → ∀ H' (Q' : VK), Same H1 H' → (∀ T, H' T = none → Q' (.ref T) (upd H' T (.tup [f1 x, f2 x]))) → te (st x) H' Q')
    (q : ∀ H' ts, Same H1 H' → H' D = some (.lst (ts.map V.ref)) → Paired (fun t x => H' t = some (.tup [f1 x, f2 x]) ∧ H1 t = none ∧ t ≠ D) ts (zs.filter b) → Qd H') :
    ∃ W : Nat → Nat → Hp → Prop, (∃ m, W 0 m (upd H1 D (.lst []))) ∧ ∀ i m H, W i m H →
      (J.stop i H ∧ Qd H) ∨ (J.go i H ∧ ∃ Nx : Hp → Prop, (∀ H', Nx H' → ∃ m', m' < m ∧ W (i + 1) m' H') ∧ ∀ x H', J.yld i H x H' → g x (wipe σ vs) H' fun σ2 H2 => wipe σ2 vs = wipe σ vs ∧ tt σ2 H2 fun b H3 =>
        if b = true then te σ2 H3 fun y H4 => ∃ acc, H4 D = some (.lst acc) ∧ acc.length < sizeLine ∧ Nx (upd H4 D (.lst (acc ++ [y]))) else Nx H3) := by
  refine lc_it w (fun i H => ∃ ts, Same H1 H ∧ H D = some (.lst (ts.map V.ref)) ∧ Paired (fun t x => H t = some (.tup [f1 x, f2 x]) ∧ H1 t = none ∧ t ≠ D) ts ((zs.take i).filter b)) ⟨[], same_upd nD, upd_same, .nil⟩ (fun i H _ h => by obtain ⟨_, h, _⟩ := h; exact hG H h) ?_ ?_
  · rintro i v H H' hi ⟨ts, s1, hD, hp⟩ hy
    obtain ⟨rfl, x, hx, rfl⟩ := hY _ _ _ _ hy
    have hxm := List.mem_of_getElem? hx
    refine hg x hxm _ _ s1 ⟨hw x hxm, ht x hxm _ _ s1 ?_⟩
    have fs := filt_snoc b hx
    cases eb : b x with
    | false =>
      rw [eb, if_neg (by decide), List.append_nil] at fs
      rw [if_neg (by decide)]
      exact ⟨ts, s1, hD, by rw [fs]; exact hp⟩
    | true =>
      rw [eb, if_pos rfl] at fs
      rw [if_pos rfl]
      refine he x hxm eb _ _ s1 fun T nT => ?_
      have nTD : T ≠ D := (ne_of_none hD nT).symm
      have tl : ts.length ≤ zs.length := by rw [prd_len hp]; exact take_few zs b i
      refine ⟨_, by rw [upd_ne nTD.symm]; exact hD, by rw [List.length_map]; exact Nat.lt_of_le_of_lt (show _ ≤ 60000 by omega) (by decide), ts ++ [T], fun c o e => ?_, by rw [upd_same, List.map_append]; rfl, ?_⟩
      · rw [upd_ne (ne_of_none e nD), upd_ne (ne_of_none (s1 _ _ e) nT)]
        exact s1 _ _ e
      · rw [fs]
        refine prd_snoc (hp.mono fun t y h => ⟨?_, h.2⟩) ⟨by rw [upd_ne nTD, upd_same], s1.free nT, nTD⟩
        rw [upd_ne h.2.2, upd_ne (ne_of_none h.1 nT)]
        exact h.1
  · rintro H' ⟨ts, s1, hD, hp⟩
    rw [← hn, List.take_length] at hp
    exact q H' ts s1 hD hp
theorem lc_vals (w : Walk J n G Y) (zs : List α) (val : α → V) (st : α → L2.St) (b : α → Bool) (f : α → V) (hn : zs.length = n) (nD : H1 D = none) (few : n ≤ 60000) (hG : ∀ H', Same H1 H' → G H')
    (hY : ∀ i H v H', Y i H v H' → H' = H ∧ ∃ x, zs[i]? = some x ∧ v = val x) (hg : ∀ x ∈ zs, ∀ H' (Q' : L2.St → Hp → Prop), Same H1 H' → Q' (st x) H' → g (val x) (wipe σ vs) H' Q')
    (hw : ∀ x ∈ zs, wipe (st x) vs = wipe σ vs) (ht : ∀ x ∈ zs, ∀ H' (Q' : Bool → Hp → Prop), Same H1 H' → Q' (b x) H' → tt (st x) H' Q')
    (he : ∀ x ∈ zs, b x = true → ∀ H' (Q' : VK), Same H1 H' → Q' (f x) H' → te (st x) H' Q')
    (q : ∀ H', Same H1 H' → H' D = some (.lst ((zs.filter b).map f)) → Qd H') :
    ∃ W : Nat → Nat → Hp → Prop, (∃ m, W 0 m (upd H1 D (.lst []))) ∧ ∀ i m H, W i m H →
      (J.stop i H ∧ Qd H) ∨ (J.go i H ∧ ∃ Nx : Hp → Prop, (∀ H', Nx H' → ∃ m', m' < m ∧ W (i + 1) m' H') ∧ ∀ x H', J.yld i H x H' → g x (wipe σ vs) H' fun σ2 H2 => wipe σ2 vs = wipe σ vs ∧ tt σ2 H2 fun b H3 =>
        if b = true then te σ2 H3 fun y H4 => ∃ acc, H4 D = some (.lst acc) ∧ acc.length < sizeLine ∧ Nx (upd H4 D (.lst (acc ++ [y]))) else Nx H3) := by
  refine lc_it w (fun i H => Same H1 H ∧ H D = some (.lst (((zs.take i).filter b).map f))) ⟨same_upd nD, upd_same⟩ (fun i H _ h => hG H h.1) ?_ ?_
  · rintro i v H H' hi ⟨s1, hD⟩ hy
    obtain ⟨rfl, x, hx, rfl⟩ := hY _ _ _ _ hy
    have hxm := List.mem_of_getElem? hx
    refine hg x hxm _ _ s1 ⟨hw x hxm, ht x hxm _ _ s1 ?_⟩
    have fs := filt_snoc b hx
    cases eb : b x with
    | false =>
      rw [eb, if_neg (by decide), List.append_nil] at fs
      rw [if_neg (by decide)]
      exact ⟨s1, by rw [fs]; exact hD⟩
    | true =>
      rw [eb, if_pos rfl] at fs
      rw [if_pos rfl]
      refine he x hxm eb _ _ s1 ⟨_, hD, by rw [List.length_map]; have := take_few zs b i; exact Nat.lt_of_le_of_lt (show _ ≤ 60000 by omega) (by decide), fun c o e => ?_, by rw [upd_same, fs, List.map_append]; rfl⟩
      rw [upd_ne (ne_of_none e nD)]
      exact s1 _ _ e
  · rintro H' ⟨s1, hD⟩
    rw [← hn, List.take_length] at hD
    exact q H' s1 hD
theorem dc_vals (w : Walk J n G Y) (zs : List Str) (val : Str → V) (st : Str → L2.St) (b : Str → Bool) (f : Str → V) (hn : zs.length = n) (nd : zs.Nodup) (nD : H1 D = none) (few : n ≤ 60000) (hG : ∀ H', Same H1 H' → G H')
    (hY : ∀ i H v H', Y i H v H' → H' = H ∧ ∃ x, zs[i]? = some x ∧ v = val x) (hg : ∀ x ∈ zs, ∀ H' (Q' : L2.St → Hp → Prop), Same H1 H' → Q' (st x) H' → g (val x) (wipe σ vs) H' Q')
    (hw : ∀ x ∈ zs, wipe (st x) vs = wipe σ vs) (ht : ∀ x ∈ zs, ∀ H' (Q' : Bool → Hp → Prop), Same H1 H' → Q' (b x) H' → tt (st x) H' Q')
    (hk : ∀ x ∈ zs, b x = true → ∀ H' (Q' : VK), Same H1 H' → Q' (.str x) H' → tk (st x) H' Q') (he : ∀ x ∈ zs, b x = true → ∀ H' (Q' : VK), Same H1 H' → Q' (f x) H' → tv (st x) H' Q')
    (q : ∀ H', Same H1 H' → H' D = some (.dK ((zs.filter b).map fun x => (.inr x, f x))) → Qd H') :
    ∃ W : Nat → Nat → Hp → Prop, (∃ m, W 0 m (upd H1 D (.dK []))) ∧ ∀ i m H, W i m H → (J.stop i H ∧ Qd H) ∨ (J.go i H ∧ ∃ Nx : Hp → Prop, (∀ H', Nx H' → ∃ m', m' < m ∧ W (i + 1) m' H') ∧
      ∀ x H', J.yld i H x H' → g x (wipe σ vs) H' fun σ2 H2 => wipe σ2 vs = wipe σ vs ∧ tt σ2 H2 fun b H3 =>
        if b = true then tk σ2 H3 fun y H4 => tv σ2 H4 fun z H5 => ∃ kvs k, y = kV k ∧ H5 D = some (.dK kvs) ∧ kvs.length < sizeLine ∧ Nx (upd H5 D (.dK (putK kvs k z))) else Nx H3) := by
  refine dc_it w (fun i H => Same H1 H ∧ H D = some (.dK (((zs.take i).filter b).map fun x => (.inr x, f x)))) ⟨same_upd nD, upd_same⟩ (fun i H _ h => hG H h.1) ?_ ?_
  · rintro i v H H' hi ⟨s1, hD⟩ hy
    obtain ⟨rfl, x, hx, rfl⟩ := hY _ _ _ _ hy
    have hxm := List.mem_of_getElem? hx
    refine hg x hxm _ _ s1 ⟨hw x hxm, ht x hxm _ _ s1 ?_⟩
    have fs := filt_snoc b hx
    cases eb : b x with
    | false =>
      rw [eb, if_neg (by decide), List.append_nil] at fs
      rw [if_neg (by decide)]
      exact ⟨s1, by rw [fs]; exact hD⟩
    | true =>
      rw [eb, if_pos rfl] at fs
      rw [if_pos rfl]
      refine hk x hxm eb _ _ s1 (he x hxm eb _ _ s1 ⟨_, .inr x, rfl, hD, by rw [List.length_map]; have := take_few zs b i; exact Nat.lt_of_le_of_lt (show _ ≤ 60000 by omega) (by decide), fun c o e => ?_, ?_⟩)
      · rw [upd_ne (ne_of_none e nD)]
        exact s1 _ _ e
      · rw [upd_same, fs, List.map_append, putK_end]
        · rfl
        · rw [List.map_map]
          intro hm
          obtain ⟨y, hy1, hy2⟩ := List.mem_map.mp hm
          have e : y = x := Sum.inr.inj hy2
          subst e
          have hy3 := (List.mem_filter.mp hy1).1
          obtain ⟨j, hj, ej⟩ := List.mem_take_iff_getElem.mp hy3
          have h1 : zs[j]? = some y := by rw [← ej]; exact List.getElem?_eq_getElem _
          have := (List.getElem?_inj (List.getElem?_eq_some_iff.mp h1).1 nd).mp (h1.trans hx.symm)
          omega
  · rintro H' ⟨s1, hD⟩
    rw [← hn, List.take_length] at hD
    exact q H' s1 hD
end
def rDictP (K : PySem.W.Frag) : List V → Hp → VK → Prop := fun xs H Q => ∃ (a : Addr) (ps : List Addr) (kvs : List (Key × V)), xs = [.ref a] ∧ SqL K H a (ps.map V.ref) ∧ Paired (fun p kv => SqT K H p [kV kv.1, kv.2]) ps kvs ∧ ∀ p, H p = none → Q (.ref p) (upd H p (.dK (mergeK [] kvs)))
theorem call_dictPn {X : Cx} (h : X.calm = true) : CallR X (.type "dict") (rDictP X.K) := call_dictP h
def top (i : Nat) : Stmt := PySem.Challenge.pw_keptroutes_k07_tables_made.main.body.getD i (.Pass ⟨0, 0, 0, 0⟩)
abbrev sCls : Stmt := top 13
abbrev sTab : Stmt := top 17
abbrev sPen : Stmt := top 19
abbrev sP : Stmt := sPen
abbrev sNext : Stmt := top 20
abbrev sN : Stmt := sNext
abbrev sDraw : Stmt := top 21
abbrev sDr : Stmt := sDraw
abbrev sBits : Stmt := top 22
abbrev sB : Stmt := sBits
abbrev sSize : Stmt := top 23
abbrev sS : Stmt := sSize
abbrev sPrefixes : Stmt := top 24
abbrev sX : Stmt := sPrefixes
abbrev sHas : Stmt := top 10
abbrev sH : Stmt := sHas
abbrev sPfx : Stmt := top 11
abbrev sI : Stmt := sPfx
abbrev sAdr : Stmt := top 12
abbrev sA : Stmt := sAdr
abbrev sWhole : Stmt := top 8
abbrev sWo : Stmt := sWhole
abbrev sWidth : Stmt := top 9
abbrev sV : Stmt := sWidth
abbrev sLines : Stmt := top 25
abbrev sY : Stmt := sLines
/-! ### {**d, k: v} -/
section
variable {P : Program} {w : World} {K' : Type} [DecidableEq K'] {knd : KeyKind P w K'} {A : Around} {E : Value → Shared → Prop} {s : Shared}
theorem put_ok {d : Addr} {kvs : List (K' × Value)} {k : K'} {key v : Value} {Z : Unit → Shared → Prop} (ik : knd.is k key = true) (D : s.heap.DictOf knd d kvs) (few : kvs.length ≤ sizeLine)
    (hZ : ∀ h1, h1.DictOf knd d (stored kvs k v) → Heap.SameBut d s.heap h1 → Z () { s with heap := h1 }) : wpAny (model P w) A (dictPut d (knd.hash k) key v) Z E s := by
  obtain ⟨o, es, ep, at1, cl, da, ke, pr, nd⟩ := D
  have n1 : es.size ≤ sizeLine := by
    have q := pr.length
    rw [Array.length_toList] at q
    omega
  have fi : (es.findIdx? fun e => knd.is k e.key) = kvs.findIdx? fun x => decide (x.1 = k) := by
    rw [← pr.findIdx k]
    cases es
    simp
  unfold dictPut
  refine wpAny_bind (wpAny_dictFind_of ik at1 da ke ?_)
  cases q : es.findIdx? fun e => knd.is k e.key with
  | some j =>
    have st : stored kvs k v = _ := if_pos (any_of_findIdx_some (fi ▸ q))
    refine wpAny_updateDict at1 da (hZ _ ⟨_, _, ep, Heap.get?_update_self _ at1 (Obj.isFreed_of_dict (Obj.data_mapDict da _)), cl.mapDict _, Obj.data_mapDict da _, ke.modify _ _, ?_, ?_⟩ (Heap.SameBut.update ..))
    · rw [st]
      have ql : (es.toList.findIdx? fun e => knd.is k e.key) = some j := by
        rw [← q]
        cases es
        simp
      have z := pr.modify nd ql v
      cases es
      simpa using z
    · rw [st, keys_map_store]
      exact nd
  | none =>
    have no : k ∉ kvs.map (·.1) := not_mem_of_findIdx_none (fi ▸ q)
    have st : stored kvs k v = _ := if_neg (c := (kvs.any fun x => decide (x.1 = k)) = true) (by
      rintro z
      obtain ⟨x, hx, e⟩ := List.any_eq_true.mp z
      exact no (List.mem_map.mpr ⟨x, hx, of_decide_eq_true e⟩))
    refine wpAny_updateDictKeys (hz := n1) at1 da (hZ _ ⟨_, _, ep + 1, Heap.get?_update_self _ at1 (Obj.isFreed_of_dict (Obj.data_mapDictKeys da _)), cl.mapDictKeys _, Obj.data_mapDictKeys da _, ke.push ik _, ?_, ?_⟩ (Heap.SameBut.update ..))
    · rw [st]
      have z := pr.append ik (knd.hash k) v
      cases es
      simpa using z
    · rw [st, List.map_append, List.nodup_append]
      refine ⟨nd, by simp, fun a ha b hb => ?_⟩
      obtain rfl : b = k := by simpa using hb
      exact fun e => no (e ▸ ha)
theorem if_pre {α β γ : Type} {c : Prop} [Decidable c] {x : Sem α} {F : α → Sem β} {rest : Sem γ} {Z : γ → Shared → Prop} (hp : c → ∀ Q : β → Shared → Prop, (∀ b, Q b s) → wpAny (model P w) A (x >>= F) Q E s) (hr : wpAny (model P w) A rest Z E s) :
    wpAny (model P w) A (if c then x >>= fun a => F a >>= fun _ => rest else rest) Z E s := by
  split
  · rename_i hc
    have e : (x >>= fun a => F a >>= fun _ => rest) = (x >>= F) >>= fun _ => rest := by rw [bind_assoc]
    rw [e]
    exact wpAny_bind (hp hc _ fun _ => hr)
  · exact hr
theorem forIn_none {l : List DictEntry} {f : DictEntry → PUnit → Sem (ForInStep PUnit)} (hf : ∀ e ∈ l, ∀ u, f e u = pure (.yield u)) : forIn l PUnit.unit f = pure PUnit.unit := by
  induction l with
  | nil => rfl
  | cons e r ih => rw [List.forIn_cons, hf e List.mem_cons_self, pure_bind]; exact ih fun x hx => hf x (List.mem_cons_of_mem _ hx)
/-- a dict merged into another -/
theorem merge_ok {d o : Addr} {kvs more : List (K' × Value)} {Z : Unit → Shared → Prop} (ne : d ≠ o) (sy : (o == sysModules) = false) (D : s.heap.DictOf knd d kvs) (O : s.heap.DictOf knd o more) (few : kvs.length + more.length ≤ sizeLine)
    (nr : ∀ k v, knd.is k v = true → ∀ a, v ≠ .ref a)
    (hZ : ∀ h1, h1.DictOf knd d (merged kvs more) → Heap.SameBut d s.heap h1 → Z () { s with heap := h1 }) : wpAny (model P w) A (mergeMapping d (.ref o) false) Z E s := by
  obtain ⟨oo, es, ep, at1, cl, da, ke, pr, nd⟩ := id O
  obtain ⟨od, es2, ep2, at2, cl2, da2, ke2, pr2, nd2⟩ := id D
  have hlen : more.length = es.size := by
    rw [← pr.length, Array.length_toList]
  unfold mergeMapping
  refine wpAny_bind (wpAny_isInstance O.typeIs isSubtype_dict_dict ?_)
  rw [if_pos rfl]
  refine wpAny_bind (wpAny_specialOf O.typeIs PySem.F.slot_dict_iter.lookup ?_)
  refine wpAny_bind (wpAny_pure ?_)
  simp only [beq_self_eq_true]
  rw [if_neg (by rw [sy]; exact Bool.false_ne_true)]
  refine wpAny_bind (wpAny_dictEntries at2 da2 ?_)
  refine if_pre (fun _ Q q => ?_) ?_
  · refine wpAny_bind (wpAny_dictEntries at1 da ?_)
    rw [← Array.forIn_toList, forIn_none fun e he u => ?_]
    · exact wpAny_pure (q _)
    · obtain ⟨k', ik, _⟩ := ke e (by simpa using he)
      split
      · rename_i a ha
        exact absurd ha (nr _ _ ik a)
      · rfl
  refine wpAny_bind (wpAny_dictEntries at1 da (wpAny_bind (wpAny_dictEpoch at1 da (wpAny_bind ?_))))
  refine wpAny_forIn_list _ (fun rest _ r => ∃ h1 i, r = { s with heap := h1 } ∧ rest = List.range' i (es.size - i) ∧ i ≤ es.size ∧ h1.DictOf knd d (merged kvs (more.take i)) ∧ h1.get? o = some oo ∧ Heap.SameBut d s.heap h1) _ ?_ ?_ _ _ ⟨s.heap, 0, rfl, by rw [List.range_eq_range', Nat.sub_zero], Nat.zero_le _, by simpa [merged] using D, at1, Heap.SameBut.refl _ _⟩
  · rintro x rest u r ⟨h1, i, rfl, er, hi, D1, a1, sb⟩
    have lt : i < es.size := by
      rcases Nat.lt_or_ge i es.size with q | q
      · exact q
      · rw [Nat.sub_eq_zero_of_le q] at er
        cases er
    obtain ⟨rfl, er2⟩ : x = i ∧ rest = List.range' (i + 1) (es.size - (i + 1)) := by
      rw [show es.size - i = (es.size - (i + 1)) + 1 by omega, List.range'_succ] at er
      exact List.cons.inj er
    refine wpAny_bind (wpAny_dictEntries a1 da ?_)
    rw [Array.getElem?_eq_getElem lt]
    have lt2 : x < more.length := by rw [hlen]; exact lt
    obtain ⟨⟨k0, v0⟩, hkv⟩ : ∃ y, more[x]? = some y := ⟨_, List.getElem?_eq_getElem lt2⟩
    obtain ⟨ik, iv⟩ := pr.get? (e := es[x]) (by simp [lt]) hkv
    obtain ⟨k', ik2, hh⟩ := ke es[x] (Array.getElem_mem lt)
    obtain rfl : k' = k0 := knd.inj _ _ _ ik2 ik
    show wpAny _ _ (holding [es[x].key, es[x].val] (if false = true then _ else dictPut d es[x].hash es[x].key es[x].val) >>= _) _ _ _
    rw [if_neg Bool.false_ne_true, hh, iv]
    have few2 : (merged kvs (more.take x)).length ≤ sizeLine := by
      have e1 := merged_length_le kvs (more.take x)
      rw [List.length_take] at e1
      omega
    refine wpAny_bind (wpAny_holding (put_ok ik D1 few2 fun h2 D2 sb2 => ?_))
    have a2 : h2.get? o = some oo := (sb2.2 o (Ne.symm ne)).trans a1
    refine wpAny_bind (wpAny_dictEpoch a2 da ?_)
    rw [if_neg (by simp)]
    exact wpAny_pure ⟨h2, x + 1, rfl, er2, lt, by rw [merged_take_succ kvs more x (k', v0) hkv]; exact D2, a2, sb.trans sb2⟩
  · rintro u r ⟨h1, i, rfl, er, hi, D1, a1, sb⟩
    obtain rfl : i = es.size := by
      rcases Nat.lt_or_ge i es.size with q | q
      · rw [show es.size - i = (es.size - (i + 1)) + 1 by omega, List.range'_succ] at er
        cases er
      · omega
    rw [← hlen, List.take_length] at D1
    exact wpAny_pure (hZ h1 D1 sb)
end
section
variable {X : Cx} {o ke ve : Expr} {pos : Pos} {td tk tv : TE}
theorem key_noref {P : Program} {w : World} {k : Key} {v : Value} (h : (mixKind P w).is k v = true) (a : Addr) : v ≠ .ref a := by
  rcases keyIs_shape h with ⟨i, t, rfl, rfl⟩ | ⟨x, t, rfl, rfl⟩
  · exact fun e => nomatch e
  · exact fun e => nomatch e
/-- a dict of the heap merged into another -/
theorem mergeH {pins : List (Addr × Obj)} {σ : L2.St} {H : Hp} {s : Shared} {A : Around} {E : Value → Shared → Prop} {p a : Addr} {kvs more : List (Key × V)} {Z : Unit → Shared → Prop} (I : Inv X pins σ H s) (hp : H p = some (.dK kvs)) (ha : Rd H a (.dK more)) (ne : p ≠ a) (few : kvs.length + more.length ≤ 2000)
    (hZ : ∀ s', Inv X pins σ (upd H p (.dK (mergeK kvs more))) s' → Z () s') : wpAny (model X.prog X.w) A (mergeMapping p (.ref a) false) Z E s := by
  obtain ⟨z1, sy1, vs, rel, D⟩ := dk_of I.hok hp
  obtain ⟨z2, sy2, rs, rel2, O⟩ := dk_rd I.hok ha
  refine merge_ok ne sy2 D O (by rw [← rel.length, ← rel2.length]; exact Nat.le_trans few (by decide)) (fun k v h a => key_noref h a) fun h1 D1 sb => hZ _ ?_
  have he : ∃ q, h1.get? p = some q := let ⟨q, _, _, hq, _⟩ := D1; ⟨q, hq⟩
  have len := length_mergeK more kvs
  exact d_write (t' := s.toks) I (by rw [hp]; exact True.intro) sb he (dk_new (Nat.le_trans (show (mergeK kvs more).length ≤ 2000 by omega) (by decide)) sy1 (KV.merge rel2 rel) D1)
def tDSt (td tk tv : TE) : TE := fun σ H Q => ∀ p, H p = none → td σ (upd H p (.dK [])) fun x H1 => ∃ (a : Addr) (kvs : List (Key × V)), x = .ref a ∧ Rd H1 a (.dK kvs) ∧ a ≠ p ∧ H1 p = some (.dK []) ∧ (kvs.map (·.1)).Nodup ∧ kvs.length < 1000 ∧ ∀ q, (upd H1 p (.dK kvs)) q = none →
  tk σ (upd (upd H1 p (.dK kvs)) q (.dK [])) fun y H2 => tv σ H2 fun z H3 => ∃ k, y = kV k ∧ H3 p = some (.dK kvs) ∧ H3 q = some (.dK []) ∧ Q (.ref p) (upd (upd H3 q (.dK [(k, z)])) p (.dK (putK kvs k z)))
theorem pe_dst (ho : PE X o td) (hk : PE X ke tk) (hv : PE X ve tv) : PE X (.Dict [none, some ke] [o, ve] pos) (tDSt td tk tv) := by
  refine ⟨fun pins s σ H Q I h => ?_⟩
  rw [arm_eval_Dict]
  refine wpAny_bind (wpAny_standAt ?_)
  show wpAny _ _ (dictDisplay [(none, (eval o X.env >>= fun x => standAt pos >>= fun _ => pure x)), (some (eval ke X.env), (eval ve X.env >>= fun x => standAt pos >>= fun _ => pure x))]) _ _ _
  unfold dictDisplay
  simp only [List.forIn_cons, List.forIn_nil, List.isEmpty_nil, if_true, pure_bind, bind_assoc, List.nil_append, List.length_cons, List.length_nil, Nat.zero_add, Nat.reduceBEq, Bool.false_eq_true, if_false, List.isEmpty_cons]
  refine wpAny_bind (wpAny_alloc ?_)
  have hn : H s.heap.objs.size = none := I.hok.fresh (Nat.le_refl _)
  have I1 := I.laid (a := s.heap.objs.size) (o := .dK []) (h' := s.heap.push { cls := .type "dict", data := .dict #[] }) (t' := s.toks) (fun _ _ q => Heap.get?_push_of_some _ q) (Nat.le_refl _) (dk_empty s.heap I.big)
  refine wpAny_bind (wpAny_holding (wpAny_bind (thn (ho.run pins _ σ _ _ I1 (h _ hn)) fun u s2 ⟨x, H1, I2, rx, a, kvs, ex, ha, nap, hp, nd, few, q⟩ => wpAny_bind (wpAny_standAt (wpAny_pure ?_)))))
  subst ex
  obtain rfl : u = Value.ref a := rx
  refine wpAny_bind (wpAny_onRaise (wpAny_tryCatch (wpAny_onRaise (wpAny_holding (mergeH I2 hp ha nap.symm (by show 0 + kvs.length ≤ 2000; omega) fun s3 I3 => ?_)))))
  rw [mergeK_nd kvs [] (by rw [List.nil_append]; exact nd), List.nil_append] at I3
  have nq : (upd H1 s.heap.objs.size (.dK kvs)) s3.heap.objs.size = none := I3.hok.fresh (Nat.le_refl _)
  have npq : s.heap.objs.size ≠ s3.heap.objs.size := ne_of_none upd_same nq
  have I4 := I3.laid (a := s3.heap.objs.size) (o := .dK []) (h' := s3.heap.push { cls := .type "dict", data := .dict #[] }) (t' := s3.toks) (fun _ _ q => Heap.get?_push_of_some _ q) (Nat.le_refl _) (dk_empty s3.heap I3.big)
  refine wpAny_bind (wpAny_holding (wpAny_subDict (knd := mixKind X.prog X.w) (show 1 ≤ 15 by decide) (evalPairs_cons (thn (hk.run pins _ σ _ _ I4 (q _ nq)) fun ku s4 ⟨y, H2, I5, ry, q2⟩ => wpAny_bind (thn (hv.run pins _ σ H2 _ I5 q2) fun vu s5 ⟨z, H3, I6, rz, k, ey, hp3, hq3, q3⟩ => wpAny_bind (wpAny_standAt (wpAny_pure (evalPairs_nil ?_))))))))
  subst ey
  obtain ⟨zq, syq, vs, rel, D⟩ := dk_of I6.hok hq3
  obtain rfl : vs = [] := List.length_eq_zero_iff.mp (by rw [← rel.length]; rfl)
  refine ⟨[(k, vu)], ⟨kV_is ry, rfl, trivial⟩, D, fun h6 D6 sb6 => ?_⟩
  have he : ∃ q, h6.get? s3.heap.objs.size = some q := let ⟨q, _, _, hq, _⟩ := D6; ⟨q, hq⟩
  have I7 := d_write (t' := s5.toks + [(ku, vu)].length) (ob := .dK [(k, z)]) I6 (by rw [hq3]; exact True.intro) sb6 he (dk_new (by show 1 ≤ sizeLine; decide) syq (show KV (putK [] k z) (stored [] k vu) from rel.put k rz) D6)
  exact wpAny_bind (wpAny_onRaise (wpAny_holding (mergeH I7 (by rw [upd_ne npq]; exact hp3) (.inl upd_same) npq (by show kvs.length + 1 ≤ 2000; omega) fun s8 I8 => wpAny_pure ⟨.ref s.heap.objs.size, _, I8, rfl, q3⟩)))
end
/-! ### cls(a, ..): a class that a name of the def holds -/
def tMakeL (i : Nat) (C : Addr) (sp : Sp) (t : TA) : TE := fun σ H Q => σ[i]? = some (some (.ref C)) ∧ tMake C sp [] E0 t σ H Q
section
variable {X : Cx} {k i : Nat} {f C : Addr} {fd : FuncData} {ps : List Str} {sp : Sp} {x : Str} {p pos : Pos} {e : Expr} {es : List Expr} {t : TA}
theorem pe_makeL (M : Mk X.K C f) (F : FnOk X.prog X.w X.K X.mg X.base CX0 k f fd ps sp) (hr : Room (k + 1) X.A) (hN : X.N[i]? = some x) (hv : Vis X.env.scope x) (hb : Binds X.K fd ps []) (ha : PA X (e :: es) t)
    (hdb : (x == ("__debug__" : Str)) = false := by decide) (hcd : (x == ("__classdict__" : Str)) = false := by decide) (he : starEach (e :: es) X.env = (false, eval e X.env) :: starEach es X.env := by rfl) (hpl : (backTo pos (starEach es X.env)).any (·.1) = false := by rfl) :
    PE X (.Call (.Name x p) (e :: es) [] pos) (tMakeL i C sp t) := by
  refine ⟨fun pins s σ H Q I h => ?_⟩
  obtain ⟨hs, ht⟩ := h
  refine wpAny_Call_Name_kw (thn ((pe_var (pos := p) hN hv hdb hcd).run pins s σ H (fun v H1 => v = .ref C ∧ H1 = H) I ⟨.ref C, hs, rfl, rfl⟩) fun u s1 ⟨v, H1, I1, r1, q1⟩ => ?_)
  obtain ⟨rfl, rfl⟩ := q1
  cases r1
  exact PySem.W.callWith_K (h₀ := X.base) I1.ok.mod.kin M.kp (thn (ha.run pos pins s1 σ _ _ I1 ht) fun us s2 ⟨vs, H2, I2, r, q⟩ => ⟨I2.kIn, run_make M F hr hb .nil pass0 I2 r q⟩) he hpl
end
section
variable {P : Program} {w : World} {K : PySem.W.Frag} {mg : Str → Option Value} {base : Heap}
theorem scPen : FnScope ["script"] ["script"] (defScope sPen) := ⟨rfl, rfl, rfl, by decide +kernel, rfl, by decide +kernel, by decide +kernel⟩
theorem ok_pen {f : Addr} {fd : FuncData} {k : Nat} (F : Fun K "_law_pen" "_law_pen" sPen f fd) (ml : mg "list" = none) : FnOk P w K mg base CX0 (k + 1) f fd ["script"] (spPen K) := by
  refine F.ok scPen (fun vs H Q E h => ?_) (fun cdv A outer s H vs Q E hr h => ?_)
  · obtain ⟨a, ns, rfl, _⟩ := h
    rfl
  · obtain ⟨a, ns, rfl, hS, hlen, q⟩ := h
    refine ⟨_, pss_one (ps_ret (pe_lst (pa_cons (pe_callTy call_list_of (by rfl) ml (by decide +kernel) (pa_cons (pe_slice sl_list (pv 0) po_none (po_some pe_int)) pa_nil)) (pa_cons pe_int (pa_cons pe_int pa_nil))))), ?_⟩
    obtain ⟨ms, em, hm⟩ := cut60 ns
    refine ⟨.ref a, rfl, 60, rfl, a, ns.map V.int, rfl, hS, fun b nb => ?_⟩
    rw [em]
    refine ⟨b, _, rfl, .inl (.inl (.inl upd_same)), fun c nc => ?_⟩
    refine ⟨by show 3 ≤ sizeLine; decide, fun p np => ?_⟩
    have s1 : Same H (upd H b (.lst (ms.map V.int))) := same_upd nb
    have s2 := same_upd (o := .lst (ms.map V.int)) nc
    have s3 := same_upd (o := penL c 0 0 []) np
    have nf : H p = none := (s1.trans s2).free np
    refine q _ p c (s1.trans (s2.trans s3)) nf (s1.free nc) ⟨ms, 0, 0, upd_same, ?_, hm, Int.le_refl _, Int.le_refl _, Int.le_refl _⟩
    exact s3 _ _ upd_same
theorem scNext : FnScope ["pen", "index", "cell", "low", "mid", "top"] ["pen"] (defScope sNext) := ⟨rfl, rfl, rfl, by decide +kernel, rfl, by decide +kernel, by decide +kernel⟩
theorem ok_next {f : Addr} {fd : FuncData} {k : Nat} (F : Fun K "_law_next" "_law_next" sNext f fd) (ml : mg "len" = none) : FnOk P w K mg base CX0 (k + 1) f fd ["pen"] spNext := by
  refine F.ok scNext (fun vs H Q E h => ?_) (fun cdv A outer s H vs Q E hr h => ?_)
  · obtain ⟨p, n, m, c, ns, i, z, rfl, _⟩ := h
    rfl
  · obtain ⟨p, n, m, c, ns, i, z, rfl, hp, hn, q⟩ := h
    have nd := scNext.nd
    have hu := hr.units
    refine ⟨_, pss_cons (ps_set (i := 1) nd rfl (.inl rfl) (pe_ix ix_list (pv 0) pe_int (fun _ _ => rfl)))
      (pss_cons (ps_asg (pe_op op_add (pv 1) pe_int) (pg_sub (pv 0) pe_int set_list))
      (pss_cons (ps_set (i := 2) nd rfl (.inl rfl) (pe_op op_add (pe_op op_mul (pv 1) pe_int) pe_int))
      (C8.pss_cut (ps_if (pt_cmpR (op_neD hu) (pe_ix ix_list (pv 0) pe_int (fun _ _ => rfl)) (pe_lst pa_nil) (nomark _))
        (pss_one (ps_set (i := 2) nd rfl (.inl rfl) (pe_ix ix_list (pe_ix ix_list (pv 0) pe_int (fun _ _ => rfl))
          (pe_op op_mod (pv 1) (pe_callB call_len_seq (by rfl) ml PySem.boot_len (pa_cons (pe_ix ix_list (pv 0) pe_int (fun _ _ => rfl)) pa_nil))) (fun _ _ => rfl)))) pss_nil)
      (C8.pss_cut (ps_if (PW.pt (pw_and (pt_cmpR op_lt (pv 1) (pe_callB call_len_seq (by rfl) ml PySem.boot_len (pa_cons (pe_ix ix_list (pv 0) pe_int (fun _ _ => rfl)) pa_nil)) (nomark _))
          (pw_and1 (pt_cmpR op_ge (pv 2) (pe_op op_pow pe_int pe_int) (nomark _)))))
        (pss_one (ps_ret (pv 2))) pss_nil)
      (C8.pss_cut (ps_set (i := 3) nd rfl (.inl rfl) (pe_op op_mod (pe_op op_add (pe_op op_add (pe_op op_mod (pv 2) pe_int) (pe_op op_mul (pv 1) pe_int)) pe_int) pe_int))
      (C8.pss_cut (ps_set (i := 4) nd rfl (.inl rfl) (pe_op op_mod (pe_op op_add (pe_op op_add (pe_op op_mul (pv 3) (pv 3)) (pe_op op_mul (pv 1) pe_int)) pe_int) pe_int))
      (C8.pss_cut (ps_set (i := 5) nd rfl (.inl rfl) (pe_op op_mod (pe_op op_add (pe_op op_add (pe_op op_mul (pv 4) (pv 4)) (pv 3)) (pe_op op_mul (pe_op op_mul (pv 1) (pv 1)) pe_int)) pe_int))
      (pss_one (ps_ret (pe_op op_add (pe_op op_mul (pe_op op_add (pe_op op_mul (pv 5) pe_int) (pv 4)) pe_int) (pv 3)))))))))))  , ?_⟩
    have hpL : H p = some (.lst (.ref c :: .int i :: .int z :: m)) := hp.at_
    have ncp : c ≠ p := hp.ne
    -- index = pen[1]; pen[1] = index + 1
    refine ⟨.ref p, rfl, p, _, 1, .int i, rfl, rfl, SqL.of hpL, atI_nat (j := 1) rfl, ?_⟩
    refine ⟨.int i, rfl, i, 1, rfl, rfl, .ref p, rfl, p, _, 1, 1, rfl, rfl, hpL, ix1, ?_⟩
    have e1 : (V.ref c :: .int i :: .int z :: m).set 1 (.int (i + 1)) = .ref c :: .int (i + 1) :: .int z :: m := rfl
    rw [e1]
    generalize hH : upd H p (.lst (.ref c :: .int (i + 1) :: .int z :: m)) = H1
    have h1 : H1 p = some (.lst (.ref c :: .int (i + 1) :: .int z :: m)) := by rw [← hH, upd_same]
    have hc1 : H1 c = some (.lst (ns.map V.int)) := by rw [← hH, upd_ne ncp]; exact hp.cells
    have b1 : But p H H1 := by rw [← hH]; exact But.upd
    -- cell = index * 1049 + 29
    refine ⟨.int i, rfl, _, _, rfl, rfl, .inr ⟨by decide, by decide⟩, _, _, rfl, rfl, ?_⟩
    have hi0 := hp.i0
    have hi1 := hp.i1
    have hnB : n ≤ 1000000000000 := hn
    -- pen[0] != []
    refine ⟨fun σ H2 => ∃ cell : Int, σ = [some (.ref p), some (.int i), some (.int cell), none, none, none] ∧ H2 p = some (.lst (.ref c :: .int (i + 1) :: .int z :: m)) ∧ H2 c = some (.lst (ns.map V.int)) ∧ But p H H2, ?_, ?_⟩
    · refine ⟨.ref p, rfl, p, _, 0, .ref c, rfl, rfl, SqL.of h1, atI_nat (j := 0) rfl, Nat.zero_le _, fun e ne => ?_⟩
      have s2 : Same H1 (upd H1 e (.lst [])) := same_upd ne
      have hp2 : (upd H1 e (.lst [])) p = some (.lst (.ref c :: .int (i + 1) :: .int z :: m)) := s2 _ _ h1
      have hc2 : (upd H1 e (.lst [])) c = some (.lst (ns.map V.int)) := s2 _ _ hc1
      have b2 : But p H (upd H1 e (.lst [])) := b1.trans (.of_same s2)
      refine ⟨.list (ns.map PyData.int), .list [], .lst (SqL.of hc2) (dpAll_ints ns), .lst (SqL.of upd_same) .nil, PySem.W.ke_shaped_ints ns, rfl, _, rfl, ?_⟩
      rw [eqv_nil]
      by_cases hz : ns = []
      · rw [decide_eq_true hz]
        refine iteF ?_
        exact ⟨_, rfl, hp2, hc2, b2⟩
      · rw [decide_eq_false hz]
        refine iteT ?_
        have hl : 0 < ns.length := List.length_pos_iff.mpr hz
        have hlt : (i % (ns.length : Int)).toNat < ns.length := by
          have h1 := Int.emod_nonneg i (show (ns.length : Int) ≠ 0 by omega)
          have h2 := Int.emod_lt_of_pos i (show (0 : Int) < ns.length by omega)
          omega
        have hnn := Int.emod_nonneg i (show (ns.length : Int) ≠ 0 by omega)
        have g : atI (ns.map V.int) (i % (((ns.map V.int).length : Nat) : Int)) = some (.int ns[(i % (ns.length : Int)).toNat]) := by
          rw [List.length_map]
          refine at_of (j := (i % (ns.length : Int)).toNat) (by omega) ?_
          rw [List.getElem?_map, List.getElem?_eq_getElem hlt]
          rfl
        refine ⟨.ref p, rfl, p, _, 0, .ref c, rfl, rfl, SqL.of hp2, atI_nat (j := 0) rfl, .int i, rfl, .ref p, rfl, p, _, 0, .ref c, rfl, rfl, SqL.of hp2, atI_nat (j := 0) rfl,
          c, _, rfl, .inl (SqL.of hc2), _, _, rfl, rfl, by rw [List.length_map]; omega, c, _, _, _, rfl, rfl, SqL.of hc2, g, ?_⟩
        exact ⟨_, rfl, hp2, hc2, b2⟩
    · rintro σ H2 ⟨cell, rfl, hp2, hc2, b2⟩
      have fin : ∀ x : Int, 0 ≤ x → Q (.int x) H2 := fun x hx => q x H2 hx b2 (hp.but b2 hp2 (by omega) (by omega) hp.s0)
      have m1 := Int.emod_nonneg (cell % 2147483587 + i * 70061 + 53) (show (2147483587 : Int) ≠ 0 by decide)
      have m2 := Int.emod_lt_of_pos (cell % 2147483587 + i * 70061 + 53) (show (0 : Int) < 2147483587 by decide)
      have M0 : (2147483587 : Int) ≠ 0 := by decide
      have M1 : (0 : Int) < 2147483587 := by decide
      have M2 : (0 : Int) < 2147483563 := by decide
      have M3 : (0 : Int) < 2147483549 := by decide
      refine ⟨fun σ' H' => σ' = [some (.ref p), some (.int i), some (.int cell), none, none, none] ∧ H' = H2, ?_, ?_⟩
      · refine ⟨.int i, rfl, .ref p, rfl, p, _, 0, .ref c, rfl, rfl, SqL.of hp2, atI_nat (j := 0) rfl, c, _, rfl, .inl (SqL.of hc2), _, _, rfl, rfl, _, rfl, ?_⟩
        refine ite2 (fun _ => ?_) (fun _ => iteF ⟨rfl, rfl⟩)
        refine ⟨.int cell, rfl, _, _, rfl, rfl, ⟨by decide, by decide, by decide⟩, _, _, rfl, rfl, _, rfl, ?_⟩
        refine ite2 (fun hc => ?_) (fun _ => ⟨rfl, rfl⟩)
        have hc' : (10 : Int) ^ 18 ≤ cell := of_decide_eq_true hc
        exact ⟨.int cell, rfl, fin cell (by omega)⟩
      · rintro σ' H' ⟨rfl, rfl⟩
        refine ⟨fun σ' Ha => Ha = H' ∧ ∃ low : Int, 0 ≤ low ∧ low < 2147483587 ∧ σ' = [some (.ref p), some (.int i), some (.int cell), some (.int low), none, none], ?_, ?_⟩
        · refine ⟨.int cell, rfl, _, _, rfl, rfl, M1, .int i, rfl, _, _, rfl, rfl, .inr ⟨by decide, by decide⟩, _, _, rfl, rfl, _, _, rfl, rfl, _, _, rfl, rfl, M1, ?_⟩
          exact ⟨rfl, _, Int.emod_nonneg _ M0, Int.emod_lt_of_pos _ M1, rfl⟩
        rintro σ' Hb ⟨rfl, low, l1, l2, rfl⟩
        refine ⟨fun σ' Ha => Ha = Hb ∧ ∃ mid : Int, 0 ≤ mid ∧ mid < 2147483563 ∧ σ' = [some (.ref p), some (.int i), some (.int cell), some (.int low), some (.int mid), none], ?_, ?_⟩
        · refine ⟨.int low, rfl, .int low, rfl, _, _, rfl, rfl, .inl ⟨by omega, by omega⟩, .int i, rfl, _, _, rfl, rfl, .inr ⟨by decide, by decide⟩, _, _, rfl, rfl, _, _, rfl, rfl, _, _, rfl, rfl, M2, ?_⟩
          exact ⟨rfl, _, Int.emod_nonneg _ (by decide), Int.emod_lt_of_pos _ M2, rfl⟩
        rintro σ' Hc ⟨rfl, mid, d1, d2, rfl⟩
        refine ⟨fun σ' Ha => Ha = Hc ∧ ∃ tp : Int, 0 ≤ tp ∧ σ' = [some (.ref p), some (.int i), some (.int cell), some (.int low), some (.int mid), some (.int tp)], ?_, ?_⟩
        · refine ⟨.int mid, rfl, .int mid, rfl, _, _, rfl, rfl, .inl ⟨by omega, by omega⟩, .int low, rfl, _, _, rfl, rfl, .int i, rfl, .int i, rfl, _, _, rfl, rfl, .inl ⟨by omega, by omega⟩, _, _, rfl, rfl, .inr ⟨by decide, by decide⟩, _, _, rfl, rfl, _, _, rfl, rfl, M3, ?_⟩
          exact ⟨rfl, _, Int.emod_nonneg _ (by decide), rfl⟩
        rintro σ' H3 ⟨rfl, tp, t1, rfl⟩
        refine ⟨.int tp, rfl, _, _, rfl, rfl, .inr ⟨by decide, by decide⟩, .int mid, rfl, _, _, rfl, rfl, _, _, rfl, rfl, .inr ⟨by decide, by decide⟩, .int low, rfl, _, _, rfl, rfl, ?_⟩
        exact fin _ (by show 0 ≤ (tp * 2147483587 + mid) * 2147483563 + low; omega)
theorem scDraw : FnScope ["pen", "below", "digit"] ["pen", "below"] (defScope sDraw) := ⟨rfl, rfl, rfl, by decide +kernel, rfl, by decide +kernel, by decide +kernel⟩
theorem ok_draw {f fN : Addr} {fd fdN : FuncData} {k : Nat} (F : Fun K "_law_draw" "_law_draw" sDraw f fd) (FN : Fun K "_law_next" "_law_next" sNext fN fdN) (bN : Binds K fdN ["pen"] []) (gN : mg "_law_next" = some (.ref fN)) (ml : mg "len" = none) :
    FnOk P w K mg base CX0 (k + 2) f fd ["pen", "below"] spDraw := by
  have GN : FnOk P w K mg base CX0 (k + 1) fN fdN ["pen"] spNext := ok_next FN ml
  refine F.ok scDraw (fun vs H Q E h => ?_) (fun cdv A outer s H vs Q E hr h => ?_)
  · obtain ⟨p, c, n, m, below, rfl, _⟩ := h
    rfl
  · obtain ⟨p, c, n, m, below, rfl, ⟨ns, i, z, hp⟩, hn, hb0, hb1, q⟩ := h
    have nd := scDraw.nd
    refine ⟨_, C8.pss_cut (ps_if (pt_cmpR op_lt (pe_ix ix_list (pv 0) pe_int (fun _ _ => rfl)) (pv 1) (nomark _))
        (pss_one (ps_asg (pe_call GN hr (by rfl) gN FN.kp bN .nil pass0 (pa_cons (pv 0) pa_nil)) (pg_sub (pv 0) pe_int set_list))) pss_nil)
      (pss_cons (ps_set (i := 2) nd rfl (.inl rfl) (pe_op op_mod (pe_ix ix_list (pv 0) pe_int (fun _ _ => rfl)) (pv 1)))
      (pss_cons (ps_asg (pe_op op_fdiv (pe_ix ix_list (pv 0) pe_int (fun _ _ => rfl)) (pv 1)) (pg_sub (pv 0) pe_int set_list))
      (pss_one (ps_ret (pv 2))))), ?_⟩
    refine ⟨fun σ H2 => σ = [some (.ref p), some (.int below), none] ∧ But p H H2 ∧ ∃ i z, PenAt H2 p (n + 1) m c ns i z, ?_, ?_⟩
    · refine ⟨.ref p, rfl, p, _, 2, .int z, rfl, rfl, SqL.of hp.at_, atI_nat (j := 2) rfl, .int below, rfl, _, _, rfl, rfl, _, rfl, ?_⟩
      refine ite2 (fun _ => ?_) (fun _ => ⟨rfl, .refl _ _, i, z, hp.mono (Nat.le_succ _)⟩)
      refine ⟨.ref p, rfl, p, n, m, c, ns, i, z, rfl, hp, hn, fun x H1 hx b1 hp1 => ?_⟩
      refine ⟨.ref p, rfl, p, _, 2, 2, rfl, rfl, hp1.at_, ix2, ?_⟩
      exact ⟨rfl, b1.trans .upd, i + 1, x, hp1.next hp1.i0 hp1.i1 hx⟩
    · rintro σ H2 ⟨rfl, b2, i', z', hp2⟩
      refine ⟨.ref p, rfl, p, _, 2, .int z', rfl, rfl, SqL.of hp2.at_, atI_nat (j := 2) rfl, .int below, rfl, _, _, rfl, rfl, hb0, ?_⟩
      refine ⟨.ref p, rfl, p, _, 2, .int z', rfl, rfl, SqL.of hp2.at_, atI_nat (j := 2) rfl, .int below, rfl, _, _, rfl, rfl, ⟨hb0, hb1⟩, .ref p, rfl, p, _, 2, 2, rfl, rfl, hp2.at_, ix2, ?_⟩
      refine ⟨_, rfl, q _ _ (Int.emod_nonneg _ (by omega)) (Int.emod_lt_of_pos _ hb0) (b2.trans .upd) ⟨ns, i', z' / below, hp2.next hp2.i0 hp2.i1 (Int.ediv_nonneg hp2.s0 (by omega))⟩⟩
end
/-! ### has_only, is_prefix -/
def spHas : Sp := fun vs H Q _ => ∃ x y : Str, vs = [.str x, .str y] ∧ x.length ≤ sizeLine ∧ Q (.bl (onlyOf y x)) H
def spPfx (K : PySem.W.Frag) : Sp := fun vs H Q _ => ∃ (v : V) (w : Int), vs = [v, .int w] ∧ TyS K H v ∧ (∀ x, v = .str x → x.length ≤ sizeLine) ∧ Q (.bl (isPfx v w)) H
section
variable {P : Program} {w : World} {K : PySem.W.Frag} {mg : Str → Option Value} {base : Heap}
theorem scHas : FnScope ["text", "signs"] ["text", "signs"] (defScope sHas) := ⟨rfl, rfl, rfl, by decide +kernel, rfl, by decide +kernel, by decide +kernel⟩
theorem ok_has {f : Addr} {fd : FuncData} {k : Nat} (F : Fun K "has_only" "has_only" sHas f fd) : FnOk P w K mg base CX0 (k + 1) f fd ["text", "signs"] spHas := by
  refine F.ok scHas (fun vs H Q E h => ?_) (fun cdv A outer s H vs Q E hr h => ?_)
  · obtain ⟨x, y, rfl, _⟩ := h
    rfl
  · obtain ⟨x, y, rfl, hl, q⟩ := h
    refine ⟨_, pss_one (ps_ret (pe_cmpR op_eq (pe_bm PySem.F.plainAttrs_str PySem.F.slot_str_lstrip PySem.F.type_str_lstrip mt_lstripChars (pv 0) (pa_cons (pv 1) pa_nil)) pe_str (nomark _))), ?_⟩
    refine ⟨.str x, rfl, rfl, .str y, rfl, x, y, rfl, rfl, hl, rfl, ?_⟩
    show Q (.bl (decide (V.str (Txt.lstripChars x y) = V.str ""))) H
    rw [lstrip_empty]
    exact q
theorem scPfx : FnScope ["thing", "width"] ["thing", "width"] (defScope sPfx) := ⟨rfl, rfl, rfl, by decide +kernel, rfl, by decide +kernel, by decide +kernel⟩
theorem ok_pfx {f fH : Addr} {fd fdH : FuncData} {k : Nat} (F : Fun K "is_prefix" "is_prefix" sPfx f fd) (FH : Fun K "has_only" "has_only" sHas fH fdH) (bH : Binds K fdH ["text", "signs"] []) (gH : mg "has_only" = some (.ref fH))
    (mi : mg "isinstance" = none) (ms : mg "str" = none) (ml : mg "len" = none) : FnOk P w K mg base CX0 (k + 2) f fd ["thing", "width"] (spPfx K) := by
  have GH : FnOk P w K mg base CX0 (k + 1) fH fdH ["text", "signs"] spHas := ok_has FH
  refine F.ok scPfx (fun vs H Q E h => ?_) (fun cdv A outer s H vs Q E hr h => ?_)
  · obtain ⟨v, w, rfl, _⟩ := h
    rfl
  · obtain ⟨v, w, rfl, ⟨t, ty, kt⟩, hl, q⟩ := h
    refine ⟨_, pss_one (ps_ret (pe_and (pe_callB call_isi (by rfl) mi (by decide +kernel) (pa_cons (pv 0) (pa_cons (pe_bltn (v := .ty "str") (by rfl) ms (by decide +kernel) rfl) pa_nil)))
      (pe_and (pe_cmpR op_le (pe_callB call_len_str (by rfl) ml PySem.boot_len (pa_cons (pv 0) pa_nil)) (pv 1) (nomark _))
        (pe_one (pe_call GH hr (by rfl) gH FH.kp bH .nil pass0 (pa_cons (pv 0) (pa_cons pe_str pa_nil))))))), ?_⟩
    refine ⟨v, rfl, v, .ty "str", .type t, .type "str", _, rfl, .ty _, ty, kt, _, rfl, ?_⟩
    cases v with
    | str x =>
      refine iteT ?_
      have hx := hl x rfl
      refine ⟨.str x, rfl, x, rfl, hx, .int w, rfl, _, _, rfl, rfl, _, rfl, ?_⟩
      by_cases hw : (x.length : Int) ≤ w
      · rw [decide_eq_true hw]
        refine iteT ⟨.str x, rfl, x, _, rfl, hx, ?_⟩
        have e : isPfx (.str x) w = isBits x := by
          show (decide ((x.length : Int) ≤ w) && isBits x) = isBits x
          rw [decide_eq_true hw, Bool.true_and]
        rw [e] at q
        exact q
      · rw [decide_eq_false hw]
        refine iteF ?_
        have e : isPfx (.str x) w = false := by
          show (decide ((x.length : Int) ≤ w) && isBits x) = false
          rw [decide_eq_false hw, Bool.false_and]
        rw [e] at q
        exact q
    | _ => exact iteF q
end
section
variable {P : Program} {w : World} {K : PySem.W.Frag} {mg : Str → Option Value} {base : Heap}
theorem scBits : FnScope ["pen", "size", "turn"] ["pen", "size"] (defScope sBits) := ⟨rfl, rfl, rfl, by decide +kernel, rfl, by decide +kernel, by decide +kernel⟩
theorem ok_bits {f fD : Addr} {fd fdD : FuncData} {k : Nat} (F : Fun K "_law_bits" "_law_bits" sBits f fd) (GD : FnOk P w K mg base CX0 k fD fdD ["pen", "below"] spDraw) (FD : Fun K "_law_draw" "_law_draw" sDraw fD fdD) (bD : Binds K fdD ["pen", "below"] []) (gD : mg "_law_draw" = some (.ref fD))
    (mr : mg "range" = none) : FnOk P w K mg base CX0 (k + 1) f fd ["pen", "size"] spBits := by
  refine F.ok scBits (fun vs H Q E h => ?_) (fun cdv A outer s H vs Q E hr h => ?_)
  · obtain ⟨p, c, n, z, m, rfl, _⟩ := h
    rfl
  · obtain ⟨p, c, n, z, m, rfl, hp, hn, hz, q⟩ := h
    have nd := scBits.nd
    have hnB : n + 100 ≤ 1000000000000 := hn
    refine ⟨_, pss_one (ps_ret (pe_join pe_str (pe_lc (own := [("turn", 2)]) (g := gName 2) (tt := tYes) rfl nd
      (pi_range1 (by rfl) mr (pa_cons (pe_call GD hr (by rfl) gD FD.kp bD .nil pass0 (pa_cons (pv 0) (pa_cons (pe_op op_add (pv 1) pe_int) pa_nil))) pa_nil))
      (blkOk_by (N := ["pen", "size", "turn"]) (sc := defScope sBits) (by decide +kernel)) (fun _ _ _ _ _ => pg_name (i := 2) nd rfl (.inl rfl)) (fun _ _ _ _ _ => pts_nil)
      (fun _ _ _ _ _ => pe_ix (r := rIxS) ix_str pe_str (pe_call GD hr (by rfl) gD FD.kp bD .nil pass0 (pa_cons (pv 0) (pa_cons pe_int pa_nil))) (fun _ _ => rfl))))), ?_⟩
    refine ⟨⟨_, rfl⟩, .ref p, rfl, .int z, rfl, _, _, rfl, rfl, p, c, n, m, (z : Int) + 1, rfl, hp, by show n ≤ 1000000000000; omega, by omega, by omega, fun d H1 d0 d1 b1 p1 => ?_⟩
    refine ⟨d, rfl, by omega, by omega, fun D nD => lc_range (n := d.toNat) (fun j H' => ∃ ys : List Str, H' D = some (.lst (ys.map V.str)) ∧ ys.length = j ∧ (∀ y ∈ ys, y = "0" ∨ y = "1") ∧ But p H H' ∧ Pen H' p c (n + 1 + j) m) ?_ ?_ ?_⟩
    · exact ⟨[], upd_same, rfl, fun _ h => absurd h List.not_mem_nil, b1.trans (.of_same (same_upd nD)), p1.off (p1.ne_p nD) (p1.ne_c nD)⟩
    · rintro j H' hj ⟨ys, hD, hy, hys, bH, pj⟩
      refine ⟨rfl, yes_if ?_⟩
      refine ⟨.ref p, rfl, p, c, n + 1 + j, m, 2, rfl, pj, by show n + 1 + j ≤ 1000000000000; omega, by decide, by decide, fun e H'' e0 e1 b p' => ?_⟩
      have hb : ∃ ch, atI (sg "01") e = some ch ∧ ((⟨#[ch]⟩ : Str) = "0" ∨ (⟨#[ch]⟩ : Str) = "1") := by
        obtain rfl | rfl : e = 0 ∨ e = 1 := by omega
        · exact ⟨48, by decide +kernel, .inl (by decide +kernel)⟩
        · exact ⟨49, by decide +kernel, .inr (by decide +kernel)⟩
      obtain ⟨ch, hch, hc⟩ := hb
      refine ⟨"01", e, ch, rfl, rfl, by decide +kernel, hch, _, b D _ (p1.ne_p nD) hD, ?_, ys ++ [⟨#[ch]⟩], ?_, ?_, ?_, ?_, p'.off (p1.ne_p nD) (p1.ne_c nD)⟩
      · exact Nat.lt_of_le_of_lt (show (ys.map V.str).length ≤ 1000 by rw [List.length_map]; omega) (by decide)
      · rw [upd_same, List.map_append]
        rfl
      · rw [List.length_append, hy]
        rfl
      · intro y hy
        rcases List.mem_append.mp hy with hy | hy
        · exact hys y hy
        · rw [List.mem_singleton.mp hy]
          exact hc
      · intro a o na ha
        have naD : a ≠ D := fun e => by
          rw [e, b1.free (p1.ne_p nD) nD] at ha
          cases ha
        rw [upd_ne naD]
        exact b a o na (bH a o na ha)
    · rintro H' ⟨ys, hD, hy, hys, bH, pj⟩
      have s1 : ∀ y ∈ ys, Sm 1 y := fun y h => by
        rcases hys y h with e | e <;> (rw [e]; exact ⟨by decide +kernel, by decide +kernel⟩)
      refine ⟨"", D, ys, rfl, rfl, .inl (SqL.of hD), ?_, ?_⟩
      · have := sum_ones s1
        have e : ((("" : String) : Str)).length = 0 := by decide +kernel
        rw [e]
        omega
      refine q _ H' bH (pj.mono (by omega)) (bits_iff.mpr fun ch hc => ?_) (Nat.le_trans (Sm.join s1).ln (by omega))
      rw [sg_join] at hc
      obtain ⟨l, hl, hc⟩ := List.mem_flatten.mp hc
      obtain ⟨y, hy, rfl⟩ := List.mem_map.mp hl
      rcases hys y hy with e | e
      · rw [e, show sg "0" = [48] by decide +kernel] at hc
        exact .inl (List.mem_singleton.mp hc)
      · rw [e, show sg "1" = [49] by decide +kernel] at hc
        exact .inr (List.mem_singleton.mp hc)
theorem scSize : FnScope ["pen", "size"] ["pen"] (defScope sSize) := ⟨rfl, rfl, rfl, by decide +kernel, rfl, by decide +kernel, by decide +kernel⟩
theorem ok_size {f fD : Addr} {fd fdD : FuncData} {k : Nat} (F : Fun K "_law_size" "_law_size" sSize f fd) (GD : FnOk P w K mg base CX0 k fD fdD ["pen", "below"] spDraw) (FD : Fun K "_law_draw" "_law_draw" sDraw fD fdD) (bD : Binds K fdD ["pen", "below"] []) (gD : mg "_law_draw" = some (.ref fD))
    (ml : mg "len" = none) : FnOk P w K mg base CX0 (k + 1) f fd ["pen"] spSize := by
  refine F.ok scSize (fun vs H Q E h => ?_) (fun cdv A outer s H vs Q E hr h => ?_)
  · obtain ⟨p, c, n, m, rfl, _⟩ := h
    rfl
  · obtain ⟨p, c, n, m, rfl, hp, hn, hm, q⟩ := h
    have nd := scSize.nd
    have hnB : n + 100 ≤ 1000000000000 := hn
    refine ⟨_, pss_cons (ps_set (i := 1) nd rfl (.inl rfl) (pe_ix ix_list (pe_lst (pa_cons pe_int (pa_cons pe_int (pa_cons pe_int (pa_cons pe_int (pa_cons pe_int (pa_cons pe_int pa_nil)))))))
        (pe_call GD hr (by rfl) gD FD.kp bD .nil pass0 (pa_cons (pv 0) (pa_cons pe_int pa_nil))) (fun _ _ => rfl)))
      (pss_cons (ps_if (PW.pt (pw_and (pt_cmpR op_eq (pv 1) pe_int (nomark _)) (pw_and1 (pt_cmpR op_gt (pe_callB call_len_seq (by rfl) ml PySem.boot_len (pa_cons (pv 0) pa_nil)) pe_int (nomark _))))) (pss_one (ps_ret pe_int)) pss_nil)
      (pss_cons (ps_if (pt_cmpR op_eq (pv 1) pe_int (nomark _)) (pss_one (ps_expr (pe_bm PySem.F.plainAttrs_list PySem.F.slot_list_append PySem.F.type_list_append mt_append (pv 0) (pa_cons pe_int pa_nil)))) pss_nil)
      (pss_one (ps_ret (pv 1))))), ?_⟩
    refine ⟨by show 6 ≤ sizeLine; decide, fun l nl => ?_⟩
    refine ⟨.ref p, rfl, p, c, n, m, 6, rfl, hp.keep (same_upd nl), by show n ≤ 1000000000000; omega, by decide, by decide, fun d H1 d0 d1 b1 p1 => ?_⟩
    have b1' : But p H H1 := (But.of_same (same_upd nl)).trans b1
    have hz : ∃ z : Nat, atI ([.int 1, .int 2, .int 3, .int 3, .int 4, .int 32] : List V) d = some (.int z) ∧ 1 ≤ z ∧ z ≤ 32 := by
      obtain rfl | rfl | rfl | rfl | rfl | rfl : d = 0 ∨ d = 1 ∨ d = 2 ∨ d = 3 ∨ d = 4 ∨ d = 5 := by omega
      · exact ⟨1, rfl, by decide, by decide⟩
      · exact ⟨2, rfl, by decide, by decide⟩
      · exact ⟨3, rfl, by decide, by decide⟩
      · exact ⟨3, rfl, by decide, by decide⟩
      · exact ⟨4, rfl, by decide, by decide⟩
      · exact ⟨32, rfl, by decide, by decide⟩
    obtain ⟨z, ez, z1, z32⟩ := hz
    refine ⟨l, _, d, _, rfl, rfl, SqL.of (b1 l _ (hp.ne_p nl) upd_same), ez, ?_⟩
    obtain ⟨ns, i, st, P1⟩ := id p1
    have hP : H1 p = some (.lst (.ref c :: .int i :: .int st :: m)) := P1.at_
    refine ⟨.int z, rfl, rfl, _, rfl, ite2 (fun e => ?_) (fun e => ?_)⟩
    · refine ⟨.ref p, rfl, p, _, rfl, .inl (SqL.of hP), _, _, rfl, rfl, _, rfl, ite2 (fun _ => q 5 m H1 b1' p1 hm (by decide) (by decide)) (fun e2 => ?_)⟩
      have hm0 : m = [] := by
        cases m with
        | nil => rfl
        | cons x r =>
          refine absurd (decide_eq_true ?_) e2
          rw [List.length_cons, List.length_cons, List.length_cons, List.length_cons]
          omega
      subst hm0
      refine ⟨.int z, rfl, rfl, _, rfl, ite2 (fun _ => ?_) (fun e3 => absurd e e3)⟩
      refine ⟨.ref p, rfl, .inl ⟨rfl, _, SqL.of hP⟩, p, _, _, rfl, rfl, hP, by show 3 < sizeLine; decide, ?_⟩
      refine ⟨.int z, rfl, q z [.int 1] _ (b1'.trans .upd) ⟨ns, i, st, upd_same, ?_, P1.len, P1.i0, P1.i1, P1.s0⟩ (Nat.le_refl _) z1 z32⟩
      rw [upd_ne P1.ne]
      exact P1.cells
    · refine ⟨.int z, rfl, rfl, _, rfl, ite2 (fun e3 => absurd e3 e) (fun _ => ?_)⟩
      exact ⟨.int z, rfl, q z m H1 b1' p1 hm z1 z32⟩
end
section
variable {P : Program} {w : World} {K : PySem.W.Frag} {mg : Str → Option Value} {base : Heap}
theorem scPrefixes : FnScope ["pen", "size", "most", "found", "turn", "start", "prefix"] ["pen", "size", "most"] (defScope sPrefixes) := ⟨rfl, rfl, rfl, by decide +kernel, rfl, by decide +kernel, by decide +kernel⟩
theorem ok_prefixes {f fD fB : Addr} {fd fdD fdB : FuncData} {k : Nat} (F : Fun K "_law_prefixes" "_law_prefixes" sPrefixes f fd) (GD : FnOk P w K mg base CX0 k fD fdD ["pen", "below"] spDraw) (FD : Fun K "_law_draw" "_law_draw" sDraw fD fdD) (bD : Binds K fdD ["pen", "below"] []) (gD : mg "_law_draw" = some (.ref fD))
    (GB : FnOk P w K mg base CX0 k fB fdB ["pen", "size"] spBits) (FB : Fun K "_law_bits" "_law_bits" sBits fB fdB) (bB : Binds K fdB ["pen", "size"] []) (gB : mg "_law_bits" = some (.ref fB))
    (mr : mg "range" = none) (ml : mg "len" = none) (mm : mg "min" = none) : FnOk P w K mg base CX0 (k + 1) f fd ["pen", "size", "most"] spPrefixes := by
  refine F.ok scPrefixes (fun vs H Q E h => ?_) (fun cdv A outer s H vs Q E hr h => ?_)
  · obtain ⟨p, c, n, z, k, m, rfl, _⟩ := h
    rfl
  · obtain ⟨p, c, n, z, most, m, rfl, hp, hn, hz, hk, q⟩ := h
    have nd := scPrefixes.nd
    have hu := hr.units
    have hnB : n + 1000 ≤ 1000000000000 := hn
    refine ⟨_, pss_cons (ps_set (i := 3) nd rfl (.inl rfl) (pe_lst pa_nil))
      (pss_cons (ps_for PassesOwn.never rfl (pi_range1 (by rfl) mr (pa_cons (pe_call GD hr (by rfl) gD FD.kp bD .nil pass0 (pa_cons (pv 0) (pa_cons (pe_op op_add (pv 2) pe_int) pa_nil))) pa_nil)) (pg_name (i := 4) nd rfl (.inl rfl))
        (C8.pss_cut (ps_set (i := 5) nd rfl (.inl rfl) (pe_ifExp (PW.pt (pw_and (pt_cmpR (op_neD hu) (pv 3) (pe_lst pa_nil) (nomark _)) (pw_and1 (pt_cmpR op_eq (pe_call GD hr (by rfl) gD FD.kp bD .nil pass0 (pa_cons (pv 0) (pa_cons pe_int pa_nil))) pe_int (nomark _)))))
            (pe_ix ix_list (pv 3) (pe_call GD hr (by rfl) gD FD.kp bD .nil pass0 (pa_cons (pv 0) (pa_cons (pe_callB call_len_seq (by rfl) ml PySem.boot_len (pa_cons (pv 3) pa_nil)) pa_nil))) (fun _ _ => rfl)) pe_str))
        (pss_cons (ps_set (i := 6) nd rfl (.inl rfl) (pe_slice sl_str (pe_op op_add_str (pv 5) (pe_call GB hr (by rfl) gB FB.kp bB .nil pass0 (pa_cons (pv 0) (pa_cons (pe_callB (call_min2 rfl) (by rfl) mm (by decide +kernel) (pa_cons (pv 1) (pa_cons pe_int pa_nil))) pa_nil)))) po_none (po_some (pv 1))))
        (pss_one (ps_if (pt_cmpR op_notIn_seq (pv 6) (pv 3) (by rfl)) (pss_one (ps_expr (pe_bm PySem.F.plainAttrs_list PySem.F.slot_list_append PySem.F.type_list_append mt_append (pv 3) (pa_cons (pv 6) pa_nil)))) pss_nil)))))
      (pss_one (ps_ret (pv 3)))), ?_⟩
    refine ⟨Nat.zero_le _, fun l nl => ?_⟩
    have lp : l ≠ p := hp.ne_p nl
    have lc : l ≠ c := hp.ne_c nl
    refine ⟨.ref p, rfl, .int most, rfl, _, _, rfl, rfl, p, c, n, m, (most : Int) + 1, rfl, hp.keep (same_upd nl), by show n ≤ 1000000000000; omega, by omega, by omega, fun d H1 d0 d1 b1 p1 => ?_⟩
    refine ⟨d, rfl, by omega, by omega, for_range (n := d.toNat) (fun i σ H' => ∃ xs x4 x5 x6, σ = [some (.ref p), some (.int z), some (.int most), some (.ref l), x4, x5, x6] ∧ H' l = some (.lst (xs.map V.str)) ∧ PfxL z xs ∧ xs.length ≤ i ∧ But p H H' ∧ Pen H' p c (n + 1 + 8 * i) m) ?_ ?_ ?_⟩
    · exact ⟨[], _, _, _, rfl, b1 l _ lp upd_same, ⟨List.nodup_nil, fun _ h => absurd h List.not_mem_nil, fun _ h => absurd h List.not_mem_nil⟩, Nat.le_refl _, (But.of_same (same_upd nl)).trans b1, p1⟩
    · rintro i σ H' hi ⟨xs, x4, x5, x6, rfl, hl, hx, hxl, bH, pH⟩
      have hxz : xs.length ≤ 20 := by omega
      refine ⟨fun σ' H'' => ∃ x : Str, σ' = [some (.ref p), some (.int z), some (.int most), some (.ref l), some (.int (0 + i)), some (.str x), x6] ∧ isBits x = true ∧ x.length ≤ z ∧ H'' l = some (.lst (xs.map V.str)) ∧ But p H H'' ∧ Pen H'' p c (n + 1 + 8 * i + 2) m, ?_, ?_⟩
      · refine ⟨.ref l, rfl, Nat.zero_le _, fun e ne => ?_⟩
        have s1 := same_upd (o := .lst []) ne
        have hl1 := s1 _ _ hl
        refine ⟨.list (xs.map PyData.str), .list [], .lst (SqL.of hl1) (dpAll_strs xs), .lst (SqL.of upd_same) .nil, shaped_strs hx.bits, rfl, _, rfl, ?_⟩
        rw [eqv_nilS]
        have pH1 := pH.keep s1
        have bH1 := bH.trans (.of_same s1)
        revert hl1 pH1 bH1
        generalize upd H' e (.lst []) = H2
        intro hl1 pH1 bH1
        by_cases hz0 : xs = []
        · rw [decide_eq_true hz0]
          refine iteF (iteF ?_)
          exact ⟨"", rfl, bits_empty, Nat.zero_le _, hl1, bH1, pH1.mono (by omega)⟩
        · rw [decide_eq_false hz0]
          refine iteT ?_
          refine ⟨.ref p, rfl, p, c, _, m, 2, rfl, pH1, by show n + 1 + 8 * i ≤ 1000000000000; omega, by decide, by decide, fun e H3 e0 e1 b3 p3 => ?_⟩
          refine ⟨rfl, _, rfl, ite2 (fun _ => ?_) (fun _ => ?_)⟩
          · have hl3 := b3 _ _ lp hl1
            have hpos : 0 < xs.length := List.length_pos_iff.mpr hz0
            refine ⟨.ref l, rfl, .ref p, rfl, .ref l, rfl, l, _, rfl, .inl (SqL.of hl3), p, c, _, m, (((xs.map V.str).length : Nat) : Int), rfl, p3, by show n + 1 + 8 * i + 1 ≤ 1000000000000; omega, by rw [List.length_map]; omega, by rw [List.length_map]; omega, fun g H4 g0 g1 b4 p4 => ?_⟩
            rw [List.length_map] at g1
            have hg : g.toNat < xs.length := by omega
            refine ⟨l, _, g, .str xs[g.toNat], rfl, rfl, SqL.of (b4 _ _ lp hl3), at_of (j := g.toNat) (by omega) (by rw [List.getElem?_map, List.getElem?_eq_getElem hg]; rfl), ?_⟩
            exact ⟨xs[g.toNat], rfl, hx.bits _ (List.getElem_mem hg), hx.len _ (List.getElem_mem hg), b4 _ _ lp hl3, (bH1.trans b3).trans b4, p4⟩
          · exact ⟨"", rfl, bits_empty, Nat.zero_le _, b3 _ _ lp hl1, bH1.trans b3, p3.mono (by omega)⟩
      · rintro σ' H'' ⟨x, rfl, hxb, hxz2, hl2, bH2, pH2⟩
        have hmin : (if (5 : Int) < (z : Int) then (5 : Int) else (z : Int)) = ((min 5 z : Nat) : Int) := by
          by_cases h5 : (5 : Int) < (z : Int)
          · rw [if_pos h5]
            omega
          · rw [if_neg h5]
            omega
        refine ⟨.str x, rfl, .ref p, rfl, .int z, rfl, _, _, rfl, p, c, _, min 5 z, m, ?_, pH2, by show n + 1 + 8 * i + 2 + 100 ≤ 1000000000000; omega, by omega, fun y H3 b3 p3 hyb hyl => ?_⟩
        · show [V.ref p, V.int (if (5 : Int) < (z : Int) then 5 else z)] = _
          rw [hmin]
        refine ⟨_, _, rfl, rfl, Nat.le_trans (show x.length + y.length ≤ 1000 by omega) (by decide), .int z, rfl, z, rfl, _, rfl, ?_, ?_⟩
        · rw [strLen_append]
          exact Nat.le_trans (show x.length + y.length ≤ 1000 by omega) (by decide)
        have hb : isBits (cutS (x ++ y) none (some (z : Int))) = true := bits_cut (bits_app hxb hyb) _ _
        have hlz := take_len (x ++ y) z
        revert hb hlz
        generalize cutS (x ++ y) none (some (z : Int)) = pf
        intro hb hlz
        have hl3 := b3 _ _ lp hl2
        have bH3 := bH2.trans b3
        refine ⟨.str pf, rfl, .ref l, rfl, l, _, rfl, .inl (SqL.of hl3), rfl, flat_str xs, _, rfl, ?_⟩
        show if (if true = true then !inV (.str pf) (xs.map V.str) else inV (.str pf) (xs.map V.str)) = true then _ else _
        rw [if_pos rfl, inV_str]
        have hp3 : Pen H3 p c (n + 1 + 8 * (i + 1)) m := p3.mono (by omega)
        by_cases hmem : pf ∈ xs
        · rw [decide_eq_true hmem]
          refine iteF ?_
          exact ⟨xs, _, _, _, rfl, hl3, hx, by omega, bH3, hp3⟩
        · rw [decide_eq_false hmem]
          refine iteT ?_
          refine ⟨.ref l, rfl, .inl ⟨rfl, _, SqL.of hl3⟩, .str pf, rfl, l, _, _, rfl, rfl, hl3, ?_, ?_⟩
          · exact Nat.lt_of_le_of_lt (show (xs.map V.str).length ≤ 1000 by rw [List.length_map]; omega) (by decide)
          · refine ⟨xs ++ [pf], _, _, _, rfl, by rw [upd_same, List.map_append]; rfl, ⟨?_, ?_, ?_⟩, by rw [List.length_append, List.length_singleton]; omega, ?_, hp3.off lp lc⟩
            · rw [List.nodup_append]
              refine ⟨hx.nd, (List.nodup_cons.mpr ⟨List.not_mem_nil, List.nodup_nil⟩), fun a ha b hb e => hmem ?_⟩
              rw [List.mem_singleton.mp hb] at e
              rw [← e]
              exact ha
            · intro y hy
              rcases List.mem_append.mp hy with hy | hy
              · exact hx.bits y hy
              · rw [List.mem_singleton.mp hy]
                exact hb
            · intro y hy
              rcases List.mem_append.mp hy with hy | hy
              · exact hx.len y hy
              · rw [List.mem_singleton.mp hy]
                exact hlz
            · intro a o na ha
              have nal : a ≠ l := ne_of_none ha nl
              rw [upd_ne nal]
              exact bH3 a o na ha
    · rintro σ H' ⟨xs, x4, x5, x6, rfl, hl, hx, hxl, bH, pH⟩
      have hd : d.toNat ≤ most := by omega
      exact ⟨.ref l, rfl, q l xs H' bH (pH.mono (by omega)) nl hl hx (by omega)⟩
end
/-! ### is_whole, is_width -/
def spWhole (K : PySem.W.Frag) : Sp := fun vs H Q _ => ∃ v t, vs = [v] ∧ TyI K H v t ∧ Q (.bl (isWholeV v)) H
def spWidth (K : PySem.W.Frag) : Sp := fun vs H Q _ => ∃ v t, vs = [v] ∧ TyI K H v t ∧ Q (.bl (isWidthV v)) H
section
variable {P : Program} {w : World} {K : PySem.W.Frag} {mg : Str → Option Value} {base : Heap}
theorem scWhole : FnScope ["thing"] ["thing"] (defScope sWhole) := ⟨rfl, rfl, rfl, by decide +kernel, rfl, by decide +kernel, by decide +kernel⟩
theorem ok_whole {f : Addr} {fd : FuncData} {k : Nat} (F : Fun K "is_whole" "is_whole" sWhole f fd) (mi : mg "isinstance" = none) (mn : mg "int" = none) (mb : mg "bool" = none) : FnOk P w K mg base CX0 (k + 1) f fd ["thing"] (spWhole K) := by
  refine F.ok scWhole (fun vs H Q E h => ?_) (fun cdv A outer s H vs Q E hr h => ?_)
  · obtain ⟨v, t, rfl, _⟩ := h
    rfl
  · obtain ⟨v, t, rfl, ty, q⟩ := h
    refine ⟨_, pss_one (ps_ret (pe_and (pe_callB call_isi (by rfl) mi (by decide +kernel) (pa_cons (pv 0) (pa_cons (pe_bltn (v := .ty "int") (by rfl) mn (by decide +kernel) rfl) pa_nil)))
      (pe_one (pe_not (pe_callB call_isi (by rfl) mi (by decide +kernel) (pa_cons (pv 0) (pa_cons (pe_bltn (v := .ty "bool") (by rfl) mb (by decide +kernel) rfl) pa_nil))))))), ?_⟩
    refine ⟨v, rfl, v, .ty "int", .type t, .type "int", _, rfl, .ty _, ty.ty, ty.int, _, rfl, ?_⟩
    have two : Q (.bl (isWholeV v)) H → isIntish v = true → (!isBoolV v) = isWholeV v := fun _ h => by cases v <;> first | rfl | cases h
    cases e : isIntish v with
    | true =>
      refine iteT ⟨v, rfl, v, .ty "bool", .type t, .type "bool", _, rfl, .ty _, ty.ty, ty.bool, _, rfl, ?_⟩
      rw [two q e]
      exact q
    | false =>
      refine iteF ?_
      have e2 : isWholeV v = false := by cases v <;> first | rfl | cases e
      rw [e2] at q
      exact q
theorem scWidth : FnScope ["thing"] ["thing"] (defScope sWidth) := ⟨rfl, rfl, rfl, by decide +kernel, rfl, by decide +kernel, by decide +kernel⟩
theorem ok_width {f fW : Addr} {fd fdW : FuncData} {k : Nat} {tk : Tok} (F : Fun K "is_width" "is_width" sWidth f fd) (GW : FnOk P w K mg base CX0 k fW fdW ["thing"] (spWhole K)) (FW : Fun K "is_whole" "is_whole" sWhole fW fdW) (bW : Binds K fdW ["thing"] []) (gW : mg "is_whole" = some (.ref fW))
    (mW : mg "WIDEST" = some (.int 32 tk)) : FnOk P w K mg base CX0 (k + 1) f fd ["thing"] (spWidth K) := by
  refine F.ok scWidth (fun vs H Q E h => ?_) (fun cdv A outer s H vs Q E hr h => ?_)
  · obtain ⟨v, t, rfl, _⟩ := h
    rfl
  · obtain ⟨v, t, rfl, ty, q⟩ := h
    refine ⟨_, pss_one (ps_ret (pe_and (pe_call GW hr (by rfl) gW FW.kp bW .nil pass0 (pa_cons (pv 0) pa_nil)) (pe_one (pe_chain op_le op_le pe_int (pv 0) (pe_glob (v := .int 32) rfl mW ⟨_, rfl⟩))))), ?_⟩
    refine ⟨v, rfl, v, t, rfl, ty, _, rfl, ?_⟩
    cases v with
    | int z =>
      refine iteT ⟨.int z, rfl, _, _, rfl, rfl, _, rfl, ?_⟩
      have q' : Q (.bl (decide ((1 : Int) ≤ z) && decide (z ≤ 32))) H := q
      by_cases h1 : (1 : Int) ≤ z
      · rw [decide_eq_true h1] at q' ⊢
        rw [Bool.true_and] at q'
        exact iteT ⟨_, _, rfl, rfl, q'⟩
      · rw [decide_eq_false h1] at q' ⊢
        rw [Bool.false_and] at q'
        exact iteF q'
    | _ => exact iteF q
end
/-! ### the class of maps -/
abbrev sInit : Stmt := inClass sCls 0
abbrev sChk : Stmt := inClass sCls 2
abbrev sLongest : Stmt := inClass sCls 8
theorem wr_ : ¬ (("_width" : Str) = "_rows") := by decide +kernel
theorem rw_ : ¬ (("_rows" : Str) = "_width") := by decide +kernel
/-- the attributes of a map -/
def flds (w : Nat) (e : Addr) : List (Str × V) := putF "_rows" (.ref e) (putF "_width" (.int w) [])
theorem flds_w (w : Nat) (e : Addr) : (flds w e).lookup ("_width" : Str) = some (.int w) := by
  unfold flds
  rw [lookup_putF, if_neg wr_, lookup_putF, if_pos rfl]
theorem flds_r (w : Nat) (e : Addr) : (flds w e).lookup ("_rows" : Str) = some (.ref e) := by
  unfold flds
  rw [lookup_putF, if_pos rfl]
theorem flds_no (w : Nat) (e : Addr) {m : Str} (h1 : ¬ m = "_rows") (h2 : ¬ m = "_width") : (flds w e).lookup m = none := by
  unfold flds
  rw [lookup_putF, if_neg h1, lookup_putF, if_neg h2]
  rfl
/-- at x a map of the class at C, its rows at e -/
structure MapAt (C : Addr) (H : Hp) (x e : Addr) (w : Nat) (kvs : List (Key × V)) : Prop where
  ob : ∃ dx, H x = some (.ins C dx (flds w e))
  dc : H e = some (.dK kvs)
theorem MapAt.same {C : Addr} {H H' : Hp} {x e : Addr} {w : Nat} {kvs : List (Key × V)} (k : Same H H') (h : MapAt C H x e w kvs) : MapAt C H' x e w kvs := by
  obtain ⟨⟨dx, h1⟩, h2⟩ := h
  exact ⟨⟨dx, k _ _ h1⟩, k _ _ h2⟩
theorem MapAt.but {C : Addr} {H H' : Hp} {p x e : Addr} {w : Nat} {kvs : List (Key × V)} (k : But p H H') (n1 : x ≠ p) (n2 : e ≠ p) (h : MapAt C H x e w kvs) : MapAt C H' x e w kvs := by
  obtain ⟨⟨dx, h1⟩, h2⟩ := h
  exact ⟨⟨dx, k _ _ n1 h1⟩, k _ _ n2 h2⟩
/-- the same rows, in ascending order -/
structure Sorted (xs : List Str) (kvs kvs' : List (Key × V)) (ys : List Str) : Prop where
  keys : kvs'.map (·.1) = ys.map Sum.inr
  perm : ys.Perm xs
  up : sortedS ys = true
  val : ∀ y ∈ xs, valV kvs' (.inr y) = valV kvs (.inr y)
structure ClsF (K : PySem.W.Frag) (C : Addr) : Prop where
  cl : Cls K C
  nW : NoAttr K C "_width"
  nR : NoAttr K C "_rows"
/-- _checked of a value of the right kind: the value -/
def spChk (K : PySem.W.Frag) (C : Addr) (vok : V → Prop) : Sp := fun vs H Q _ => ∃ (x dx : Addr) (fs : List (Str × V)) (v : V), vs = [.ref x, v] ∧ H x = some (.ins C dx fs) ∧ (∀ m : Str, ¬ m = "_width" → fs.lookup m = none) ∧ vok v ∧ Q v H
def spInit (K : PySem.W.Frag) (C : Addr) (vok : V → Prop) : Sp := fun vs H Q _ => ∃ (x dx d : Addr) (w : Nat) (xs : List Str) (kvs : List (Key × V)), vs = [.ref x, .int w, .ref d] ∧ H x = some (.ins C dx []) ∧ 1 ≤ w ∧ w ≤ 32 ∧ H d = some (.dK kvs) ∧ RowsOk w vok xs kvs ∧ xs.length < 64 ∧
  ∀ (e : Addr) (ys : List Str) (kvs' : List (Key × V)) (H' : Hp), H e = none → Sorted xs kvs kvs' ys → MapAt C H' x e w kvs' → (∀ b o, H b = some o → b ≠ x → H' b = some o) → Q .non H'
def spLongest (K : PySem.W.Frag) (C : Addr) : Sp := fun vs H Q _ => ∃ (x e : Addr) (w : Nat) (xs : List Str) (kvs : List (Key × V)) (y : Str), vs = [.ref x, .str y] ∧ MapAt C H x e w kvs ∧ kvs.map (·.1) = xs.map Sum.inr ∧ isBits y = true ∧ y.length ≤ w ∧ w ≤ 32 ∧
  ∀ r : Option Str, IsLong xs y r → Q (optV r) H
section
variable {P : Program} {w : World} {K : PySem.W.Frag} {mg : Str → Option Value} {base : Heap}
theorem scChk : FnScope ["self", "value"] ["self", "value"] (defScope sChk) := ⟨rfl, rfl, rfl, by decide +kernel, rfl, by decide +kernel, by decide +kernel⟩
theorem ok_chk {f fW C : Addr} {fd fdW : FuncData} {k : Nat} (F : Fun K "_checked" "PrefixMap._checked" sChk f fd) (GW : FnOk P w K mg base CX0 k fW fdW ["thing"] (spWhole K)) (FW : Fun K "is_whole" "is_whole" sWhole fW fdW) (bW : Binds K fdW ["thing"] []) (gW : mg "is_whole" = some (.ref fW)) :
    FnOk P w K mg base CX0 (k + 1) f fd ["self", "value"] (spChk K C isIntV) := by
  refine F.ok scChk (fun vs H Q E h => ?_) (fun cdv A outer s H vs Q E hr h => ?_)
  · obtain ⟨x, dx, fs, v, rfl, _⟩ := h
    rfl
  · obtain ⟨x, dx, fs, v, rfl, hx, _, hv, q⟩ := h
    refine ⟨_, pss_cons (ps_if (pt_not (pt_val (pe_call GW hr (by rfl) gW FW.kp bW .nil pass0 (pa_cons (pv 1) pa_nil)))) (pss_one ps_never) pss_nil) (pss_one (ps_ret (pv 1))), ?_⟩
    cases v with
    | int i =>
      obtain ⟨t, ht⟩ := TyI.of (K := K) (H := H) (N := fun _ => True) (.int i)
      exact ⟨.int i, rfl, .int i, t, rfl, ht, _, rfl, iteF ⟨.int i, rfl, q⟩⟩
    | _ => exact hv.elim
theorem scInit : FnScope ["self", "width", "rows", "prefix"] ["self", "width", "rows"] (defScope sInit) := ⟨rfl, rfl, rfl, by decide +kernel, rfl, by decide +kernel, by decide +kernel⟩
theorem ok_init {f fW fP fC C : Addr} {fd fdW fdP fdC : FuncData} {k : Nat} {vok : V → Prop} (F : Fun K "__init__" "PrefixMap.__init__" sInit f fd) (T : ClsF K C) (GW : FnOk P w K mg base CX0 k fW fdW ["thing"] (spWidth K)) (FW : Fun K "is_width" "is_width" sWidth fW fdW) (bW : Binds K fdW ["thing"] []) (gW : mg "is_width" = some (.ref fW))
    (GP : FnOk P w K mg base CX0 k fP fdP ["thing", "width"] (spPfx K)) (FP : Fun K "is_prefix" "is_prefix" sPfx fP fdP) (bP : Binds K fdP ["thing", "width"] []) (gP : mg "is_prefix" = some (.ref fP))
    (GC : FnOk P w K mg base CX0 k fC fdC ["self", "value"] (spChk K C vok)) (mC : Meth K C "_checked" fC) (bC : Binds K fdC ["self", "value"] []) (mi : mg "isinstance" = none) (md : mg "dict" = none) (ms : mg "sorted" = none) :
    FnOk P w K mg base CX0 (k + 1) f fd ["self", "width", "rows"] (spInit K C vok) := by
  refine F.ok scInit (fun vs H Q E h => ?_) (fun cdv A outer s H vs Q E hr h => ?_)
  · obtain ⟨x, dx, d, w, xs, kvs, rfl, _⟩ := h
    rfl
  · obtain ⟨x, dx, d, w, xs, kvs, rfl, hx, w1, w32, hd, ok, h64, q⟩ := h
    have nd := scInit.nd
    have hu := hu_of hr
    refine ⟨_, pss_cons (ps_if (pt_not (pt_val (pe_call GW hr (by rfl) gW FW.kp bW .nil pass0 (pa_cons (pv 1) pa_nil)))) (pss_one ps_never) pss_nil)
      (pss_cons (ps_if (pt_not (pt_val (pe_callB call_isi (by rfl) mi (by decide +kernel) (pa_cons (pv 2) (pa_cons (pe_bltn (v := .ty "dict") (by rfl) md (by decide +kernel) rfl) pa_nil))))) (pss_one ps_never) pss_nil)
      (pss_cons (ps_lock (ps_for PassesOwn.never rfl (pi_keys (pv 2)) (pg_name (i := 3) nd rfl (.inl rfl))
        (pss_one (ps_if (pt_not (pt_val (pe_call GP hr (by rfl) gP FP.kp bP .nil pass0 (pa_cons (pv 3) (pa_cons (pv 1) pa_nil))))) (pss_one ps_never) pss_nil))))
      (pss_cons (ps_fld (pv 0) (pv 1) rfl)
      (pss_one (ps_fld (pv 0) (pe_dc (own := [("prefix", 3)]) (g := gName 3) (tt := tYes) rfl nd (pi_list (pe_callB (call_sortedD rfl) (by rfl) ms (by decide +kernel) (pa_cons (pv 2) pa_nil)))
        (blkOk_by (N := ["self", "width", "rows", "prefix"]) (sc := defScope sInit) (by decide +kernel)) (fun _ _ _ _ _ => pg_name (i := 3) nd rfl (.inl rfl)) (fun _ _ _ _ _ => pts_nil) (fun _ _ _ _ _ => pv 3)
        (fun _ _ _ _ _ => pe_meth (pv 0) T.cl mC GC hr bC .nil pass0 (pa_cons (pe_dget hu (pv 2) (pv 3) (fun _ _ => rfl)) pa_nil))) rfl))))), ?_⟩
    -- the width
    obtain ⟨t, ht⟩ := TyI.of (K := K) (H := H) (N := fun _ => True) (.int (w : Int))
    refine ⟨.int w, rfl, .int w, t, rfl, ht, _, rfl, ?_⟩
    have hw : isWidthV (.int (w : Int)) = true := by
      show (decide ((1 : Int) ≤ w) && decide ((w : Int) ≤ 32)) = true
      rw [decide_eq_true (by omega), decide_eq_true (by omega)]
      rfl
    rw [hw]
    refine iteF ?_
    -- a dict
    refine ⟨.ref d, rfl, .ref d, .ty "dict", .type "dict", .type "dict", _, rfl, .ty _, .base (.dK hd), kitv (b := true) (by decide +kernel), _, rfl, iteF ?_⟩
    -- its prefixes
    refine ⟨d, .dK kvs, hd, trivial, fun od => ?_⟩
    refine ⟨.ref d, rfl, d, od, rfl, .inl ⟨kvs, upd_same, ?_⟩⟩
    refine for_it walk_keys (fun _ σ H' => (∃ x3, σ = [some (.ref x), some (.int w), some (.ref d), x3]) ∧ H' = upd H d (.frz od (.dK kvs))) ⟨⟨_, rfl⟩, rfl⟩ (fun _ _ _ _ h => by rw [h.2, upd_same]) ?_ ?_
    · rintro i v σ H1 H2 hi ⟨⟨x3, rfl⟩, rfl⟩ ⟨rfl, k, v', hkv, rfl⟩
      obtain ⟨y, hy, rfl⟩ := key_at ok.keys hkv
      have hym := List.mem_of_getElem? hy
      refine ⟨.str y, rfl, .int w, rfl, .str y, w, rfl, TyS.of (N := fun _ => True) (.str y), fun z e => ?_, _, rfl, ?_⟩
      · rw [← V.str.inj e]
        exact Nat.le_trans (ok.pfx.len y hym) (Nat.le_trans w32 (by decide))
      have e : isPfx (.str y) (w : Int) = true := by
        show (decide ((y.length : Int) ≤ w) && isBits y) = true
        rw [decide_eq_true (by have := ok.pfx.len y hym; omega), ok.pfx.bits y hym]
        rfl
      rw [e]
      exact iteF ⟨⟨_, rfl⟩, rfl⟩
    · rintro σ H1 ⟨⟨x3, rfl⟩, rfl⟩
      refine ⟨upd_same, ?_⟩
      rw [upd_back hd]
      -- the attributes
      refine ⟨.int w, rfl, .ref x, rfl, x, C, dx, [], rfl, hx, T.cl, T.nW, (by show 0 < 1000; decide), ?_⟩
      have ndx : d ≠ x := ne_of hd hx (fun e => nomatch e)
      have hdW : (upd H x (.ins C dx (putF "_width" (.int w) []))) d = some (.dK kvs) := by rw [upd_ne ndx]; exact hd
      refine ⟨.ref d, rfl, d, kvs, xs, rfl, .inl hdW, ok.keys, h64, fun ys l hperm hup nl => ?_⟩
      have hll : (upd (upd H x (.ins C dx (putF "_width" (.int w) []))) l (.lst (ys.map V.str))) l = some (.lst (ys.map V.str)) := upd_same
      have s1 := same_upd (o := .lst (ys.map V.str)) nl
      have hx1 := s1 _ _ (upd_same (H := H) (a := x) (o := .ins C dx (putF "_width" (.int w) [])))
      have hd1 := s1 _ _ hdW
      have old1 : ∀ b o, H b = some o → b ≠ x → (upd (upd H x (.ins C dx (putF "_width" (.int w) []))) l (.lst (ys.map V.str))) b = some o := fun b o e nb => s1 b o (by rw [upd_ne nb]; exact e)
      revert hll hx1 hd1 old1
      generalize upd (upd H x (.ins C dx (putF "_width" (.int w) []))) l (.lst (ys.map V.str)) = H2
      intro hll hx1 hd1 old1
      refine ⟨l, rfl, ⟨_, SqL.of hll⟩, fun G nG => ?_⟩
      have nxG : x ≠ G := ne_of_none hx1 nG
      have ndG : d ≠ G := ne_of_none hd1 nG
      have kn : (kvs.map (·.1)).Nodup := by
        rw [ok.keys]
        exact ok.pfx.nd.map Sum.inr (fun a b h e => h (Sum.inr.inj e))
      refine dc_it walk_list (fun i H' => ∃ kvs', H' G = some (.dK kvs') ∧ kvs'.map (·.1) = (ys.take i).map Sum.inr ∧ (∀ y v, (Sum.inr y, v) ∈ kvs' → valV kvs (.inr y) = some v) ∧ ∀ b o, H2 b = some o → H' b = some o) ⟨[], upd_same, rfl, fun _ _ h => (List.not_mem_nil h).elim, fun b o e => by rw [upd_ne (ne_of_none e nG)]; exact e⟩
        (fun _ H' _ h => by obtain ⟨_, _, _, _, k⟩ := h; exact SqL.of (k _ _ hll)) ?_ ?_
      · rintro i v H3 H4 hi ⟨kvs', hG, hk, hv, keep⟩ ⟨rfl, hvi⟩
        rw [List.getElem?_map] at hvi
        have hil : i < ys.length := by
          rw [List.length_map] at hi
          exact hi
        rw [List.getElem?_eq_getElem hil] at hvi
        obtain rfl : V.str ys[i] = v := Option.some.inj hvi
        have hym : ys[i] ∈ xs := hperm.mem_iff.mp (List.getElem_mem hil)
        refine ⟨rfl, yes_if ?_⟩
        have hkm : (Sum.inr ys[i] : Key) ∈ kvs.map (·.1) := (inr_mem ok.keys _).mpr hym
        obtain ⟨v, hval⟩ := Option.isSome_iff_exists.mp (valV_mem.mpr hkm)
        have hmem : (Sum.inr ys[i], v) ∈ kvs := by
          unfold valV at hval
          obtain ⟨p, hp, e⟩ := Option.map_eq_some_iff.mp hval
          have h1 := List.mem_of_find?_eq_some hp
          have h2 : p.1 = Sum.inr ys[i] := by
            have z := List.find?_some hp
            exact of_decide_eq_true z
          rw [← h2, ← e]
          exact h1
        refine ⟨.str ys[i], rfl, .ref x, rfl, x, dx, _, rfl, keep _ _ hx1, ?_, .ref d, rfl, .str ys[i], rfl, d, v, rfl, by rw [← hval]; exact DGet.k (k := .inr ys[i]) (keep _ _ hd1), ?_⟩
        · rw [lookup_putF, if_neg (by decide +kernel)]
          rfl
        refine ⟨x, dx, _, v, rfl, keep _ _ hx1, fun m nm => by rw [lookup_putF, if_neg nm]; rfl, ok.val _ hmem, kvs', .inr ys[i], rfl, hG, ?_, ?_⟩
        · have : kvs'.length = ((ys.take i).map Sum.inr : List Key).length := by rw [← hk, List.length_map]
          rw [List.length_map, List.length_take] at this
          have hp := hperm.length_eq
          exact Nat.lt_of_le_of_lt (show kvs'.length ≤ 1000 by omega) (by decide)
        have hnew : (Sum.inr ys[i] : Key) ∉ kvs'.map (·.1) := by
          rw [hk, List.mem_map]
          rintro ⟨z, hz, e⟩
          have ynd : ys.Nodup := hperm.nodup_iff.mpr ok.pfx.nd
          obtain ⟨j, hj, ej⟩ := List.mem_take_iff_getElem.mp hz
          have e2 : ys[j]'(by omega) = ys[i] := by rw [ej]; exact Sum.inr.inj e
          have := (List.getElem_inj ynd).mp e2
          omega
        refine ⟨kvs' ++ [(.inr ys[i], v)], by rw [upd_same, putK_end hnew], ?_, ?_, ?_⟩
        · rw [List.map_append, hk, List.take_add_one, List.getElem?_eq_getElem hil, List.map_append]
          rfl
        · intro y v' hm
          rcases List.mem_append.mp hm with hm | hm
          · exact hv y v' hm
          · obtain e := List.mem_singleton.mp hm
            cases e
            exact hval
        · intro b o e
          rw [upd_ne (ne_of_none e nG)]
          exact keep b o e
      · rintro H3 ⟨kvs', hG, hk, hv, keep⟩
        have etake : ys.take (ys.map V.str).length = ys := List.take_of_length_le (by rw [List.length_map]; exact Nat.le_refl _)
        rw [etake] at hk
        refine ⟨.ref x, rfl, x, C, dx, _, rfl, keep _ _ hx1, T.cl, T.nR, (by show 1 < 1000; decide), ?_⟩
        have ynd : ys.Nodup := hperm.nodup_iff.mpr ok.pfx.nd
        have kn' : (kvs'.map (·.1)).Nodup := by
          rw [hk]
          exact ynd.map Sum.inr (fun a b h e => h (Sum.inr.inj e))
        have hH : ∀ b, H2 b = none → H b = none := fun b hb => by
          cases e : H b with
          | none => rfl
          | some o =>
            by_cases hbx : b = x
            · rw [hbx, hx1] at hb
              cases hb
            · rw [old1 b o e hbx] at hb
              cases hb
        refine q G ys kvs' _ (hH G nG) ⟨hk, hperm, hup, fun y hy => ?_⟩ ⟨⟨dx, upd_same⟩, by rw [upd_ne nxG.symm]; exact hG⟩ fun b o e nb => by rw [upd_ne nb]; exact keep b o (old1 b o e nb)
        have hm : (Sum.inr y : Key) ∈ kvs'.map (·.1) := (inr_mem hk _).mpr (hperm.mem_iff.mpr hy)
        obtain ⟨p, hp, e⟩ := List.mem_map.mp hm
        obtain ⟨k', v⟩ := p
        have e' : k' = Sum.inr y := e
        subst e'
        rw [valV_some kn' hp, hv y v hp]
end
section
variable {P : Program} {w : World} {K : PySem.W.Frag} {mg : Str → Option Value} {base : Heap}
theorem scLongest : FnScope ["self", "prefix", "length"] ["self", "prefix"] (defScope sLongest) := ⟨rfl, rfl, rfl, by decide +kernel, rfl, by decide +kernel, by decide +kernel⟩
theorem ok_longest {f fP C : Addr} {fd fdP : FuncData} {k : Nat} (F : Fun K "longest" "PrefixMap.longest" sLongest f fd) (T : ClsF K C) (GP : FnOk P w K mg base CX0 k fP fdP ["thing", "width"] (spPfx K)) (FP : Fun K "is_prefix" "is_prefix" sPfx fP fdP) (bP : Binds K fdP ["thing", "width"] []) (gP : mg "is_prefix" = some (.ref fP))
    (mr : mg "range" = none) (ml : mg "len" = none) : FnOk P w K mg base CX0 (k + 1) f fd ["self", "prefix"] (spLongest K C) := by
  refine F.ok scLongest (fun vs H Q E h => ?_) (fun cdv A outer s H vs Q E hr h => ?_)
  · obtain ⟨x, e, w, xs, kvs, y, rfl, _⟩ := h
    rfl
  · obtain ⟨x, e, w, xs, kvs, y, rfl, ⟨⟨dx, hx⟩, he⟩, hk, hb, hyw, hw32, q⟩ := h
    have nd := scLongest.nd
    have hu := hu_of hr
    have hyl : y.length ≤ sizeLine := Nat.le_trans hyw (Nat.le_trans hw32 (by decide))
    refine ⟨_, pss_cons (ps_if (pt_not (pt_val (pe_call GP hr (by rfl) gP FP.kp bP .nil pass0 (pa_cons (pv 1) (pa_cons (pe_fld (pv 0) rfl) pa_nil))))) (pss_one ps_never) pss_nil)
      (pss_cons (ps_for PassesOwn.never rfl (pi_range3 rfl mr (pa_cons (pe_callB call_len_str (by rfl) ml PySem.boot_len (pa_cons (pv 1) pa_nil)) (pa_cons (pe_un un_neg pe_int) (pa_cons (pe_un un_neg pe_int) pa_nil)))) (pg_name (i := 2) nd rfl (.inl rfl))
        (pss_one (ps_if (pt_cmp (pc_din hu (pe_slice sl_str (pv 1) po_none (po_some (pv 2))) (pe_fld (pv 0) rfl))) (pss_one (ps_ret (pe_slice sl_str (pv 1) po_none (po_some (pv 2))))) pss_nil)))
      (pss_one (ps_ret pe_non))), ?_⟩
    refine ⟨.str y, rfl, .ref x, rfl, x, C, dx, _, _, rfl, hx, T.cl, T.nW, flds_w _ _, .str y, w, rfl, TyS.of (N := fun _ => True) (.str y), fun z e => by rw [← V.str.inj e]; exact hyl, _, rfl, ?_⟩
    have ep : isPfx (.str y) (w : Int) = true := by
      show (decide ((y.length : Int) ≤ w) && isBits y) = true
      rw [decide_eq_true (by omega), hb]
      rfl
    rw [ep]
    refine iteF ?_
    refine ⟨.str y, rfl, y, rfl, hyl, 1, rfl, 1, rfl, (y.length : Int), -1, -1, ((y.length : Int) - -1).toNat, rfl, RgC.neg (by omega) (by omega) (by decide) (by decide), ?_⟩
    refine for_rangeC (lo := (y.length : Int)) (c := -1) (n := ((y.length : Int) - -1).toNat) (fun i σ H' => (∃ x2, σ = [some (.ref x), some (.str y), x2]) ∧ H' = H ∧ ∀ z ∈ xs, Pre z y → z.length + i ≤ y.length) ⟨⟨_, rfl⟩, rfl, fun z _ h => by have := pre_len h; omega⟩ ?_ ?_
    · rintro i σ H' hi ⟨⟨x2, rfl⟩, rfl, hno⟩
      obtain ⟨kk, hkk⟩ : ∃ kk : Nat, (y.length : Int) + (i : Nat) * -1 = (kk : Int) ∧ kk + i = y.length := ⟨y.length - i, by omega, by omega⟩
      obtain ⟨ek, ekl⟩ := hkk
      rw [ek]
      refine ⟨.str y, rfl, .int kk, rfl, kk, rfl, y, rfl, hyl, .ref x, rfl, x, C, dx, _, _, rfl, hx, T.cl, T.nR, flds_r _ _, e, _, rfl, DGet.k (k := .inr (cutS y none (some (kk : Int)))) he, _, rfl, ?_⟩
      have hlen : (cutS y none (some (kk : Int))).length = kk := by
        rw [← sg_len, sg_take, List.length_take, sg_len]
        omega
      cases hin : (valV kvs (.inr (cutS y none (some (kk : Int))))).isSome with
      | true =>
        refine iteT ⟨.str y, rfl, .int kk, rfl, kk, rfl, y, rfl, hyl, ?_⟩
        have hm := (inr_mem hk _).mp (valV_mem.mp hin)
        refine q (some _) ⟨hm, pre_take y kk, fun z hz hp => ?_⟩
        have := hno z hz hp
        omega
      | false =>
        refine iteF ⟨⟨_, rfl⟩, rfl, fun z hz hp => ?_⟩
        have h1 := hno z hz hp
        by_cases hzk : z.length = kk
        · exfalso
          have e2 := pre_eq hp
          rw [hzk] at e2
          have h3 : (valV kvs (.inr (cutS y none (some (kk : Int))))).isSome = true := valV_mem.mpr ((inr_mem hk _).mpr (by rw [← e2]; exact hz))
          rw [hin] at h3
          cases h3
        · omega
    · rintro σ H' ⟨⟨x2, rfl⟩, rfl, hno⟩
      refine q none fun z hz hp => ?_
      have h1 := hno z hz hp
      omega
end
/-! ### tables -/
abbrev sTInit : Stmt := inClass sTab 0
abbrev sTgt : Stmt := inClass sTab 2
abbrev sTChk : Stmt := inClass sTab 3
abbrev sLook : Stmt := inClass sTab 5
abbrev sRows : Stmt := inClass sCls 4
abbrev letters : Str := "abcdefghijklmnopqrstuvwxyz"
/-- is_target -/
def isTgt (v : V) : Bool := match v with
  | .str x => decide ((1 : Int) ≤ x.length) && decide ((x.length : Int) ≤ 8) && onlyOf letters x
  | _ => false
def isTgtV (v : V) : Prop := isTgt v = true
def spTgt (K : PySem.W.Frag) : Sp := fun vs H Q _ => ∃ v : V, vs = [v] ∧ TyS K H v ∧ (∀ x, v = .str x → x.length ≤ sizeLine) ∧ Q (.bl (isTgt v)) H
def spAdr (K : PySem.W.Frag) : Sp := fun vs H Q _ => ∃ (x : Str) (w : Int), vs = [.str x, .int w] ∧ TyS K H (.str x) ∧ x.length ≤ sizeLine ∧ Q (.bl (isPfx (.str x) w && decide ((x.length : Int) = w))) H
/-- where a longest prefix leads -/
def leadV (kvs : List (Key × V)) (r : Option Str) : V := match r with
  | none => .non
  | some z => (valV kvs (.inr z)).getD .non
def spLook (K : PySem.W.Frag) (C : Addr) : Sp := fun vs H Q _ => ∃ (x e : Addr) (w : Nat) (xs : List Str) (kvs : List (Key × V)) (y : Str), vs = [.ref x, .str y] ∧ MapAt C H x e w kvs ∧ kvs.map (·.1) = xs.map Sum.inr ∧ isBits y = true ∧ y.length = w ∧ w ≤ 32 ∧
  ∀ r : Option Str, IsLong xs y r → Q (leadV kvs r) H
def spRows (C : Addr) : Sp := fun vs H Q _ => ∃ (x e : Addr) (w : Nat) (kvs : List (Key × V)), vs = [.ref x] ∧ MapAt C H x e w kvs ∧ ∀ d, H d = none → Q (.ref d) (upd H d (.dK kvs))
section
variable {P : Program} {w : World} {K : PySem.W.Frag} {mg : Str → Option Value} {base : Heap}
theorem scAdr : FnScope ["thing", "width"] ["thing", "width"] (defScope sAdr) := ⟨rfl, rfl, rfl, by decide +kernel, rfl, by decide +kernel, by decide +kernel⟩
theorem ok_adr {f fP : Addr} {fd fdP : FuncData} {k : Nat} (F : Fun K "is_address" "is_address" sAdr f fd) (GP : FnOk P w K mg base CX0 k fP fdP ["thing", "width"] (spPfx K)) (FP : Fun K "is_prefix" "is_prefix" sPfx fP fdP) (bP : Binds K fdP ["thing", "width"] []) (gP : mg "is_prefix" = some (.ref fP))
    (ml : mg "len" = none) : FnOk P w K mg base CX0 (k + 1) f fd ["thing", "width"] (spAdr K) := by
  refine F.ok scAdr (fun vs H Q E h => ?_) (fun cdv A outer s H vs Q E hr h => ?_)
  · obtain ⟨x, w, rfl, _⟩ := h
    rfl
  · obtain ⟨x, w, rfl, ty, hl, q⟩ := h
    refine ⟨_, pss_one (ps_ret (pe_and (pe_call GP hr (by rfl) gP FP.kp bP .nil pass0 (pa_cons (pv 0) (pa_cons (pv 1) pa_nil)))
      (pe_one (pe_cmpR op_eq (pe_callB call_len_str (by rfl) ml PySem.boot_len (pa_cons (pv 0) pa_nil)) (pv 1) (nomark _))))), ?_⟩
    refine ⟨.str x, rfl, .int w, rfl, .str x, w, rfl, ty, fun z e => by rw [← V.str.inj e]; exact hl, _, rfl, ?_⟩
    cases e : isPfx (.str x) w with
    | true =>
      rw [e, Bool.true_and] at q
      refine iteT ⟨.str x, rfl, x, rfl, hl, .int w, rfl, rfl, ?_⟩
      rw [dec_int]
      exact q
    | false =>
      rw [e, Bool.false_and] at q
      exact iteF q
theorem scTgt : FnScope ["thing"] ["thing"] (defScope sTgt) := ⟨rfl, rfl, rfl, by decide +kernel, rfl, by decide +kernel, by decide +kernel⟩
theorem ok_tgt {f fH : Addr} {fd fdH : FuncData} {k : Nat} {t1 t2 : Tok} (F : Fun K "is_target" "Table.is_target" sTgt f fd) (FH : Fun K "has_only" "has_only" sHas fH fdH) (bH : Binds K fdH ["text", "signs"] []) (gH : mg "has_only" = some (.ref fH))
    (mi : mg "isinstance" = none) (ms : mg "str" = none) (ml : mg "len" = none) (m8 : mg "LONGEST_TARGET" = some (.int 8 t1)) (mL : mg "LETTERS" = some (.str letters t2)) : FnOk P w K mg base CX0 (k + 2) f fd ["thing"] (spTgt K) := by
  have GH : FnOk P w K mg base CX0 (k + 1) fH fdH ["text", "signs"] spHas := ok_has FH
  refine F.ok scTgt (fun vs H Q E h => ?_) (fun cdv A outer s H vs Q E hr h => ?_)
  · obtain ⟨v, rfl, _⟩ := h
    rfl
  · obtain ⟨v, rfl, ⟨t, ty, kt⟩, hl, q⟩ := h
    refine ⟨_, pss_one (ps_ret (pe_and (pe_callB call_isi (by rfl) mi (by decide +kernel) (pa_cons (pv 0) (pa_cons (pe_bltn (v := .ty "str") (by rfl) ms (by decide +kernel) rfl) pa_nil)))
      (pe_and (pe_chain op_le op_le pe_int (pe_callB call_len_str (by rfl) ml PySem.boot_len (pa_cons (pv 0) pa_nil)) (pe_glob (v := .int 8) rfl m8 ⟨_, rfl⟩))
        (pe_one (pe_call GH hr (by rfl) gH FH.kp bH .nil pass0 (pa_cons (pv 0) (pa_cons (pe_glob (v := .str letters) rfl mL ⟨_, rfl⟩) pa_nil))))))), ?_⟩
    refine ⟨v, rfl, v, .ty "str", .type t, .type "str", _, rfl, .ty _, ty, kt, _, rfl, ?_⟩
    cases v with
    | str x =>
      have hx := hl x rfl
      have q' : Q (.bl (decide ((1 : Int) ≤ x.length) && decide ((x.length : Int) ≤ 8) && onlyOf letters x)) H := q
      refine iteT ⟨.str x, rfl, x, rfl, hx, _, _, rfl, rfl, _, rfl, ?_⟩
      by_cases h1 : (1 : Int) ≤ x.length
      · rw [decide_eq_true h1] at q' ⊢
        refine iteT ⟨_, _, rfl, rfl, _, rfl, ?_⟩
        by_cases h2 : (x.length : Int) ≤ 8
        · rw [decide_eq_true h2] at q' ⊢
          exact iteT ⟨.str x, rfl, x, _, rfl, hx, q'⟩
        · rw [decide_eq_false h2] at q' ⊢
          exact iteF q'
      · rw [decide_eq_false h1] at q' ⊢
        exact iteF (by first | exact q' | exact ⟨_, rfl, iteF q'⟩)
    | _ => exact iteF q
theorem scTChk : FnScope ["self", "value"] ["self", "value"] (defScope sTChk) := ⟨rfl, rfl, rfl, by decide +kernel, rfl, by decide +kernel, by decide +kernel⟩
theorem tgt_str {v : V} (h : isTgtV v) : ∃ x, v = .str x ∧ x.length ≤ 8 ∧ 1 ≤ x.length ∧ onlyOf letters x = true := by
  unfold isTgtV isTgt at h
  cases v with
  | str x =>
    dsimp only at h
    rw [Bool.and_eq_true, Bool.and_eq_true, decide_eq_true_iff, decide_eq_true_iff] at h
    exact ⟨x, rfl, by omega, by omega, h.2⟩
  | _ => cases h
theorem ok_tchk {f p g C : Addr} {fd fdT : FuncData} {k : Nat} (F : Fun K "_checked" "Table._checked" sTChk f fd) (T : ClsF K C) (ST : SMeth K C "is_target" p g) (GT : FnOk P w K mg base CX0 k g fdT ["thing"] (spTgt K)) (bT : Binds K fdT ["thing"] []) :
    FnOk P w K mg base CX0 (k + 1) f fd ["self", "value"] (spChk K C isTgtV) := by
  refine F.ok scTChk (fun vs H Q E h => ?_) (fun cdv A outer s H vs Q E hr h => ?_)
  · obtain ⟨x, dx, fs, v, rfl, _⟩ := h
    rfl
  · obtain ⟨x, dx, fs, v, rfl, hx, hfs, hv, q⟩ := h
    refine ⟨_, pss_cons (ps_if (pt_not (pt_val (pe_stat (pv 0) T.cl ST GT hr bT (pa_cons (pv 1) pa_nil)))) (pss_one ps_never) pss_nil) (pss_one (ps_ret (pv 1))), ?_⟩
    obtain ⟨y, rfl, hy, _⟩ := tgt_str hv
    refine ⟨.ref x, rfl, x, dx, fs, rfl, hx, hfs _ (by decide +kernel), .str y, rfl, .str y, rfl, TyS.of (N := fun _ => True) (.str y), fun z e => by rw [← V.str.inj e]; exact big_of (by omega), _, rfl, ?_⟩
    rw [show isTgt (.str y) = true from hv]
    exact iteF ⟨.str y, rfl, q⟩
theorem scTInit : ScS ["self", "width", "rows"] (defScope sTInit) := ⟨rfl, rfl, rfl, by decide +kernel, by decide +kernel, by decide +kernel, by decide +kernel, by decide +kernel, by decide +kernel⟩
/-- __init__ of a table is that of its base -/
theorem ok_tinit {f f2 C D : Addr} {fd fd2 : FuncData} {k : Nat} {file : Str} (F : FunS K file "__init__" "Table.__init__" sTInit f D fd) (G2 : FnOk P w K mg base CX0 k f2 fd2 ["self", "width", "rows"] (spInit K C isTgtV)) (b2 : Binds K fd2 ["self", "width", "rows"] []) (fi : PySem.W.fnIn K f2 = true)
    (ty : PySem.W.typeIn K (.ref f2) = some (.type "function")) (hcd : ∃ cdD, PySem.W.clsIn K D = some cdD) (hsub : PySem.W.mroIn K C (.ref D) = some true) (hm : PySem.W.ks_superIn K C D "__init__" = some (some (.ref f2))) (hop : PySem.W.nsIn K cStatics "thirdparty.any" = some none) (hsu : mg "super" = none)
    (hfile : ((P.main.file : Str) == file) = true) (htop : (P.main.scope.names.lookup ("super" : Str)).isSome = false) : FnOk P w K mg base CX0 (k + 1) f fd ["self", "width", "rows"] (spInit K C isTgtV) := by
  refine ok_super (self := "self") F scTInit ((G2.raw b2 .nil).imp fun vs H Q E h => by rw [List.append_nil]; exact h) fi ty hcd hsub hm hop hsu hfile htop rfl ⟨_, rfl, rfl⟩ rfl (by decide +kernel) (fun _ => ⟨_, rfl⟩) (fun _ => rfl) (fun _ => rfl) (fun _ => rfl) (fun vs H Q E h => ?_) (fun h => h) (fun A cda cc outer s H vs Q hr h => ?_)
  · obtain ⟨x, dx, d, w, xs, kvs, rfl, _⟩ := h
    rfl
  · obtain ⟨x, dx, d, w, xs, kvs, rfl, hx, w1, w32, hd, ok, h64, q⟩ := h
    refine ⟨x, dx, _, _, _, rfl, hx, pa_cons (pv 1) (pa_cons (pv 2) pa_nil), pss_nil, ?_⟩
    exact ⟨.int w, rfl, .ref d, rfl, x, dx, d, w, xs, kvs, rfl, hx, w1, w32, hd, ok, h64, q⟩
theorem scLook : FnScope ["self", "address", "prefix"] ["self", "address"] (defScope sLook) := ⟨rfl, rfl, rfl, by decide +kernel, rfl, by decide +kernel, by decide +kernel⟩
theorem ok_look {f fA fL C : Addr} {fd fdA fdL : FuncData} {k : Nat} (F : Fun K "lookup" "Table.lookup" sLook f fd) (T : ClsF K C) (GA : FnOk P w K mg base CX0 k fA fdA ["thing", "width"] (spAdr K)) (FA : Fun K "is_address" "is_address" sAdr fA fdA) (bA : Binds K fdA ["thing", "width"] []) (gA : mg "is_address" = some (.ref fA))
    (GL : FnOk P w K mg base CX0 k fL fdL ["self", "prefix"] (spLongest K C)) (mL : Meth K C "longest" fL) (bL : Binds K fdL ["self", "prefix"] []) : FnOk P w K mg base CX0 (k + 1) f fd ["self", "address"] (spLook K C) := by
  refine F.ok scLook (fun vs H Q E h => ?_) (fun cdv A outer s H vs Q E hr h => ?_)
  · obtain ⟨x, e, w, xs, kvs, y, rfl, _⟩ := h
    rfl
  · obtain ⟨x, e, w, xs, kvs, y, rfl, ⟨⟨dx, hx⟩, he⟩, hk, hb, hyw, hw32, q⟩ := h
    have nd := scLook.nd
    have hu := hu_of hr
    refine ⟨_, pss_cons (ps_if (pt_not (pt_val (pe_call GA hr (by rfl) gA FA.kp bA .nil pass0 (pa_cons (pv 1) (pa_cons (pe_fld (pv 0) rfl) pa_nil))))) (pss_one ps_never) pss_nil)
      (pss_cons (ps_set (i := 2) nd rfl (.inl rfl) (pe_meth (pv 0) T.cl mL GL hr bL .nil pass0 (pa_cons (pv 1) pa_nil)))
      (pss_cons (ps_if (pt_cmpR op_isN (pv 2) pe_non (nomark _)) (pss_one (ps_ret pe_non)) pss_nil)
      (pss_one (ps_ret (pe_dget hu (pe_fld (pv 0) rfl) (pv 2) (fun _ _ => rfl)))))), ?_⟩
    refine ⟨.str y, rfl, .ref x, rfl, x, C, dx, _, _, rfl, hx, T.cl, T.nW, flds_w _ _, y, w, rfl, TyS.of (N := fun _ => True) (.str y), big_of (by omega), _, rfl, ?_⟩
    have ep : (isPfx (.str y) (w : Int) && decide ((y.length : Int) = w)) = true := by
      show ((decide ((y.length : Int) ≤ w) && isBits y) && _) = true
      rw [decide_eq_true (by omega), hb, decide_eq_true (by omega)]
      rfl
    rw [ep]
    refine iteF ?_
    refine ⟨.ref x, rfl, x, dx, _, rfl, hx, flds_no _ _ (by decide +kernel) (by decide +kernel), .str y, rfl, x, e, w, xs, kvs, y, rfl, ⟨⟨dx, hx⟩, he⟩, hk, hb, by omega, hw32, fun r hr' => ?_⟩
    refine ⟨_, rfl, rfl, _, rfl, ?_⟩
    cases r with
    | none => exact iteT (q none hr')
    | some z =>
      refine iteF ?_
      have hz : (Sum.inr z : Key) ∈ kvs.map (·.1) := (inr_mem hk z).mpr hr'.1
      obtain ⟨v, hv⟩ := Option.isSome_iff_exists.mp (valV_mem.mpr hz)
      have q' : Q (leadV kvs (some z)) H := q (some z) hr'
      have ev : leadV kvs (some z) = v := by
        show (valV kvs (.inr z)).getD .non = v
        rw [hv]
        rfl
      rw [ev] at q'
      refine ⟨.ref x, rfl, x, C, dx, _, _, rfl, hx, T.cl, T.nR, flds_r _ _, .str z, rfl, e, v, rfl, by rw [← hv]; exact DGet.k (k := .inr z) he, q'⟩
theorem scRows : FnScope ["self"] ["self"] (defScope sRows) := ⟨rfl, rfl, rfl, by decide +kernel, rfl, by decide +kernel, by decide +kernel⟩
theorem ok_rows {f C : Addr} {fd : FuncData} {k : Nat} (F : Fun K "rows" "PrefixMap.rows" sRows f fd) (T : ClsF K C) (md : mg "dict" = none) : FnOk P w K mg base CX0 (k + 1) f fd ["self"] (spRows C) := by
  refine F.ok scRows (fun vs H Q E h => ?_) (fun cdv A outer s H vs Q E hr h => ?_)
  · obtain ⟨x, e, w, kvs, rfl, _⟩ := h
    rfl
  · obtain ⟨x, e, w, kvs, rfl, ⟨⟨dx, hx⟩, he⟩, q⟩ := h
    refine ⟨_, pss_one (ps_ret (pe_callTy call_dictD (by rfl) md (by decide +kernel) (pa_cons (pe_fld (pv 0) rfl) pa_nil))), ?_⟩
    exact ⟨.ref x, rfl, x, C, dx, _, _, rfl, hx, T.cl, T.nR, flds_r _ _, e, kvs, rfl, .inl he, q⟩
end
theorem same_free {H H' : Hp} {a : Addr} (s : Same H H') (h : H' a = none) : H a = none := by
  cases e : H a with
  | none => rfl
  | some o =>
    rw [s _ _ e] at h
    cases h
/-! ### _law_lines, _law_lead -/
abbrev used : List V := [.str "a", .str "ab", .str "b", .str "any"]
theorem used_tgt {i : Nat} (h : i < 4) : ∃ x, used[i]? = some (.str x) ∧ isTgtV (.str x) ∧ Sm 100 x := by
  have h4 : i = 0 ∨ i = 1 ∨ i = 2 ∨ i = 3 := by omega
  rcases h4 with rfl | rfl | rfl | rfl
  · exact ⟨"a", rfl, show isTgt (.str "a") = true by decide +kernel, ⟨by decide +kernel, by decide +kernel⟩⟩
  · exact ⟨"ab", rfl, show isTgt (.str "ab") = true by decide +kernel, ⟨by decide +kernel, by decide +kernel⟩⟩
  · exact ⟨"b", rfl, show isTgt (.str "b") = true by decide +kernel, ⟨by decide +kernel, by decide +kernel⟩⟩
  · exact ⟨"any", rfl, show isTgt (.str "any") = true by decide +kernel, ⟨by decide +kernel, by decide +kernel⟩⟩
def spLinesM (vok : V → Prop) : Sp := fun vs H Q _ => ∃ (p c : Addr) (n z most : Nat) (m : List V), vs = [.ref p, .int z, .int most] ∧ Pen H p c n m ∧ n + 1000 ≤ PB ∧ z ≤ 32 ∧ most ≤ 20 ∧
  ∀ (d : Addr) (xs : List Str) (kvs : List (Key × V)) (H' : Hp), But p H H' → H d = none → H' d = some (.dK kvs) → RowsOk z vok xs kvs → xs.length ≤ most → Pen H' p c (n + 200) m → Q (.ref d) H'
section
variable {P : Program} {w : World} {K : PySem.W.Frag} {mg : Str → Option Value} {base : Heap}
theorem scLines : FnScope ["pen", "size", "most", "names_used", "prefix"] ["pen", "size", "most"] (defScope sLines) := ⟨rfl, rfl, rfl, by decide +kernel, rfl, by decide +kernel, by decide +kernel⟩
theorem ok_lines {f fD fX : Addr} {fd fdD fdX : FuncData} {k : Nat} (F : Fun K "_law_lines" "_law_lines" sLines f fd) (GD : FnOk P w K mg base CX0 k fD fdD ["pen", "below"] spDraw) (FD : Fun K "_law_draw" "_law_draw" sDraw fD fdD) (bD : Binds K fdD ["pen", "below"] []) (gD : mg "_law_draw" = some (.ref fD))
    (GX : FnOk P w K mg base CX0 k fX fdX ["pen", "size", "most"] spPrefixes) (FX : Fun K "_law_prefixes" "_law_prefixes" sPrefixes fX fdX) (bX : Binds K fdX ["pen", "size", "most"] []) (gX : mg "_law_prefixes" = some (.ref fX)) (md : mg "dict" = none) :
    FnOk P w K mg base CX0 (k + 1) f fd ["pen", "size", "most"] (spLinesM isTgtV) := by
  refine F.ok scLines (fun vs H Q E h => ?_) (fun cdv A outer s H vs Q E hr h => ?_)
  · obtain ⟨p, c, n, z, most, m, rfl, _⟩ := h
    rfl
  · obtain ⟨p, c, n, z, most, m, rfl, hp, hn, hz, hk, q⟩ := h
    have nd := scLines.nd
    have hnB : n + 1000 ≤ 1000000000000 := hn
    refine ⟨_, pss_cons (ps_set (i := 3) nd rfl (.inr rfl) (pe_lst (pa_cons pe_str (pa_cons pe_str (pa_cons pe_str (pa_cons pe_str pa_nil))))))
      (pss_one (ps_ret (pe_callTy (call_dictP rfl) (by rfl) md (by decide +kernel) (pa_cons
      (pe_lc (own := [("prefix", 4)]) (g := gName 4) (tt := tYes) rfl nd (pi_list (pe_call GX hr (by rfl) gX FX.kp bX .nil pass0 (pa_cons (pv 0) (pa_cons (pv 1) (pa_cons (pv 2) pa_nil)))))
        (blkOk_by (N := ["pen", "size", "most", "names_used", "prefix"]) (sc := defScope sLines) (by decide +kernel)) (fun _ _ _ _ _ => pg_name (i := 4) nd rfl (.inl rfl)) (fun _ _ _ _ _ => pts_nil)
        (fun _ _ _ _ _ => pe_tup (pa_cons (pv 4) (pa_cons (pe_ix (r := rIxL K) ix_list (pv 3) (pe_call GD hr (by rfl) gD FD.kp bD .nil pass0 (pa_cons (pv 0) (pa_cons pe_int pa_nil))) (fun _ _ => rfl)) pa_nil)))) pa_nil)))), ?_⟩
    refine ⟨by show 4 ≤ sizeLine; decide, fun u nu => ?_⟩
    have s0 := same_upd (o := .lst used) nu
    have hp0 := hp.keep s0
    have up : u ≠ p := hp.ne_p nu
    have hu0 : (upd H u (.lst used)) u = some (.lst used) := upd_same
    refine ⟨.ref p, rfl, .int z, rfl, .int most, rfl, p, c, n, z, most, m, rfl, hp0, by show n + 1000 ≤ 1000000000000; omega, hz, hk, fun l xs H1 b1 p1 nl hl hx hx7 => ?_⟩
    have b1' : But p H H1 := (But.of_same s0).trans b1
    have hu1 := b1 _ _ up hu0
    have nl0 : H l = none := (upd_free nl).2
    refine ⟨l, rfl, ⟨_, SqL.of hl⟩, fun D nD => ?_⟩
    have nDl : D ≠ l := fun e => by rw [e, hl] at nD; cases nD
    have nDu : D ≠ u := fun e => by rw [e, hu1] at nD; cases nD
    have nDp := p1.ne_p nD
    refine lc_it walk_list (fun i H' => ∃ ps kvs, PairsAt K H' D isTgtV (xs.take i) ps kvs ∧ ps.length = i ∧ H' l = some (.lst (xs.map V.str)) ∧ H' u = some (.lst used) ∧ But p H H' ∧ Pen H' p c (n + 161 + i) m) ⟨[], [], ⟨upd_same, .nil, by rw [List.take_zero]; rfl, fun _ h => absurd h List.not_mem_nil⟩, rfl, by rw [upd_ne nDl.symm]; exact hl, by rw [upd_ne nDu.symm]; exact hu1, b1'.trans (.of_same (same_upd nD)), (p1.mono (by omega)).off nDp (p1.ne_c nD)⟩
      (fun i H' hi h => by obtain ⟨_, _, _, _, h, _⟩ := h; exact SqL.of h) ?_ ?_
    · rintro i v H' H'' hi ⟨ps, kvs, hps, hpl, hl', hu', bH, pH⟩ ⟨rfl, hv⟩
      have hi' : i < xs.length := by rw [List.length_map] at hi; exact hi
      rw [List.getElem?_map, List.getElem?_eq_getElem hi'] at hv
      obtain rfl : V.str xs[i] = v := Option.some.inj hv
      refine ⟨rfl, yes_if ?_⟩
      refine ⟨.str xs[i], rfl, .ref u, rfl, .ref p, rfl, p, c, _, m, 4, rfl, pH, by show n + 161 + i ≤ 1000000000000; omega, by decide, by decide, fun d H3 d0 d1 b3 p3 => ?_⟩
      obtain ⟨y, hy, ty, _⟩ := used_tgt (i := d.toNat) (by omega)
      refine ⟨u, used, d, .str y, rfl, rfl, SqL.of (b3 _ _ up hu'), at_of (j := d.toNat) (by omega) hy, by show 2 ≤ sizeLine; decide, fun t nt => ?_⟩
      obtain ⟨o, hpo⟩ := pH.lst
      have h3 := hps.but b3 hpo nDp
      have s2 := same_upd (o := .tup [.str xs[i], .str y]) nt
      have et : xs.take (i + 1) = xs.take i ++ [xs[i]] := by rw [List.take_add_one, List.getElem?_eq_getElem hi']; rfl
      refine ⟨_, s2 _ _ h3.at_, ?_, ps ++ [t], kvs ++ [(.inr xs[i], .str y)], ?_, by rw [List.length_append, hpl]; rfl, ?_, ?_, ?_, ?_⟩
      · exact Nat.lt_of_le_of_lt (show (ps.map V.ref).length ≤ 1000 by rw [List.length_map]; omega) (by decide)
      · rw [et]
        exact h3.snoc (v := .str y) ty nt
      · rw [upd_ne nDl.symm]
        exact s2 _ _ (b3 _ _ (hp0.ne_p nl) hl')
      · rw [upd_ne nDu.symm]
        exact s2 _ _ (b3 _ _ up hu')
      · exact pairs_old (b1'.free nDp nD) bH b3 nt
      · exact ((p3.keep s2).mono (by omega)).off nDp (p1.ne_c nD)
    · rintro H' ⟨ps, kvs, hps, hpl, hl', hu', bH, pH⟩
      rw [List.length_map, List.take_of_length_le (Nat.le_refl _)] at hps
      rw [List.length_map] at hpl pH
      refine ⟨D, ps, kvs, rfl, SqL.of hps.at_, hps.prs, fun d nd' => ?_⟩
      rw [pair_merge hps hx.nd]
      exact q d xs kvs _ (bH.trans (.of_same (same_upd nd'))) (bH.free (pH.ne_p nd') nd') upd_same ⟨hps.keys, hx, hps.val⟩ hx7 ((pH.keep (same_upd nd')).mono (by omega))
end
/-! ### ascending texts: one order alone -/
def LeS (a b : Str) : Prop := sg a ≤ sg b
theorem leS_trans {a b c : Str} (h : LeS a b) (h' : LeS b c) : LeS a c := List.le_trans h h'
theorem leS_anti {a b : Str} (h : LeS a b) (h' : LeS b a) : a = b := str_ext (List.le_antisymm h h')
theorem rise_pw : ∀ (l : List Str) (p : Str), risingS p l = true → (p :: l).Pairwise LeS
  | [], p, _ => List.pairwise_cons.mpr ⟨fun _ h => absurd h List.not_mem_nil, List.Pairwise.nil⟩
  | x :: r, p, h => by
    have h2 : (!ltCps (sg x) (sg p) && risingS x r) = true := h
    rw [Bool.and_eq_true, ltCps_eq] at h2
    have ih := rise_pw r x h2.2
    have hx : LeS p x := by
      have z : ¬ (sg x < sg p) := by
        have := h2.1
        simpa using this
      exact List.not_lt.mp z
    refine List.pairwise_cons.mpr ⟨fun y hy => ?_, ih⟩
    rcases List.mem_cons.mp hy with rfl | hy
    · exact hx
    · exact leS_trans hx ((List.pairwise_cons.mp ih).1 y hy)
theorem up_pw {l : List Str} (h : sortedS l = true) : l.Pairwise LeS := by
  cases l with
  | nil => exact List.Pairwise.nil
  | cons x r => exact rise_pw r x h
theorem up_uniq {l l' : List Str} (p : l.Perm l') (h : sortedS l = true) (h' : sortedS l' = true) : l = l' :=
  List.Perm.eq_of_pairwise (le := LeS) (fun a b _ _ q q' => leS_anti q q') (up_pw h) (up_pw h') p
theorem kv_ext {k1 k2 : List (Key × V)} (e : k1.map (·.1) = k2.map (·.1)) (nd : (k1.map (·.1)).Nodup) (v : ∀ k ∈ k1.map (·.1), valV k1 k = valV k2 k) : k1 = k2 := by
  have el : k1.length = k2.length := by
    have := congrArg List.length e
    rw [List.length_map, List.length_map] at this
    exact this
  refine List.ext_getElem el fun i h1 h2 => ?_
  have e1 : (k1[i]).1 = (k2[i]).1 := by
    have a1 : (k1.map (·.1))[i]? = some (k1[i]).1 := by rw [List.getElem?_map, List.getElem?_eq_getElem h1]; rfl
    have a2 : (k2.map (·.1))[i]? = some (k2[i]).1 := by rw [List.getElem?_map, List.getElem?_eq_getElem h2]; rfl
    rw [e, a2] at a1
    exact (Option.some.inj a1).symm
  have v1 := valV_some nd (k := (k1[i]).1) (v := (k1[i]).2) (List.getElem_mem h1)
  have v2 := valV_some (e ▸ nd) (k := (k2[i]).1) (v := (k2[i]).2) (List.getElem_mem h2)
  have v3 := v _ (List.mem_map.mpr ⟨_, List.getElem_mem h1, rfl⟩)
  have e2 : (k1[i]).2 = (k2[i]).2 := by
    rw [v1, e1, v2] at v3
    exact Option.some.inj v3
  exact Prod.ext e1 e2
theorem Sorted.uniq {xs ys1 ys2 : List Str} {kvs k1 k2 : List (Key × V)} (nd : xs.Nodup) (h1 : Sorted xs kvs k1 ys1) (h2 : Sorted xs kvs k2 ys2) : k1 = k2 := by
  have e : ys1 = ys2 := up_uniq (h1.perm.trans h2.perm.symm) h1.up h2.up
  refine kv_ext (by rw [h1.keys, h2.keys, e]) ?_ fun k hk => ?_
  · rw [h1.keys]
    exact (h1.perm.nodup_iff.mpr nd).map Sum.inr (fun a b h e => h (Sum.inr.inj e))
  · rw [h1.keys] at hk
    obtain ⟨y, hy, rfl⟩ := List.mem_map.mp hk
    have hx := h1.perm.mem_iff.mp hy
    rw [h1.val y hx, h2.val y hx]
/-! ### how tables show -/
theorem tgt_sm {v : V} (h : isTgtV v) : ∃ x, v = .str x ∧ Sm 8 x := by
  obtain ⟨x, rfl, h8, _, hx⟩ := tgt_str h
  refine ⟨x, rfl, h8, fun c hc => ?_⟩
  have h1 := List.all_eq_true.mp hx c hc
  have all : letters.cps.toList.all (fun c => decide (c < 128)) = true := by decide +kernel
  exact of_decide_eq_true (List.all_eq_true.mp all c (Array.mem_toList_iff.mpr (Array.contains_iff.mp h1)))
theorem dr_rows {K : PySem.W.Frag} {H : Hp} {N : Addr → Prop} : ∀ (kvs : List (Key × V)), (∀ kv ∈ kvs, (∃ y, kv.1 = .inr y ∧ Sm 32 y) ∧ isTgtV kv.2) → ∃ ds, DrKv K H N kvs ds ∧ ds.length = kvs.length ∧ ∀ d ∈ ds, OkD 0 322 d.1 ∧ OkD 0 82 d.2
  | [], _ => ⟨[], .nil, rfl, fun _ h => absurd h List.not_mem_nil⟩
  | (k, v) :: r, h => by
    obtain ⟨⟨y, e, sy⟩, hv⟩ := h (k, v) List.mem_cons_self
    have e' : k = .inr y := e
    subst e'
    obtain ⟨x, ex, sx⟩ := tgt_sm hv
    have ex' : v = .str x := ex
    subst ex'
    obtain ⟨ds, h1, h2, h3⟩ := dr_rows r fun kv hk => h kv (List.mem_cons_of_mem _ hk)
    refine ⟨(.str y, .str x) :: ds, .cons (k := .inr y) (.str x) h1, by rw [List.length_cons, List.length_cons, h2], fun d hd => ?_⟩
    rcases List.mem_cons.mp hd with rfl | hd
    · exact ⟨sy.ok (by decide), sx.ok (by decide)⟩
    · exact h3 d hd
abbrev sMade : Stmt := inClass sCls 1
abbrev sWith : Stmt := inClass sCls 9
/-- a new map of this class with these rows -/
def Made (C : Addr) (w : Nat) (xs : List Str) (kvs : List (Key × V)) (H : Hp) (Q : VK) : Prop := ∀ (x e : Addr) (ys : List Str) (kvs' : List (Key × V)) (H' : Hp), H x = none → Same H H' → Sorted xs kvs kvs' ys → MapAt C H' x e w kvs' → Q (.ref x) H'
def spMade (C : Addr) (vok : V → Prop) : Sp := fun vs H Q _ => ∃ (d : Addr) (w : Nat) (xs : List Str) (kvs : List (Key × V)), vs = [.ref C, .int w, .ref d] ∧ 1 ≤ w ∧ w ≤ 32 ∧ H d = some (.dK kvs) ∧ RowsOk w vok xs kvs ∧ xs.length < 64 ∧ Made C w xs kvs H Q
/-- a map with one row more, or replaced -/
def spWith (C : Addr) (vok : V → Prop) : Sp := fun vs H Q _ => ∃ (x e : Addr) (w : Nat) (xs : List Str) (kvs : List (Key × V)) (y : Str) (v : V), vs = [.ref x, .str y, v] ∧ MapAt C H x e w kvs ∧ RowsOk w vok xs kvs ∧ 1 ≤ w ∧ w ≤ 32 ∧ isBits y = true ∧ y.length ≤ w ∧ vok v ∧ xs.length < 60 ∧
  ∀ xs2, RowsOk w vok xs2 (putK kvs (.inr y) v) → (∀ z, z ∈ xs2 ↔ z = y ∨ z ∈ xs) → xs2.length ≤ xs.length + 1 → Made C w xs2 (putK kvs (.inr y) v) H Q
theorem Made.later {C : Addr} {w : Nat} {xs : List Str} {kvs : List (Key × V)} {H H1 : Hp} {Q : VK} (s : Same H H1) (h : Made C w xs kvs H Q) : Made C w xs kvs H1 Q := fun x e ys kvs' H' nx s' hs hm => h x e ys kvs' H' (same_free s nx) (s.trans s') hs hm
theorem keys_put {kvs : List (Key × V)} {k0 : Key} {v : V} (k : Key) : k ∈ (putK kvs k0 v).map (·.1) ↔ k = k0 ∨ k ∈ kvs.map (·.1) := by
  by_cases hm : k0 ∈ kvs.map (·.1)
  · have e : (putK kvs k0 v).map (·.1) = kvs.map (·.1) := by
      unfold putK
      rw [if_pos (by obtain ⟨p, hp, e⟩ := List.mem_map.mp hm; exact List.any_eq_true.mpr ⟨p, hp, decide_eq_true e⟩), List.map_map]
      refine List.map_congr_left fun p _ => ?_
      show (if p.1 = k0 then (p.1, v) else p).1 = p.1
      split <;> rfl
    rw [e]
    exact ⟨.inr, fun h => h.elim (fun q => q ▸ hm) id⟩
  · rw [putK_end hm, List.map_append, List.mem_append]
    exact ⟨fun h => h.elim .inr fun q => .inl (List.mem_singleton.mp q), fun h => h.elim (fun q => .inr (List.mem_singleton.mpr q)) .inl⟩
theorem RowsOk.acc {w : Nat} {vok : V → Prop} {xs : List Str} {kvs : List (Key × V)} (h : RowsOk w vok xs kvs) : RowsAcc w vok kvs := by
  refine ⟨by rw [h.keys]; exact h.pfx.nd.map Sum.inr (fun a b h e => h (Sum.inr.inj e)), fun kv hk => ?_⟩
  have hkey : kv.1 ∈ xs.map Sum.inr := by
    rw [← h.keys]
    exact List.mem_map.mpr ⟨kv, hk, rfl⟩
  obtain ⟨y, hy, ey⟩ := List.mem_map.mp hkey
  exact ⟨y, ey.symm, h.pfx.bits y hy, h.pfx.len y hy, h.val kv hk⟩
theorem RowsOk.put {w : Nat} {vok : V → Prop} {xs : List Str} {kvs : List (Key × V)} (h : RowsOk w vok xs kvs) {y : Str} {v : V} (hb : isBits y = true) (hl : y.length ≤ w) (hv : vok v) :
    ∃ xs2, RowsOk w vok xs2 (putK kvs (.inr y) v) ∧ (∀ z, z ∈ xs2 ↔ z = y ∨ z ∈ xs) ∧ xs2.length ≤ xs.length + 1 := by
  obtain ⟨xs2, ok2, l2⟩ := (h.acc.put hb hl hv).ok
  refine ⟨xs2, ok2, fun z => ?_, ?_⟩
  · rw [← inr_mem ok2.keys z, keys_put, inr_mem h.keys z]
    exact ⟨fun q => q.imp Sum.inr.inj id, fun q => q.imp (congrArg Sum.inr) id⟩
  · have a := length_putK kvs (.inr y) v
    have b : kvs.length = xs.length := by
      have := congrArg List.length h.keys
      rw [List.length_map, List.length_map] at this
      exact this
    omega
section
variable {P : Program} {w : World} {K : PySem.W.Frag} {mg : Str → Option Value} {base : Heap}
theorem scMade : FnScope ["cls", "width", "rows"] ["cls", "width", "rows"] (defScope sMade) := ⟨rfl, rfl, rfl, by decide +kernel, rfl, by decide +kernel, by decide +kernel⟩
theorem ok_made {f fI C : Addr} {fd fdI : FuncData} {k : Nat} {vok : V → Prop} (F : Fun K "_made" "PrefixMap._made" sMade f fd) (M : Mk K C fI) (GI : FnOk P w K mg base CX0 k fI fdI ["self", "width", "rows"] (spInit K C vok)) (bI : Binds K fdI ["self", "width", "rows"] []) :
    FnOk P w K mg base CX0 (k + 2) f fd ["cls", "width", "rows"] (spMade C vok) := by
  refine F.ok scMade (fun vs H Q E h => ?_) (fun cdv A outer s H vs Q E hr h => ?_)
  · obtain ⟨d, w, xs, kvs, rfl, _⟩ := h
    rfl
  · obtain ⟨d, w, xs, kvs, rfl, w1, w32, hd, ok, few, q⟩ := h
    refine ⟨_, pss_one (ps_ret (pe_makeL (i := 0) M GI hr (by rfl) (.inl (by rfl)) bI (pa_cons (pv 1) (pa_cons (pv 2) pa_nil)))), ?_⟩
    refine ⟨rfl, .int w, rfl, .ref d, rfl, fun x dx nx ndx nex => ?_⟩
    have n1 : d ≠ x := ne_of_none hd nx
    have n2 : d ≠ dx := ne_of_none hd ndx
    refine ⟨x, dx, d, w, xs, kvs, rfl, upd_same, w1, w32, by rw [upd_ne n1, upd_ne n2]; exact hd, ok, few, fun e ys kvs' H' ne hs hm keep => ⟨rfl, ?_⟩⟩
    exact q x e ys kvs' H' nx (Same.made nx ndx keep) hs hm
theorem scWith : FnScope ["self", "prefix", "value"] ["self", "prefix", "value"] (defScope sWith) := ⟨rfl, rfl, rfl, by decide +kernel, rfl, by decide +kernel, by decide +kernel⟩
theorem ok_with {f fP p g C : Addr} {fd fdP : FuncData} {k : Nat} {vok : V → Prop} (F : Fun K "with_row" "PrefixMap.with_row" sWith f fd) (T : ClsF K C) (GP : FnOk P w K mg base CX0 k fP fdP ["thing", "width"] (spPfx K)) (FP : Fun K "is_prefix" "is_prefix" sPfx fP fdP) (bP : Binds K fdP ["thing", "width"] []) (gP : mg "is_prefix" = some (.ref fP))
    (CI : ClX.CInst K C "_made" p g) (GM : FnR P w K mg base CX0 k g (spMade C vok)) : FnOk P w K mg base CX0 (k + 1) f fd ["self", "prefix", "value"] (spWith C vok) := by
  refine F.ok scWith (fun vs H Q E h => ?_) (fun cdv A outer s H vs Q E hr h => ?_)
  · obtain ⟨x, e, w, xs, kvs, y, v, rfl, _⟩ := h
    rfl
  · obtain ⟨x, e, w, xs, kvs, y, v, rfl, ⟨⟨dx, hx⟩, he⟩, ok, w1, w32, hb, hy, hv, few, q⟩ := h
    refine ⟨_, pss_cons (ps_if (pt_not (pt_val (pe_call GP hr (by rfl) gP FP.kp bP .nil pass0 (pa_cons (pv 1) (pa_cons (pe_fld (pv 0) rfl) pa_nil))))) (pss_one ps_never) pss_nil)
      (pss_one (ps_ret (ClX.pe_imethD (pv 0) CI GM hr pass0 (pa_cons (pe_fld (pv 0) rfl) (pa_cons (pe_dst (pe_fld (pv 0) rfl) (pv 1) (pv 2)) pa_nil))))), ?_⟩
    refine ⟨.str y, rfl, .ref x, rfl, x, C, dx, _, _, rfl, hx, T.cl, T.nW, flds_w _ _, .str y, w, rfl, TyS.of (N := fun _ => True) (.str y), fun z e => by rw [← V.str.inj e]; exact big_of (by omega), _, rfl, ?_⟩
    have ep : isPfx (.str y) (w : Int) = true := by
      show (decide ((y.length : Int) ≤ w) && isBits y) = true
      rw [decide_eq_true (by omega), hb]
      rfl
    rw [ep]
    refine iteF ?_
    obtain ⟨xs2, ok2, mem2, len2⟩ := ok.put hb hy hv
    refine ⟨.ref x, rfl, x, dx, _, rfl, hx, flds_no _ _ (by decide +kernel) (by decide +kernel), .ref x, rfl, x, C, dx, _, _, rfl, hx, T.cl, T.nW, flds_w _ _, fun p np => ?_⟩
    have s1 := same_upd (o := .dK []) np
    have ne : e ≠ p := ne_of_none he np
    have hkl : kvs.length = xs.length := by
      have := congrArg List.length ok.keys
      rw [List.length_map, List.length_map] at this
      exact this
    refine ⟨.ref x, rfl, x, C, dx, _, _, rfl, s1 _ _ hx, T.cl, T.nR, flds_r _ _, e, kvs, rfl, .inl (s1 _ _ he), ne, upd_same, ok.acc.nd, by omega, fun q2 nq => ?_⟩
    rw [upd_upd] at nq ⊢
    obtain ⟨q2p, nq2⟩ := upd_free nq
    refine ⟨.str y, rfl, v, rfl, .inr y, rfl, by rw [upd_ne q2p.symm, upd_same], upd_same, ?_⟩
    refine ⟨p, w, xs2, _, rfl, w1, w32, upd_same, ok2, by omega, (q xs2 ok2 mem2 len2).later fun b o eb => ?_⟩
    have bp := ne_of_none eb np
    have bq := ne_of_none eb nq2
    rw [upd_ne bp, upd_ne bq, upd_ne bq, upd_ne bp]
    exact eb
end
abbrev sWithout : Stmt := inClass sCls 10
/-- the rows without this key -/
def spWithout (C : Addr) (vok : V → Prop) : Sp := fun vs H Q _ => ∃ (x e : Addr) (w : Nat) (xs : List Str) (kvs : List (Key × V)) (y : Str), vs = [.ref x, .str y] ∧ MapAt C H x e w kvs ∧ RowsOk w vok xs kvs ∧ 1 ≤ w ∧ w ≤ 32 ∧ y ∈ xs ∧ xs.length < 60 ∧
  (RowsOk w vok (xs.filter (fun z => decide (z ≠ y))) (kvs.filter fun kv => decide (kv.1 ≠ .inr y)) → Made C w (xs.filter (fun z => decide (z ≠ y))) (kvs.filter fun kv => decide (kv.1 ≠ .inr y)) H Q)
theorem filt_keys {y : Str} : ∀ {kvs : List (Key × V)} {xs : List Str}, kvs.map (·.1) = xs.map Sum.inr → (kvs.filter fun kv => decide (kv.1 ≠ .inr y)).map (·.1) = (xs.filter fun z => decide (z ≠ y)).map Sum.inr
  | [], [], _ => rfl
  | [], _ :: _, h => by cases h
  | _ :: _, [], h => by cases h
  | (k, v) :: r, x :: xs, h => by
    obtain ⟨h1, h2⟩ := List.cons.inj h
    have e1 : k = Sum.inr x := h1
    subst e1
    have ih := filt_keys (y := y) h2
    by_cases hxy : x = y
    · subst hxy
      rw [List.filter_cons_of_neg (by simp), List.filter_cons_of_neg (by simp)]
      exact ih
    · rw [List.filter_cons_of_pos (by simpa using hxy), List.filter_cons_of_pos (by simpa using hxy), List.map_cons, List.map_cons, ih]
theorem RowsOk.filt {w : Nat} {vok : V → Prop} {xs : List Str} {kvs : List (Key × V)} (h : RowsOk w vok xs kvs) (y : Str) : RowsOk w vok (xs.filter fun z => decide (z ≠ y)) (kvs.filter fun kv => decide (kv.1 ≠ .inr y)) :=
  ⟨filt_keys h.keys, ⟨h.pfx.nd.filter _, fun x hx => h.pfx.bits x (List.mem_filter.mp hx).1, fun x hx => h.pfx.len x (List.mem_filter.mp hx).1⟩, fun kv hk => h.val kv (List.mem_filter.mp hk).1⟩
section
variable {P : Program} {w : World} {K : PySem.W.Frag} {mg : Str → Option Value} {base : Heap}
theorem scWithout : FnScope ["self", "prefix", "kept"] ["self", "prefix"] (defScope sWithout) := ⟨rfl, rfl, rfl, by decide +kernel, rfl, by decide +kernel, by decide +kernel⟩
theorem ok_without {f p g C : Addr} {fd : FuncData} {k : Nat} {vok : V → Prop} (F : Fun K "without" "PrefixMap.without" sWithout f fd) (T : ClsF K C) (mi : mg "isinstance" = none) (ms : mg "str" = none)
    (CI : ClX.CInst K C "_made" p g) (GM : FnR P w K mg base CX0 k g (spMade C vok)) : FnOk P w K mg base CX0 (k + 1) f fd ["self", "prefix"] (spWithout C vok) := by
  refine F.ok scWithout (fun vs H Q E h => ?_) (fun cdv A outer s H vs Q E hr h => ?_)
  · obtain ⟨x, e, w, xs, kvs, y, rfl, _⟩ := h
    rfl
  · obtain ⟨x, e, w, xs, kvs, y, rfl, ⟨⟨dx, hx⟩, he⟩, ok, w1, w32, hy, few, q⟩ := h
    have nd := scWithout.nd
    have hu := hu_of hr
    refine ⟨_, pss_cons (ps_if (PW.pt (pw_or (pt_not (pt_val (pe_callB call_isi (by rfl) mi (by decide +kernel) (pa_cons (pv 1) (pa_cons (pe_bltn (v := .ty "str") (by rfl) ms (by decide +kernel) rfl) pa_nil))))) (pw_or1 (pt_cmp (pc_dnotin hu (pv 1) (pe_fld (pv 0) rfl)))))) (pss_one ps_never) pss_nil)
      (pss_one (ps_ret (ClX.pe_imethD (pv 0) CI GM hr pass0 (pa_cons (pe_fld (pv 0) rfl) (pa_cons (pe_lock (pe_dc (own := [("kept", 2)]) (g := gName 2) (tv := tDGet (tFld K (tVar 0) "_rows") (tVar 2)) rfl nd (pi_keys (pe_fld (pv 0) rfl))
        (blkOk_by (N := ["self", "prefix", "kept"]) (sc := defScope sWithout) (by decide +kernel)) (fun _ _ _ _ _ => pg_name (i := 2) nd rfl (.inl rfl)) (fun _ _ _ _ _ => pts_one (pt_cmpR op_ne (pv 2) (pv 1) (nomark _))) (fun _ _ _ _ _ => pv 2)
        (fun _ _ _ _ _ => pe_dget hu (pe_fld (pv 0) rfl) (pv 2) (fun _ _ => rfl)))) pa_nil))))), ?_⟩
    obtain ⟨t, ty, kt⟩ := TyS.of (K := K) (H := H) (N := fun _ => True) (.str y)
    have hk : (Sum.inr y : Key) ∈ kvs.map (·.1) := (inr_mem ok.keys y).mpr hy
    refine ⟨.str y, rfl, .str y, .ty "str", .type t, .type "str", _, rfl, .ty _, ty, kt, _, rfl, iteF ?_⟩
    refine ⟨.str y, rfl, .ref x, rfl, x, C, dx, _, _, rfl, hx, T.cl, T.nR, flds_r _ _, e, _, rfl, DGet.k (k := .inr y) he, _, rfl, ?_⟩
    rw [show (valV kvs (.inr y)).isSome = true from valV_mem.mpr hk]
    refine iteF ?_
    have xe : x ≠ e := ne_of hx he (fun q => nomatch q)
    refine ⟨.ref x, rfl, x, dx, _, rfl, hx, flds_no _ _ (by decide +kernel) (by decide +kernel), .ref x, rfl, x, C, dx, _, _, rfl, hx, T.cl, T.nW, flds_w _ _, e, .dK kvs, he, trivial, fun od => ?_⟩
    refine ⟨.ref x, rfl, x, C, dx, _, _, rfl, by rw [upd_ne xe]; exact hx, T.cl, T.nR, flds_r _ _, e, od, rfl, .inl ⟨kvs, upd_same, fun D nD => ?_⟩⟩
    obtain ⟨nDe, nDH⟩ := upd_free nD
    have kn : (kvs.map (·.1)).Nodup := ok.acc.nd
    have hkl : kvs.length = xs.length := by
      have := congrArg List.length ok.keys
      rw [List.length_map, List.length_map] at this
      exact this
    refine dc_it walk_keys (fun i H' => H' D = some (.dK ((kvs.take i).filter fun kv => decide (kv.1 ≠ .inr y))) ∧ H' e = some (.frz od (.dK kvs)) ∧ ∀ b o, b ≠ e → H b = some o → H' b = some o) ⟨by rw [upd_same]; rfl, by rw [upd_ne nDe.symm, upd_same], fun b o nb eb => by rw [upd_ne (ne_of_none eb nDH), upd_ne nb]; exact eb⟩ (fun _ _ _ h => h.2.1) ?_ ?_
    · rintro i v H1 H2 hi ⟨hD, he1, keep⟩ ⟨rfl, k, v', hkv, rfl⟩
      obtain ⟨z, hz, rfl⟩ := key_at ok.keys hkv
      have et : kvs.take (i + 1) = kvs.take i ++ [(.inr z, v')] := by rw [List.take_add_one, hkv]; rfl
      refine ⟨rfl, .str z, rfl, .str y, rfl, rfl, _, rfl, ?_⟩
      by_cases hzy : z = y
      · subst hzy
        rw [decide_eq_true rfl]
        refine iteF ⟨?_, he1, keep⟩
        rw [et, List.filter_append, List.filter_cons_of_neg (by simp), List.filter_nil, List.append_nil]
        exact hD
      · rw [decide_eq_false (fun q => hzy (V.str.inj q))]
        refine iteT ?_
        have hv : valV kvs (.inr z) = some v' := valV_some kn (List.mem_of_getElem? hkv)
        refine ⟨.str z, rfl, .ref x, rfl, x, C, dx, _, _, rfl, keep _ _ xe hx, T.cl, T.nR, flds_r _ _, .str z, rfl, e, v', rfl, .inl ⟨kvs, .inr z, .inr ⟨od, he1⟩, rfl, hv.symm⟩, _, .inr z, rfl, hD, ?_, ?_, ?_, fun b o nb eb => ?_⟩
        · refine Nat.lt_of_le_of_lt (List.length_filter_le _ _) ?_
          rw [List.length_take]
          exact big_lt (by omega)
        · rw [upd_same, et, List.filter_append, List.filter_cons_of_pos (by simpa using hzy), List.filter_nil, putK_end]
          intro hm
          obtain ⟨pq, hp, eq⟩ := List.mem_map.mp hm
          have hp2 := (List.mem_filter.mp hp).1
          obtain ⟨j, hj, ej⟩ := List.mem_take_iff_getElem.mp hp2
          have kj : kvs[j]'(by omega) = pq := ej
          have hi2 := (List.getElem?_eq_some_iff.mp hkv)
          have a1 : (kvs.map (·.1))[j]'(by rw [List.length_map]; omega) = (kvs.map (·.1))[i]'(by rw [List.length_map]; exact hi2.1) := by
            rw [List.getElem_map, List.getElem_map, kj, eq, hi2.2]
          have := (List.getElem_inj kn).mp a1
          omega
        · rw [upd_ne nDe.symm]
          exact he1
        · rw [upd_ne (ne_of_none eb nDH)]
          exact keep b o nb eb
    · rintro H1 ⟨hD, he1, keep⟩
      rw [List.take_of_length_le (Nat.le_refl _)] at hD
      have ok2 := ok.filt y
      refine ⟨he1, D, w, _, _, rfl, w1, w32, by rw [upd_ne nDe]; exact hD, ok2, by have := List.length_filter_le (fun z => decide (z ≠ y)) xs; omega, (q ok2).later fun b o eb => ?_⟩
      by_cases hb : b = e
      · rw [hb, upd_same, ← he, ← hb, eb]
      · rw [upd_ne hb]
        exact keep b o hb eb
end
/-! ### == and != of maps -/
abbrev sEq : Stmt := inClass sCls 6
/-- __eq__ of two maps of one class with the same rows -/
def spEqM (C : Addr) : Sp := fun vs H Q _ => ∃ (x y e e2 : Addr) (w : Nat) (kvs : List (Key × V)), vs = [.ref x, .ref y] ∧ MapAt C H x e w kvs ∧ MapAt C H y e2 w kvs ∧ (kvs.map (·.1)).Nodup ∧ (∀ kv ∈ kvs, flatB kv.2 = true) ∧ Q (.bl true) H
/-- what isinstance and != ask of a class of one's own -/
structure ObjC (K : PySem.W.Frag) (C : Addr) : Prop where
  ca : PySem.W.findIn K (.ref C) "__class__" = some (some (.builtin "object.__class__"))
  cg : PySem.W.specialIn K (.builtin "object.__class__") "__get__" = some (some (.builtin "getset_descriptor.__get__"))
  ct : PySem.W.takesIn K (.builtin "object.__class__") = some true
  ob : PySem.W.mroIn K C (.type "object") = some true
  ne : PySem.W.findIn K (.ref C) "__ne__" = some (some (.builtin "object.__ne__"))
section
variable {P : Program} {w : World} {K : PySem.W.Frag} {mg : Str → Option Value} {base : Heap}
theorem scEq : FnScope ["self", "other"] ["self", "other"] (defScope sEq) := ⟨rfl, rfl, rfl, by decide +kernel, rfl, by decide +kernel, by decide +kernel⟩
theorem ok_eqm {f C D : Addr} {fd : FuncData} {k : Nat} (F : Fun K "__eq__" "PrefixMap.__eq__" sEq f fd) (T : ClsF K C) (mi : mg "isinstance" = none) (mt : mg "type" = none) (mD : mg "PrefixMap" = some (.ref D)) (hk : PySem.W.kitOne K (.ref C) (.ref D) = some true) (hmk : PySem.W.makesIn K C = true) (OC : ObjC K C) :
    FnOk P w K mg base CX0 (k + 1) f fd ["self", "other"] (spEqM C) := by
  refine F.ok scEq (fun vs H Q E h => ?_) (fun cdv A outer s H vs Q E hr h => ?_)
  · obtain ⟨x, y, e, e2, w, kvs, rfl, _⟩ := h
    rfl
  · obtain ⟨x, y, e, e2, w, kvs, rfl, ⟨⟨dx, hx⟩, he⟩, ⟨⟨dy, hy⟩, he2⟩, nd, fl, q⟩ := h
    have hu := hu_of hr
    refine ⟨_, pss_cons (ps_if (pt_not (pt_val (pe_callB call_isi (by rfl) mi (by decide +kernel) (pa_cons (pv 1) (pa_cons (pe_glob (v := .ref D) rfl mD rfl) pa_nil))))) (pss_one (ps_ret pe_bl)) pss_nil)
      (pss_one (ps_ret (pe_and (pe_cmpR op_is_cls (pe_callTy cr_type (by rfl) mt (by decide +kernel) (pa_cons (pv 0) pa_nil)) (pe_callTy cr_type (by rfl) mt (by decide +kernel) (pa_cons (pv 1) pa_nil)) (nomark _))
        (pe_and (pe_cmpR op_eq (pe_fld (pv 0) rfl) (pe_fld (pv 1) rfl) (nomark _)) (pe_one (pe_cmpR (op_eq_dictA (Nat.lt_of_succ_lt hu)) (pe_fld (pv 0) rfl) (pe_fld (pv 1) rfl) (nomark _))))))), ?_⟩
    refine ⟨.ref y, rfl, .ref y, .ref D, .ref C, .ref D, _, rfl, .own _, .base (.ins hy T.cl OC.ca OC.cg OC.ct OC.ob), hk, _, rfl, iteF ?_⟩
    refine ⟨.ref x, rfl, x, C, dx, _, rfl, hx, .ref y, rfl, y, C, dy, _, rfl, hy, C, C, rfl, rfl, .inl rfl, _, rfl, ?_⟩
    rw [decide_eq_true rfl]
    refine iteT ⟨.ref x, rfl, x, C, dx, _, _, rfl, hx, T.cl, T.nW, flds_w _ _, .ref y, rfl, y, C, dy, _, _, rfl, hy, T.cl, T.nW, flds_w _ _, rfl, _, rfl, ?_⟩
    rw [decide_eq_true rfl]
    refine iteT ⟨.ref x, rfl, x, C, dx, _, _, rfl, hx, T.cl, T.nR, flds_r _ _, .ref y, rfl, y, C, dy, _, _, rfl, hy, T.cl, T.nR, flds_r _ _, e, e2, kvs, kvs, rfl, rfl, he, he2, rfl, fun p hp => ⟨valV_some nd (k := p.1) (v := p.2) hp, fl p hp⟩, q⟩
end
section
open PySem.W
variable {M : Model} {P : Program} {w : World} {K : Frag} {A : Around} {E : Value → Shared → Prop} {s : Shared} {x C : Addr} {ox : Obj} {od : Option Obj}
/-- a special method that is a built-in's -/
theorem special_b {name : Str} {id : String} {args : List Value} {Z : Option Value → Shared → Prop} (X : K.In s.heap) (J : InstAt s.heap x ox C od) (hs : findIn K (.ref C) name = some (some (.builtin id))) (S : Slot "object" name id)
    (h : wpAny M A (call (.builtin id) (.ref x :: args)) (fun v => Z (some v)) E s) : wpAny M A (callSpecialIfBound? (.ref x) name args) Z E s := by
  simp only [callSpecialIfBound?, bindSpecialIfBound?]
  refine wpAny_holding (wpAny_bind (wpAny_bind (wpAny_bind (J.type.here ((looks_findIn X hs).here ?_)))))
  simp only [S.bind]
  refine wpAny_bind (wpAny_askSetting (wpAny_ite ?_))
  have done : wpAny M A (call (.builtin id) ([.ref x] ++ args) >>= fun v => pure (some v)) Z E s := wpAny_bind (thn h fun v s' q => wpAny_pure q)
  split
  · exact wpAny_bind (wpAny_pure (wpAny_pure done))
  · exact wpAny_tryCatch (wpAny_bind (wpAny_pure (wpAny_pure done)))
theorem ne_inst {y f : Addr} {oy : Obj} {od' : Option Obj} {Z : Value → Shared → Prop} (X : K.In s.heap) (OC : Kt.ObjC K C) (J : InstAt s.heap x ox C od) (J' : InstAt s.heap y oy C od') (hu : A.units + 1 < cLine) (he : findIn K (.ref C) "__eq__" = some (some (.ref f))) (hf : isFn K (.ref f) = true)
    (h : wpAny (model P w) A.in1 (call (.ref f) [.ref x, .ref y]) (fun v s' => ∃ b, v = .bool b ∧ Z (.bool (!b)) s') E s) : wpAny (model P w) A (richCompare .NotEq (.ref x) (.ref y)) Z E s := by
  have S := PySem.F.cmp_object.ne
  unfold richCompare
  simp only [oneThing_ref]
  refine wpAny_holding (wpAny_bind (wpAny_cRoomFor (Nat.lt_of_succ_lt hu) ?_))
  rw [cmpInfo_NotEq]
  dsimp only
  refine wpAny_bind (J.type.here (wpAny_bind (J'.type.here ?_)))
  simp only [bne_self_eq_false, Bool.false_eq_true, if_false]
  refine wpAny_bind (wpAny_pure ?_)
  simp only [Bool.false_eq_true, if_false]
  refine wpAny_bind ?_
  unfold tryCompare
  have sub : Looks (model P w) s.heap (isInstance (.ref x) (.type "object")) true := J.type.andThen (looks_mroIn X OC.ob)
  refine wpAny_bind (special_b X J OC.ne S (wpAny_call (codeAny_call_builtin S.plain PySem.F.cmpEntry_ne (check_slot PySem.F.cmpKind_ne PySem.F.cmpSplit_ne sub (PySem.F.cmpArgs_ne _ _) ?_))))
  unfold Builtin.«object.__ne__»
  refine wpAny_bind (m := slotArgs "__ne__" 1 _) (wpAny_pure ?_)
  refine wpAny_bind (wpAny_cRoomFor hu ?_)
  refine wpAny_bind (ifBound_K X J he hf (thn h fun v s' q => ?_))
  obtain ⟨b, rfl, q⟩ := q
  refine wpAny_bind (m := truthy (.bool b)) (wpAny_truthy_bool ?_)
  exact wpAny_pure (wpAny_pure (wpAny_pure q))
end
/-- a != b, two instances of a class whose own == promises -/
def rNeI (C : Addr) (sp : Sp) : R2 := fun x y H Q => ∃ a b dx dy fs gs, x = .ref a ∧ y = .ref b ∧ H a = some (.ins C dx fs) ∧ H b = some (.ins C dy gs) ∧ sp [.ref a, .ref b] H (fun v H' => ∃ k, v = .bl k ∧ Q (.bl (!k)) H') E0
theorem op_neI {X : Cx} {C f : Addr} {fd : FuncData} {k : Nat} {ps : List Str} {sp : Sp} (F : FnOk X.prog X.w X.K X.mg X.base CX0 k f fd ps sp) (hr : Room (k + 1) X.A) (OC : ObjC X.K C) (he : PySem.W.findIn X.K (.ref C) "__eq__" = some (some (.ref f))) (hf : PySem.W.isFn X.K (.ref f) = true) (hb : Binds X.K fd ps []) :
    OpR X (compareOp .NotEq) (rNeI C sp) := by
  intro pins s σ H x y v u Q I rx ry h
  obtain ⟨a, b, dx, dy, fs, gs, rfl, rfl, ha, hb', q⟩ := h
  cases rx
  cases ry
  obtain ⟨_, O1, _⟩ := ins_get I.hok ha
  obtain ⟨_, O2, _⟩ := ins_get I.hok hb'
  obtain ⟨_, J1, _⟩ := O1.look
  obtain ⟨_, J2, _⟩ := O2.look
  have hl := F.len _ _ _ _ q
  show wpAny (model X.prog X.w) X.A (richCompare .NotEq (.ref a) (.ref b)) (EP X pins σ Q) X.xe s
  refine ne_inst I.kIn OC J1 J2 (by have := hr.units; omega) he hf (wpAny_call (codeAny_mono (F.run X.A.in1 X.stack s H ⟨[.ref a, .ref b], []⟩ [.ref a, .ref b] [.ref a, .ref b] _ _ hr.in1 I.env0.in1 (by
    have z := hb s [.ref a, .ref b] I.kIn (by simpa using hl)
    simpa using z) (.cons rfl (.cons rfl .nil)) q) fun res s' hq => ?_))
  match res, hq with
  | .ok (.ret r), hq =>
    obtain ⟨z, H', I', rz, k, ez, q'⟩ := I.after hq
    subst ez
    obtain rfl : r = Value.bool k := rz
    exact ⟨k, rfl, .bl (!k), H', I', rfl, q'⟩
theorem kit_own {K : PySem.W.Frag} {C D : Addr} (h1 : PySem.W.isClsIn K D = true) (h2 : PySem.W.typeIn K (.ref D) = some (.type "type")) (h3 : PySem.W.mroIn K C (.ref D) = some true) : PySem.W.kitOne K (.ref C) (.ref D) = some true := by
  unfold PySem.W.kitOne
  split
  · rfl
  · show (if ((PySem.W.clsIn K D).isSome && PySem.W.typeIn K (.ref D) == some (.type "type")) = true then PySem.W.mroIn K C (.ref D) else none) = some true
    rw [if_pos (by rw [show (PySem.W.clsIn K D).isSome = true from h1, h2]; exact beq_self_eq_true _)]
    exact h3
/-! ### the rows put into ascending order, one by one -/
structure KeptAt (kvs : List (Key × V)) (ys : List Str) (i : Nat) (kvs' : List (Key × V)) : Prop where
  keys : kvs'.map (·.1) = (ys.take i).map Sum.inr
  val : ∀ y v, (Sum.inr y, v) ∈ kvs' → valV kvs (.inr y) = some v
theorem KeptAt.nil {kvs : List (Key × V)} {ys : List Str} : KeptAt kvs ys 0 [] := ⟨rfl, fun _ _ h => (List.not_mem_nil h).elim⟩
theorem KeptAt.len {kvs kvs' : List (Key × V)} {ys : List Str} {i : Nat} (h : KeptAt kvs ys i kvs') : kvs'.length ≤ ys.length := by
  have : kvs'.length = ((ys.take i).map Sum.inr : List Key).length := by rw [← h.keys, List.length_map]
  rw [List.length_map, List.length_take] at this
  omega
theorem KeptAt.new {kvs kvs' : List (Key × V)} {ys : List Str} {i : Nat} (h : KeptAt kvs ys i kvs') (nd : ys.Nodup) (hi : i < ys.length) : (Sum.inr ys[i] : Key) ∉ kvs'.map (·.1) := by
  rw [h.keys, List.mem_map]
  rintro ⟨z, hz, e⟩
  obtain ⟨j, hj, ej⟩ := List.mem_take_iff_getElem.mp hz
  have e2 : ys[j]'(by omega) = ys[i] := by rw [ej]; exact Sum.inr.inj e
  have := (List.getElem_inj nd).mp e2
  omega
theorem KeptAt.snoc {kvs kvs' : List (Key × V)} {ys : List Str} {i : Nat} {v : V} (h : KeptAt kvs ys i kvs') (hi : i < ys.length) (hv : valV kvs (.inr ys[i]) = some v) : KeptAt kvs ys (i + 1) (kvs' ++ [(.inr ys[i], v)]) := by
  refine ⟨?_, fun y v' hm => ?_⟩
  · rw [List.map_append, h.keys, List.take_add_one, List.getElem?_eq_getElem hi, List.map_append]
    rfl
  · rcases List.mem_append.mp hm with hm | hm
    · exact h.val y v' hm
    · cases List.mem_singleton.mp hm
      exact hv
theorem KeptAt.put {kvs kvs' : List (Key × V)} {ys : List Str} {i : Nat} {v : V} (h : KeptAt kvs ys i kvs') (nd : ys.Nodup) (hi : i < ys.length) (hv : valV kvs (.inr ys[i]) = some v) : KeptAt kvs ys (i + 1) (putK kvs' (.inr ys[i]) v) := by
  rw [putK_end (h.new nd hi)]
  exact h.snoc hi hv
theorem KeptAt.done {kvs kvs' : List (Key × V)} {xs ys : List Str} {n : Nat} (h : KeptAt kvs ys n kvs') (hn : ys.length ≤ n) (perm : ys.Perm xs) (nd : xs.Nodup) (up : sortedS ys = true) : Sorted xs kvs kvs' ys := by
  have hk : kvs'.map (·.1) = ys.map Sum.inr := by rw [h.keys, List.take_of_length_le hn]
  have kn' : (kvs'.map (·.1)).Nodup := by
    rw [hk]
    exact (perm.nodup_iff.mpr nd).map Sum.inr (fun a b h e => h (Sum.inr.inj e))
  refine ⟨hk, perm, up, fun y hy => ?_⟩
  have hm : (Sum.inr y : Key) ∈ kvs'.map (·.1) := (inr_mem hk _).mpr (perm.mem_iff.mpr hy)
  obtain ⟨p, hp, e⟩ := List.mem_map.mp hm
  obtain ⟨k', v⟩ := p
  have e' : k' = Sum.inr y := e
  subst e'
  rw [valV_some kn' hp, h.val y v hp]
/-- the value of a row that is there -/
theorem val_at {kvs : List (Key × V)} {xs : List Str} (hk : kvs.map (·.1) = xs.map Sum.inr) {y : Str} (hy : y ∈ xs) : ∃ v, valV kvs (.inr y) = some v ∧ (Sum.inr y, v) ∈ kvs := by
  have hkm : (Sum.inr y : Key) ∈ kvs.map (·.1) := (inr_mem hk _).mpr hy
  obtain ⟨v, hval⟩ := Option.isSome_iff_exists.mp (valV_mem.mpr hkm)
  refine ⟨v, hval, ?_⟩
  unfold valV at hval
  obtain ⟨p, hp, e⟩ := Option.map_eq_some_iff.mp hval
  have h1 := List.mem_of_find?_eq_some hp
  have h2 : p.1 = Sum.inr y := by
    have z := List.find?_some hp
    exact of_decide_eq_true z
  rw [← h2, ← e]
  exact h1
theorem upd_free2 {H : Hp} {a b e : Addr} {o u : HO} (h : upd (upd H a o) b u e = none) : e ≠ b ∧ e ≠ a ∧ H e = none := by
  obtain ⟨h1, h2⟩ := upd_free h
  obtain ⟨h3, h4⟩ := upd_free h2
  exact ⟨h1, h3, h4⟩
abbrev sWidthP : Stmt := inClass sCls 3
abbrev sLenM : Stmt := inClass sCls 5
/-- .width; len() -/
def spWidthP (C : Addr) : Sp := fun vs H Q _ => ∃ (x e : Addr) (w : Nat) (kvs : List (Key × V)), vs = [.ref x] ∧ MapAt C H x e w kvs ∧ Q (.int w) H
def spLenM (C : Addr) : Sp := fun vs H Q _ => ∃ (x e : Addr) (w : Nat) (kvs : List (Key × V)), vs = [.ref x] ∧ MapAt C H x e w kvs ∧ Q (.int (kvs.length : Nat)) H
section
variable {P : Program} {w : World} {K : PySem.W.Frag} {mg : Str → Option Value} {base : Heap}
theorem scWidthP : FnScope ["self"] ["self"] (defScope sWidthP) := ⟨rfl, rfl, rfl, by decide +kernel, rfl, by decide +kernel, by decide +kernel⟩
theorem ok_widthP {f C : Addr} {fd : FuncData} {k : Nat} (F : Fun K "width" "PrefixMap.width" sWidthP f fd) (T : ClsF K C) : FnOk P w K mg base CX0 (k + 1) f fd ["self"] (spWidthP C) := by
  refine F.ok scWidthP (fun vs H Q E h => ?_) (fun cdv A outer s H vs Q E hr h => ?_)
  · obtain ⟨x, e, w, kvs, rfl, _⟩ := h
    rfl
  · obtain ⟨x, e, w, kvs, rfl, ⟨⟨dx, hx⟩, he⟩, q⟩ := h
    exact ⟨_, pss_one (ps_ret (pe_fld (pv 0) rfl)), .ref x, rfl, x, C, dx, _, _, rfl, hx, T.cl, T.nW, flds_w _ _, q⟩
theorem scLenM : FnScope ["self"] ["self"] (defScope sLenM) := ⟨rfl, rfl, rfl, by decide +kernel, rfl, by decide +kernel, by decide +kernel⟩
theorem ok_lenM {f C : Addr} {fd : FuncData} {k : Nat} (F : Fun K "__len__" "PrefixMap.__len__" sLenM f fd) (T : ClsF K C) (ml : mg "len" = none) : FnOk P w K mg base CX0 (k + 1) f fd ["self"] (spLenM C) := by
  refine F.ok scLenM (fun vs H Q E h => ?_) (fun cdv A outer s H vs Q E hr h => ?_)
  · obtain ⟨x, e, w, kvs, rfl, _⟩ := h
    rfl
  · obtain ⟨x, e, w, kvs, rfl, ⟨⟨dx, hx⟩, he⟩, q⟩ := h
    exact ⟨_, pss_one (ps_ret (pe_callB call_lenD (by rfl) ml PySem.boot_len (pa_cons (pe_fld (pv 0) rfl) pa_nil))), .ref x, rfl, x, C, dx, _, _, rfl, hx, T.cl, T.nR, flds_r _ _, e, kvs, rfl, he, q⟩
end
/-! ### xs[::-1], {**a, **b} -/
def tRev (K : PySem.W.Frag) (te : TE) (tm : TO) : TE := fun σ H Q => te σ H fun x H1 => tm σ H1 fun l H2 => l = some (-1) ∧ ∃ a xs, x = .ref a ∧ SqL K H2 a xs ∧ ∀ p, H2 p = none → Q (.ref p) (upd H2 p (.lst xs.reverse))
theorem vals_rev {xs : List V} {us : List Value} (r : Vals xs us) : Vals xs.reverse us.reverse := by
  induction r with
  | nil => exact .nil
  | cons h t ih => rw [List.reverse_cons, List.reverse_cons]; exact ih.append (.cons h .nil)
theorem pe_rev {X : Cx} {e m : Expr} {te : TE} {tm : TO} {pos p2 : Pos} (he : PE X e te) (hm : PO X (some m) tm) : PE X (.Subscript e (.Slice none none (some m) p2) pos) (tRev X.K te tm) := by
  refine ⟨fun pins s σ H Q I h => ?_⟩
  refine Subscript_ (thn (he.run pins s σ H _ I h) fun v s1 ⟨x, H1, I1, r1, q1⟩ => ?_)
  refine wpAny_Slice ?_
  rw [evalPart_none]
  refine wpAny_pure (wpAny_pure ?_)
  refine thn (hm.run pins s1 σ H1 _ I1 q1) fun vk s3 ⟨l, H3, I3, pk, q3⟩ => ?_
  obtain ⟨rfl, a, xs, rfl, hx, q⟩ := q3
  cases r1
  have I4 : Inv X pins σ H3 { s3 with heap := s3.heap.push { cls := .type "slice", data := .fields #[.none, .none, vk] } } := I3.kept (t' := s3.toks) fun b ob q => Heap.get?_push_of_some _ q
  obtain ⟨its, r, ht, hz⟩ := I4.list hx
  have hlen := r.length
  show wpAny (model X.prog X.w) X.A (subscriptTail e (.Slice none none (some m) p2) (.ref a) (.ref s3.heap.objs.size)) (EP X pins σ Q) X.xe { s3 with heap := s3.heap.push { cls := .type "slice", data := .fields #[.none, .none, vk] } }
  refine tail_any (ops := [.ref a, .ref s3.heap.objs.size]) ht.isList.typeIs slot_list_getitem.lookup ?_ (by with_unfolding_all rfl)
  refine wpAny_getItem_list_slice ht.isList (Heap.IsSliceOf.new ..) .none .none pk (by simp) ?_ (by rw [List.size_toArray] <;> omega)
  rw [PySem.W.krv_pick]
  refine ⟨.ref _, _, I4.laid (t' := s3.toks) (o := .lst xs.reverse) (fun b ob q => Heap.get?_push_of_some _ q) (Nat.le_refl _) ?_, rfl, q _ (I4.hok.fresh (Nat.le_refl _))⟩
  refine ⟨by rw [List.length_reverse]; exact hz, its.reverse, 0, vals_rev r, ?_⟩
  exact Heap.get?_push_size _ rfl
def tDss (ta tb : TE) : TE := fun σ H Q => ∀ p, H p = none → ta σ (upd H p (.dK [])) fun x H1 => ∃ (a : Addr) (kvs : List (Key × V)), x = .ref a ∧ Rd H1 a (.dK kvs) ∧ a ≠ p ∧ H1 p = some (.dK []) ∧ (kvs.map (·.1)).Nodup ∧ kvs.length < 1000 ∧
  tb σ (upd H1 p (.dK kvs)) fun y H2 => ∃ (b : Addr) (ls : List (Key × V)), y = .ref b ∧ Rd H2 b (.dK ls) ∧ b ≠ p ∧ H2 p = some (.dK kvs) ∧ ls.length < 1000 ∧ Q (.ref p) (upd H2 p (.dK (mergeK kvs ls)))
theorem pe_dss {X : Cx} {a b : Expr} {pos : Pos} {ta tb : TE} (ha : PE X a ta) (hb : PE X b tb) : PE X (.Dict [none, none] [a, b] pos) (tDss ta tb) := by
  refine ⟨fun pins s σ H Q I h => ?_⟩
  rw [arm_eval_Dict]
  refine wpAny_bind (wpAny_standAt ?_)
  show wpAny _ _ (dictDisplay [(none, (eval a X.env >>= fun x => standAt pos >>= fun _ => pure x)), (none, (eval b X.env >>= fun x => standAt pos >>= fun _ => pure x))]) _ _ _
  unfold dictDisplay
  simp only [List.forIn_cons, List.forIn_nil, List.isEmpty_nil, if_true, pure_bind, bind_assoc, List.nil_append, List.length_cons, List.length_nil, Nat.zero_add, Nat.reduceBEq, Bool.false_eq_true, if_false, List.isEmpty_cons]
  refine wpAny_bind (wpAny_alloc ?_)
  have hn : H s.heap.objs.size = none := I.hok.fresh (Nat.le_refl _)
  have I1 := I.laid (a := s.heap.objs.size) (o := .dK []) (h' := s.heap.push { cls := .type "dict", data := .dict #[] }) (t' := s.toks) (fun _ _ q => Heap.get?_push_of_some _ q) (Nat.le_refl _) (dk_empty s.heap I.big)
  refine wpAny_bind (wpAny_holding (wpAny_bind (thn (ha.run pins _ σ _ _ I1 (h _ hn)) fun u s2 ⟨x, H1, I2, rx, a1, kvs, ex, hr1, nap, hp, nd, few, q⟩ => wpAny_bind (wpAny_standAt (wpAny_pure ?_)))))
  subst ex
  obtain rfl : u = Value.ref a1 := rx
  refine wpAny_bind (wpAny_onRaise (wpAny_tryCatch (wpAny_onRaise (wpAny_holding (mergeH I2 hp hr1 nap.symm (by show 0 + kvs.length ≤ 2000; omega) fun s3 I3 => ?_)))))
  rw [mergeK_nd kvs [] (by rw [List.nil_append]; exact nd), List.nil_append] at I3
  refine wpAny_bind (wpAny_holding (wpAny_bind (thn (hb.run pins _ σ _ _ I3 q) fun u2 s4 ⟨y, H2, I4, ry, b1, ls, ey, hr2, nbp, hp2, few2, q2⟩ => wpAny_bind (wpAny_standAt (wpAny_pure ?_)))))
  subst ey
  obtain rfl : u2 = Value.ref b1 := ry
  exact wpAny_bind (wpAny_onRaise (wpAny_tryCatch (wpAny_onRaise (wpAny_holding (mergeH I4 hp2 hr2 nbp.symm (by omega) fun s5 I5 => wpAny_pure ⟨.ref s.heap.objs.size, _, I5, rfl, q2⟩)))))
/-! ### list(d.values()) -/
def tListVals (td : TE) : TE := fun σ H Q => td σ H fun x H1 => ∃ (a : Addr) (kvs : List (Key × V)), x = .ref a ∧ H1 a = some (.dK kvs) ∧ ∀ p, H1 p = none → Q (.ref p) (upd H1 p (.lst (kvs.map (·.2))))
section
variable {X : Cx} {o : Expr} {p pos apos mpos : Pos} {td : TE}
theorem kv_vals {kvs : List (Key × V)} {vs : List (Key × Value)} (r : KV kvs vs) : Vals (kvs.map (·.2)) (vs.map (·.2)) := by
  unfold KV at r
  induction r with
  | nil => exact .nil
  | cons h t ih => exact .cons h.2 ih
theorem pe_listVals (hc : X.calm = true) (hg : Gl X "list") (hm : X.mg "list" = none) (hd : PE X o td) (hbase : attributeBase o "values" X.env (eval o X.env) = eval o X.env := by rfl) (hline : (apos.endLine == mpos.line) = true := by rfl)
    (hse : starEach [Expr.Call (.Attribute o "values" apos) [] [] mpos] X.env = [(false, eval (Expr.Call (.Attribute o "values" apos) [] [] mpos) X.env)] := by rfl) :
    PE X (.Call (.Name "list" p) [.Call (.Attribute o "values" apos) [] [] mpos] [] pos) (tListVals td) := by
  refine ⟨fun pins s σ H Q I h => ?_⟩
  refine wpAny_Call_Name_kw (ld_blt I hg hm (u := .type "list") (by first | rfl | decide +kernel) ?_ (by first | decide +kernel | decide) (by first | decide +kernel | decide))
  refine PyProof.Rows.callWith_type1 (e := .Call (.Attribute o "values" apos) [] [] mpos) ?_ hse rfl
  rw [hse]
  refine Calls.spliced_cons (wpAny_Call_method0_late hbase hline (thn (hd.run pins s σ H _ I h) fun v s1 ⟨x, H1, I1, r1, a, kvs, ex, ha, q⟩ => ?_))
  subst ex
  obtain rfl : v = Value.ref a := r1
  obtain ⟨few, sy, vs, rel, dof⟩ := dk_of I1.hok ha
  obtain ⟨ep, dat⟩ := dof.dictAt
  have dat' := dat
  obtain ⟨ob, es, ho, ex, hdat, hko, hpr, hnd⟩ := dat'
  refine ⟨"dict", "dict.values", PySem.F.plainAttrs_dict, PySem.F.slot_dict_values, PySem.F.type_dict_values, ⟨ob, ho, ex.1⟩, fun b e => ?_, Calls.callWith_builtin rfl (PySem.evalArgs_none ?_)⟩
  · cases e
    exact ⟨ob, ho, ex.2.1⟩
  refine call_meetsIn PySem.F.slot_dict_values ⟨ob, ho, ex.1⟩ PySem.F.entry_dict_values (PySem.F.args_dict_values_1 _) (meets_dict_values (mixKind X.prog X.w) a sy) ⟨⟨vs, dof⟩, ?_⟩
  have k1 : ∀ b u, s1.heap.get? b = some u → (s1.heap.push { cls := .type "dict_values", data := .fields #[.ref a] }).get? b = some u := fun b u e => Heap.get?_push_of_some _ e
  have I2 : Inv X pins σ H1 { s1 with heap := s1.heap.push { cls := .type "dict_values", data := .fields #[.ref a] } } := I1.kept (t' := s1.toks) k1
  refine Calls.spliced_nil ?_
  have n1 : vs.length ≤ sizeLine := by rw [← rel.length]; exact few
  refine PySem.W.kdl_call (PySem.W.kdl_values (knd := mixKind X.prog X.w) (d := a) (kvs := vs) (ep := ep)) (I.ok.hd hc) ⟨⟨_, Heap.get?_push_size _ rfl, rfl, rfl⟩, dat.keep k1⟩ n1 fun h' tk acc c hk hS hacc => ?_
  have ea : acc.toList = vs.map (·.2) := PySem.W.kdl_vals_eq acc.toList (by rw [Array.length_toList]; exact hacc.1) fun j v e => hacc.2 j v (by rw [← Array.getElem?_toList]; exact e)
  exact ⟨.ref _, _, I2.laid (t' := tk) (o := .lst (kvs.map (·.2))) hk (Nat.le_refl _) ⟨by rw [List.length_map]; exact few, acc.toList, c, by rw [ea]; exact kv_vals rel, by rw [Array.toArray_toList]; exact hS⟩, rfl, q _ (I2.hok.fresh (Nat.le_refl _))⟩
end
/-! ### C.m(k = v, ..), m a classmethod of the class C -/
def tCMethK (C : Addr) (sp : Sp) (gV : List V → List V → List V) (ta : TE) (tk : TA) : TE := fun σ H Q => ta σ H fun x H1 => x = .ref C ∧ tk σ H1 fun zs H2 => sp (gV [.ref C] zs) H2 Q E0
section
variable {X : Cx} {k : Nat} {C p g : Addr} {mc : Value} {sp : Sp} {o : Expr} {kws : List Keyword} {m : Str} {pos apos : Pos} {ta : TE} {tk : TA} {fd : FuncData} {ps ks : List Str}
theorem pe_cmethK {pl : Sem Bool} {gv : List Value → List Value → List Value} {hV : List V → List V → List V} (he : PE X o ta) (r : ClX.CRead X.K C mc) (c : ClX.CMet X.K C mc m p g) (F : FnOk X.prog X.w X.K X.mg X.base CX0 k g fd ps sp) (hr : Room k X.A) (hb : KBinds X.K fd ps ks gv hV) (hkw : PK X kws tk)
    (hall : (backToKw pos (keywordEach kws X.env)).all (·.1.isSome) = true := by rfl) (hks : (backToKw pos (keywordEach kws X.env)).filterMap (·.1) = ks := by rfl) (hpl : ((backTo pos (starEach [] X.env)).any (·.1) || (backToKw pos (keywordEach kws X.env)).any (·.1.isNone)) = false := by rfl)
    (ht : eval (.Call (.Attribute o m apos) [] kws pos) X.env = (eval o X.env >>= fun ov => standAt apos.atName >>= fun _ => holding [ov] (getMethod ov m pl) >>= fun q => callWith pos q.1 q.2 (backTo pos (starEach [] X.env)) (backToKw pos (keywordEach kws X.env))) := by rfl) :
    PE X (.Call (.Attribute o m apos) [] kws pos) (tCMethK C sp hV ta tk) := by
  refine ⟨fun pins s σ H Q I h => ?_⟩
  refine PySem.W.methodCall_KW (pl := pl) (thn (he.run pins s σ H _ I h) fun u s1 ⟨x, H1, I1, rx, ex, q⟩ => ?_) ht
  subst ex
  obtain rfl : u = Value.ref C := rx
  refine ClX.getmethcm_ok I1 r c fun s2 I2 => ?_
  refine PySem.W.callWith_of hpl (PySem.W.keeps_M c.fi) (evalArgs_kw2_nil hall (thn (hkw.run pos _ s2 σ H1 _ I2 q) fun ws s3 ⟨zs, H2, I3, rz, q2⟩ => ⟨⟨ClX.pin_at I3, I3.kIn⟩, ?_⟩))
  rw [hks]
  have r2 := hb.rel (us := [.ref C]) (vs := [.ref C]) (.cons rfl .nil) rz
  have hl := F.len _ _ _ _ q2
  have z : wpAny (model X.prog X.w) X.A (call (.ref s1.heap.objs.size) ([] ++ []) (ks.zip ws)) (EP X ((s1.heap.objs.size, PySem.W.methodObj (.ref g) (.ref C)) :: pins) σ Q) X.xe s3 := by
    refine wpAny_call (PySem.W.method_call (ClX.pin_at I3) (codeAny_mono (F.run X.A X.stack s3 H2 ⟨[.ref C], ks.zip ws⟩ (gv [.ref C] ws) _ Q E0 hr I3.env0 (hb.to s3 [.ref C] ws I3.kIn (by rw [← r2.length]; exact hl)) r2 q2) fun res s' hq => ?_))
    match res, hq with
    | .ok (.ret u), hq => exact I3.after hq
  exact thn z fun _ _ y => ClX.unpinE y
end
section
variable {X : Cx} {k : Nat} {C p g : Addr} {mc : Value} {sp : Sp} {o e : Expr} {es : List Expr} {m : Str} {pos apos : Pos} {ta : TE} {t : TA} {fd : FuncData} {ps : List Str}
theorem pe_cmethO {pl : Sem Bool} (he : PE X o ta) (r : ClX.CRead X.K C mc) (c : ClX.CMet X.K C mc m p g) (F : FnOk X.prog X.w X.K X.mg X.base CX0 k g fd ps sp) (hr : Room k X.A) (hb : Binds X.K fd ps []) (ha : PA X (e :: es) t)
    (hst : starEach (e :: es) X.env = (false, eval e X.env) :: starEach es X.env := by rfl) (hpl : (backTo pos (starEach es X.env)).any (·.1) = false := by rfl)
    (ht : eval (.Call (.Attribute o m apos) (e :: es) [] pos) X.env = (do
      let ov ← eval o X.env
      standAt apos.atName
      let (f, first) ← holding [ov] (getMethod ov m pl)
      callWith pos f first (backTo pos (starEach (e :: es) X.env)) (backToKw pos (keywordEach [] X.env))) := by rfl) :
    PE X (.Call (.Attribute o m apos) (e :: es) [] pos) (ClX.tCMeth C sp E0 ta t) :=
  ClX.pe_cmeth he r c ((F.raw hb .nil).imp fun vs H Q E h => by rw [List.append_nil]; exact h) hr pass0 ha hst hpl ht
end
/-! ### generators whose loops do not turn; list(f(..)) -/
theorem ps_dead {X : Cx} {st : Stmt} : PS X st (fun _ _ _ => False) := ⟨fun _ _ _ _ _ _ h => h.elim⟩
theorem pss_dead {X : Cx} {st : List Stmt} : PSs X st (fun _ _ _ => False) := ⟨fun _ _ _ _ _ _ h => h.elim⟩
theorem pe_dead {X : Cx} {e : Expr} : PE X e (fun _ _ _ => False) := ⟨fun _ _ _ _ _ _ h => h.elim⟩
theorem okGen {P : Program} {w : World} {K : PySem.W.Frag} {mg : Str → Option Value} {base : Heap} {x qual : Str} {st : Stmt} {f : Addr} {fd : FuncData} {N ps : List Str} {k : Nat} {sp : SpG} (F : Fun K x qual st f fd) (S : GScope N ps (defScope st)) (len : ∀ vs H Q E, sp vs H Q E → vs.length = ps.length)
    (hbody : ∀ (cdv : Value) (A : Around) (outer : List Env) (s : Shared) (H : Hp) (vs : List V) (Q : List V → Hp → Prop) (E : XK) (pn : List (Addr × Obj)), Room k (A.deeper (envOfC qual (defScope st) s.heap.objs.size f cdv)) → sp vs H Q E →
      ∃ t, PSs (gcxOf P w K mg base N qual (defScope st) f cdv A outer s H E pn) (defBody st) t ∧ t (GEnds.at { nx := fun ys _ H' => Q ys H', rt := fun ys v H' => v = .non ∧ Q ys H' } []) (start N vs) H) : GFn P w K mg base (k + 1) f fd ps sp := by
  obtain ⟨oc, od, kV, doc, pm, an, cdv, ct, osl, rfl, lk, hcd⟩ := F.ex
  refine gfn_of lk hcd S len fun A outer s H vs Q E pn hr hsp => ?_
  obtain ⟨t, h, q⟩ := hbody cdv A outer s H vs Q E pn hr hsp
  exact ⟨tPlain t, gss_pss h, q⟩
def tListGS (sp : SpG) (E : L2.St → XK) (t : TA) : TE := fun σ H Q => t σ H fun vs H1 => sp (vs ++ []) H1 (fun out H2 => ∀ p, H2 p = none → Q (.ref p) (upd H2 p (.lst out))) (E σ)
/-- list(f(..)), also in a try -/
theorem pe_listGS {X : Cx} {k : Nat} {f : Addr} {fd : FuncData} {ps : List Str} {sp : SpG} {E : L2.St → XK} {x nm : Str} {p p2 pos pos' : Pos} {e : Expr} {es : List Expr} {t : TA} (F : GFn X.prog X.w X.K X.mg X.base k f fd ps sp) (hr0 : Room k X.A) (hg0 : Gl X x) (hm0 : X.mg x = some (.ref f)) (hk : PySem.W.keepIn X.K (.ref f) = true) (hb : Binds X.K fd ps [])
    (hx : ∀ σ, PassesAt (CX X.prog X.w) X σ (E σ)) (hns : ∀ σ, NoStop X.K (E σ)) (hr : Room (k + 3) X.A) (hg : Gl X nm) (hmg : X.mg nm = none) (hv : bootBuiltins nm = some (.type "list")) (ha : PA X (e :: es) t)
    (hdb0 : (x == ("__debug__" : Str)) = false := by decide) (he0 : starEach (e :: es) X.env = (false, eval e X.env) :: starEach es X.env := by rfl) (hpl : (backTo pos' (starEach es X.env)).any (·.1) = false := by rfl)
    (hnm : nm ≠ "__name__" := by decide) (hdb : (nm == ("__debug__" : Str)) = false := by decide)
    (he : starEach [Expr.Call (.Name x p2) (e :: es) [] pos'] X.env = (false, eval (Expr.Call (.Name x p2) (e :: es) [] pos') X.env) :: starEach [] X.env := by rfl) : PE X (.Call (.Name nm p) [.Call (.Name x p2) (e :: es) [] pos'] [] pos) (tListGS sp E t) := by
  refine ⟨fun pins s σ H Q I hq => ?_⟩
  have h := (pgen_call (X := X) (E := E σ) (p := p2) (pos' := pos') F hr0 hg0 hm0 hk hb .nil ha hdb0 he0 hpl).run pins s σ H _ I hq
  refine wpAny_Call_Name_kw (ld_blt I hg hmg hv ?_ hnm hdb)
  refine PyProof.Rows.callWith_type1 ?_ he rfl
  rw [he]
  show wpAny _ _ (spliced ((false, eval (Expr.Call (.Name x p2) (e :: es) [] pos') X.env) :: backTo pos (starEach [] X.env))) _ _ s
  refine Calls.spliced_cons (thn h fun u s1 ⟨H1, sc, ex, I1, hex, hG⟩ => ?_)
  refine Calls.spliced_nil ?_
  have hsz : sc.heap.objs.size ≤ s1.heap.objs.size := by
    obtain ⟨a, g, c, _, h1, h2, _⟩ := hG
    exact Nat.le_trans h1 (Nat.le_of_lt h2)
  refine call_list_new hr I1.ok.frames hG (fun S s' acc c H' ys q0 q1 q2 hl q3 q4 q5 q6 q7 q8 => ?_) fun e s' g hc => ?_
  · exact ⟨.ref S, upd H' S (.lst ys), I1.drained (Nat.le_trans hsz q0) hl q1 q2 hex q3 q4 q5 q6 q7, rfl, q8 S q7⟩
  · have kin : X.K.In s'.heap := by
      obtain ⟨a, B, H', cls, d, _, fl, _, ub, _⟩ := id hc
      refine I1.ok.mod.kin.keeps fun b o eb => fl.1 b o (ub.keep b o (I1.bs b o eb).1 (I1.bs b o eb).2 fun hm => ?_)
      rcases List.mem_cons.mp (I1.stkSub b hm) with z | z
      · have h1 := Heap.lt_size eb
        have h2 := Nat.le_trans I1.ok.bsz I1.ok.above
        rw [z] at h1
        exact absurd (Nat.lt_of_lt_of_le h1 h2) (Nat.lt_irrefl _)
      · exact I1.ok.nofr eb z
    refine ⟨notStop_of (hns σ) kin hc, hx σ pins H1 sc e _ I1 ?_⟩
    · obtain ⟨a, B, H', cls, d, z1, fl, z2, ub, z3, z4, z5, z6⟩ := hc
      exact ⟨a, B, H', cls, d, z1, fl, z2, ub, z3, z4, allBare_setGen z5 rfl, z6⟩
/-- in a try: no StopIteration -/
abbrev WNS (K : PySem.W.Frag) (W : WX) : L2.St → XK := fun σ cls d H => W cls d σ H ∧ PySem.W.subIn K cls (.type "StopIteration") = some false
theorem passNS {X : Cx} {W : WX} (tk : Takes X W) (σ : L2.St) : PassesAt (L2.CX X.prog X.w) X σ (WNS X.K W σ) := fun _ _ _ e s' I c => tk e s' (XE.of_call I (fun _ _ _ h => h.1) c)
theorem _root_.L2.GFn.mono {P : Program} {w : World} {K : PySem.W.Frag} {mg : Str → Option Value} {base : Heap} {k k' : Nat} {f : Addr} {fd : FuncData} {ps : List Str} {sp : SpG} (h : GFn P w K mg base k f fd ps sp) (le : k ≤ k') : GFn P w K mg base k' f fd ps sp := by
  refine ⟨h.len, fun A outer s H args us vs Q E hr e0 hb r hsp => codeAny_mono (h.run A outer s H args us vs Q E (hr.mono le) e0 hb r hsp) fun r s' hq => ?_⟩
  cases r with
  | error e => exact hq
  | ok fl =>
    cases fl with
    | ret u =>
      obtain ⟨a, g, c, h1, h2, h3, h4, h5, h6, h7, h8, h9, h10⟩ := hq
      exact ⟨a, g, c, h1, h2, h3, h4, h5, h6, h7, h8, h9, fun A S s2 hr2 => h10 A S s2 (hr2.mono le)⟩
    | next => exact hq
    | brk => exact hq
    | cont => exact hq
/-! ### a generator's for, whose body may yield; a thing that it only reads -/
def tGFor (wi : TI) (g : TG) (tb : TGn) : TGn := fun D ys σ H => wi σ H fun J H1 => ∃ W : Nat → Nat → List V → L2.St → Hp → Prop, (∃ m, W 0 m ys σ H1) ∧ ∀ i m ys σ H, W i m ys σ H →
  (J.stop i H ∧ D.nx ys σ H) ∨ (J.go i H ∧ ∃ N : List V → L2.St → Hp → Prop, (∀ ys' σ' H', N ys' σ' H' → ∃ m', m' < m ∧ W (i + 1) m' ys' σ' H') ∧ ∀ x H', J.yld i H x H' → g x σ H' fun σ2 H2 => tb { D with nx := N, ct := N, bk := D.nx } ys σ2 H2)
theorem _root_.L2.GI.un {X : Cx} {S : Addr} {ip pl : List (Addr × Obj)} {ys : List V} {σ : L2.St} {H : Hp} {s : Shared} (h : GI X S (ip ++ pl) ys σ H s) : GI X S ip ys σ H s := by
  obtain ⟨acc, c, r, I⟩ := h
  exact ⟨acc, c, r, Inv.unpinned (pins := (S, lstObj acc c) :: ip) (pl := pl) I⟩
theorem gs_for {X : Cx} {tg iter : Expr} {body : List Stmt} {wi : TI} {g : TG} {tb : TGn} {pos : Pos} (hp : PassesOwn (model X.prog X.w) X.A X.env X.xe) (hc : X.calm = true) (hi : PI X tg iter wi) (hg : PG X tg g) (hb : GSs X body tb)
    (hs : ∀ x, foldedSetIterable iter X.env x = pure x := by intro _; rfl) : GS X (.For tg iter body [] pos) (tGFor wi g tb) := by
  refine ⟨fun A S ip R n ys s₀ c fs K J gd lv s σ H D gc hn k hI ht => ?_⟩
  rw [exec_For]
  refine seg_bind_wrap (wpAny_standAt ?_)
  refine seg_bind_wrap ?_
  rw [gc.over]
  obtain ⟨acc, cc, r, I⟩ := hI
  refine wpAny_mono (hi.run _ s σ H _ I ht) (fun v s1 h1 => ?_) fun x s' hx => k.exc n s₀ x s' hx
  refine seg_bind_wrap (wpAny_of_eq (hs v) ?_)
  refine seg_bind_wrap (wpAny_standAt ?_)
  refine seg_bind_wrap (wpAny_holding ?_)
  rw [gc.over]
  refine wpAny_mono h1 (fun itv s2 h2 => ?_) fun x s' hx => k.exc n s₀ x s' hx
  obtain ⟨it, fp, tn, Jt, H2, e, I2, T, st2, f2, W, ⟨m0, w0⟩, turn⟩ := h2
  subst e
  have stat : ∀ {acc : Array Value} {cc : Nat} {H' : Hp}, (∀ b ∈ fp, H' b = none) → ∀ b ∈ fp, FpOk X ((S, lstObj acc cc) :: ip) H' b := fun {acc' cc' H'} hn b hb => by
    obtain ⟨_, q1, q2, q3, q4, q5⟩ := f2 b hb
    refine ⟨hn b hb, q1, q2, q3, q4, fun p hp => ?_⟩
    rcases List.mem_append.mp hp with hp | hp
    · exact q5 p (List.mem_append_left _ hp)
    · rcases List.mem_cons.mp hp with hp | hp
      · rw [hp]; exact q5 (S, lstObj acc cc) (List.mem_append_right _ List.mem_cons_self)
      · exact q5 p (List.mem_append_right _ (List.mem_cons_of_mem _ hp))
  have fpS : ∀ b ∈ fp, b ≠ S := fun b hb => ((f2 b hb).2.2.2.2.2 (S, lstObj acc cc) (List.mem_append_right _ List.mem_cons_self)).symm
  refine seg_call fun p => ?_
  have gl := fun (kk : Result → Sem PySem.Fin) => gc_loop (k := kk) (c' := .forLoop tg (.ref it) body [] X.env) (l := lv []) (kp := []) (p := p) gc rfl rfl
  have gl2 := fun (kk : Result → Sem PySem.Fin) => gc_loop (k := kk) (c' := .block [] X.env) (l := lv []) (kp := []) (p := p) gc rfl rfl
  have loop : ∀ (m n : Nat) (ys : List V) (s₀ s : Shared) (i : Nat) (σ : L2.St) (H : Hp), n + ys.length = sizeLine → W i m ys σ H → GI X S ip ys σ H s → tn i s.heap → (∀ b ∈ fp, H b = none) →
      Seg (model X.prog X.w) A R (GY X S) n s₀ (.forLoop tg (.ref it) body [] X.env) ((model X.prog X.w).den (.forLoop tg (.ref it) body [] X.env))
        (.ret (fun r => ((match r with | .ok f => (.pure f : Sem Flow) | .error e => .raise e).onRaise (cameBack X.env)).wrap K J gd lv) none (gd false) (lv []) c p [] :: fs) s := by
    intro m
    induction m using Nat.strongRecOn with
    | ind m ih =>
      intro n ys s₀ s i σ H hn w hI st fr
      have ee : ∀ (n : Nat) (s₀ : Shared) (x : Value) (s' : Shared), X.xe x s' → Seg (model X.prog X.w) A R (GY X S) n s₀ (.forLoop tg (.ref it) body [] X.env)
          ((do noteFrame x X.env; theTreesLotGoes x : Sem Unit).bind (fun _ => .raise x))
          (.ret (fun r => ((match r with | .ok f => (.pure f : Sem Flow) | .error e => .raise e).onRaise (cameBack X.env)).wrap K J gd lv) none (gd false) (lv []) c p [] :: fs) s' := fun n s₀ x s' hx => by
        rw [Sem.bind_eq_wrap]
        refine seg_wrap ?_
        rw [(gl _).over]
        refine wpAny_bind (wpAny_mono (hp x s' hx) (fun _ s'' hcb => wpAny_theTreesLotGoes ?_) fun y s'' hcb => ?_)
        · exact seg_leaf (.error x) (seg_cameBack gc k hcb)
        · exact seg_leaf (.error y) (seg_cameBack gc k hcb)
      obtain ⟨acc, cc, r, I3⟩ := hI
      show Seg _ A R _ n s₀ _ ((forTurn tg (.ref it) body [] X.env).onRaise (fun x => do noteFrame x X.env; theTreesLotGoes x)) _ s
      unfold forTurn
      rw [Sem.onRaise_eq_wrap]
      refine seg_bind_wrap (wpAny_standAt ?_)
      refine seg_bind_wrap (wpAny_onRaise ?_)
      rw [(gl _).over]
      rcases turn i m ys σ H w with ⟨stop, qn⟩ | ⟨go, N, hN, step⟩
      · refine wpAny_mono (T.done X rfl rfl rfl hc i _ s σ H X.xe I3 (stat fr) st stop) (fun r' s4 ⟨hr, I4⟩ => ?_) fun x s' hx => wpAny_standAt (ee n s₀ x s' hx)
        subst hr
        refine seg_again rfl ?_
        show Seg _ A R _ n s₀ _ (do return PySem.Fin.done (← (execs [] X.env).onRaise (fun x => do noteFrame x X.env; theTreesLotGoes x))) _ s4
        refine seg_bind ?_
        refine wpAny_onRaise (wpAny_execs_nil ?_)
        exact seg_leaf (.ok .next) (k.ok n ys s₀ s4 .next hn ⟨σ, H, ⟨acc, cc, r, I4⟩, qn⟩)
      · refine wpAny_mono (T.item X rfl rfl rfl hc i _ s σ H X.xe I3 (stat fr) st go) (fun r' s4 ⟨u, hr, h4⟩ => ?_) fun x s' hx => wpAny_standAt (ee n s₀ x s' hx)
        subst hr
        refine seg_bind_wrap ?_
        rw [(gl _).over]
        refine wpAny_mono h4 (fun _ s5 ⟨x, H5, I5, r5, y5, st5, fr5⟩ => ?_) fun x s' hx => ee n s₀ x s' hx
        have I5' := I5.pinned (stat fr5) (T.obj _ _ st5)
        refine seg_bind_wrap ?_
        rw [(gl _).over]
        refine wpAny_mono (hg.run _ s5 σ H5 x u _ I5' r5 (step x H5 y5)) (fun _ s6 ⟨σ6, H6, I6, q6⟩ => ?_) fun x s' hx => ee n s₀ x s' hx
        rw [Sem.bind_eq_wrap', Sem.wrap_wrap]
        have again : ∀ {n' : Nat} {ys' : List V} {s₀' s7 : Shared} {σ7 : L2.St} {H7 : Hp}, n' + ys'.length = sizeLine → GI X S (ip ++ pinsAt fp s5.heap) ys' σ7 H7 s7 → N ys' σ7 H7 →
            Seg (model X.prog X.w) A R (GY X S) n' s₀' (.forLoop tg (.ref it) body [] X.env) (.pure (.again (.forLoop tg (.ref it) body [] X.env)))
              (.ret (fun r => ((match r with | .ok f => (.pure f : Sem Flow) | .error e => .raise e).onRaise (cameBack X.env)).wrap K J gd lv) none (gd false) (lv []) c p [] :: fs) s7 := fun {n' ys' s₀' s7 σ7 H7} hn' I7 n7 => by
          obtain ⟨m', hm, w7⟩ := hN ys' σ7 H7 n7
          obtain ⟨acc7, cc7, r7, J7⟩ := id I7
          have pin7 : ∀ b ∈ fp, ∀ o, s5.heap.get? b = some o → s7.heap.get? b = some o ∧ H7 b = none := fun b hb o e => by
            obtain ⟨h1, h2, _⟩ := J7.pin (b, o) (List.mem_append_right _ (List.mem_cons_of_mem _ (List.mem_append_right _ (mem_pinsAt hb e))))
            exact ⟨h1, h2⟩
          refine seg_again rfl (ih m' hm n' ys' s₀' s7 (i + 1) σ7 H7 hn' w7 I7.un (T.keep _ _ _ st5 fun b hb o e => (pin7 b hb o e).1) fun b hb => ?_)
          obtain ⟨o, e, _⟩ := T.obj _ _ st5 b hb
          exact (pin7 b hb o e).2
        refine hb.run A S (ip ++ pinsAt fp s5.heap) R n ys s₀ _ _ _ _ _ _ s6 σ6 H6 { D with nx := N, ct := N, bk := D.nx } ⟨gc.pn, fun p hp => ?_, gc.apart, (gl _).over, (gl _).split, (gl _).guard, rfl⟩ hn ⟨fun n' ys' s₀' s7 f hn' hs => ?_, fun n' s₀' x s7 hx => ee n' s₀' x s7 hx⟩ ⟨acc, cc, r, I6⟩ q6
        · rcases List.mem_append.mp hp with hp | hp
          · exact gc.ip p hp
          · exact fpS p.1 (of_pinsAt hp).1
        · cases f with
          | next => obtain ⟨σ7, H7, I7, n7⟩ := hs; exact again hn' I7 n7
          | cont => obtain ⟨σ7, H7, I7, n7⟩ := hs; exact again hn' I7 n7
          | brk => obtain ⟨σ7, H7, I7, q7⟩ := hs; exact seg_leaf (.ok .next) (k.ok n' ys' s₀' s7 .next hn' ⟨σ7, H7, I7.un, q7⟩)
          | ret v => obtain ⟨x7, σ7, H7, I7, r7, q7⟩ := hs; exact seg_leaf (.ok (.ret v)) (k.ok n' ys' s₀' s7 (.ret v) hn' ⟨x7, σ7, H7, I7.un, r7, q7⟩)
  exact loop m0 n ys s₀ s2 0 σ H2 hn w0 ⟨acc, cc, r, I2⟩ st2 fun b hb => (f2 b hb).1
def tGLock (t : TGn) : TGn := fun D ys σ H => ∃ d u, H d = some u ∧ Mut (some u) ∧ ∀ od, t ⟨fun ys' σ' H' => H' d = some (.frz od u) ∧ D.nx ys' σ' (upd H' d u), fun ys' v H' => H' d = some (.frz od u) ∧ D.rt ys' v (upd H' d u), fun ys' σ' H' => H' d = some (.frz od u) ∧ D.bk ys' σ' (upd H' d u), fun ys' σ' H' => H' d = some (.frz od u) ∧ D.ct ys' σ' (upd H' d u)⟩ ys σ (upd H d (.frz od u))
theorem gs_lock {X : Cx} {st : Stmt} {t : TGn} (h : GS X st t) : GS X st (tGLock t) := by
  refine ⟨fun A S ip R n ys s₀ c fs K J gd lv s σ H D gc hn k hI ht => ?_⟩
  obtain ⟨d, u, hd, mu, hw⟩ := ht
  obtain ⟨acc, cc, r, I⟩ := hI
  obtain ⟨od, I1⟩ := I.lock hd mu
  have nf := I.nofrz hd mu
  have un : ∀ {ys' : List V} {σ' : L2.St} {H' : Hp} {s' : Shared}, GI X S ip ys' σ' H' s' → H' d = some (.frz od u) → GI X S ip ys' σ' (upd H' d u) s' := fun {ys' σ' H' s'} q e => by
    obtain ⟨a1, c1, r1, I2⟩ := q
    exact ⟨a1, c1, r1, I2.unlock e nf⟩
  refine h.run A S ip R n ys s₀ c fs K J gd lv s σ _ _ gc hn ⟨fun n' ys' s₀' s' f hn' hs => k.ok n' ys' s₀' s' f hn' ?_, k.exc⟩ ⟨acc, cc, r, I1⟩ (hw od)
  cases f with
  | next => obtain ⟨σ', H', I2, e, q⟩ := hs; exact ⟨σ', _, un I2 e, q⟩
  | brk => obtain ⟨σ', H', I2, e, q⟩ := hs; exact ⟨σ', _, un I2 e, q⟩
  | cont => obtain ⟨σ', H', I2, e, q⟩ := hs; exact ⟨σ', _, un I2 e, q⟩
  | ret v => obtain ⟨x, σ', H', I2, rr, e, q⟩ := hs; exact ⟨x, σ', _, un I2 e, rr, q⟩
section
variable {J : It} {n : Nat} {G : Hp → Prop} {Y : Nat → Hp → V → Hp → Prop}
theorem gfor_it (w : Walk J n G Y) {g : TG} {tb : TGn} {D : GEnds} {ys : List V} {σ : L2.St} {H : Hp} (Pv : Nat → List V → L2.St → Hp → Prop) (h0 : Pv 0 ys σ H) (hG : ∀ i ys σ H, i ≤ n → Pv i ys σ H → G H)
    (hs : ∀ i x ys σ H H', i < n → Pv i ys σ H → Y i H x H' → g x σ H' fun σ2 H2 => tb { D with nx := Pv (i + 1), ct := Pv (i + 1), bk := D.nx } ys σ2 H2) (hd : ∀ ys σ H, Pv n ys σ H → D.nx ys σ H) :
    ∃ W : Nat → Nat → List V → L2.St → Hp → Prop, (∃ m, W 0 m ys σ H) ∧ ∀ i m ys σ H, W i m ys σ H →
      (J.stop i H ∧ D.nx ys σ H) ∨ (J.go i H ∧ ∃ N : List V → L2.St → Hp → Prop, (∀ ys' σ' H', N ys' σ' H' → ∃ m', m' < m ∧ W (i + 1) m' ys' σ' H') ∧ ∀ x H', J.yld i H x H' → g x σ H' fun σ2 H2 => tb { D with nx := N, ct := N, bk := D.nx } ys σ2 H2) := by
  refine ⟨fun i m ys σ H => m + i = n ∧ Pv i ys σ H, ⟨n, rfl, h0⟩, ?_⟩
  rintro i m ys σ H ⟨hm, pv⟩
  have gH := hG i ys σ H (by omega) pv
  rcases Nat.lt_or_ge i n with hlt | hge
  · refine .inr ⟨w.goes i H hlt gH, Pv (i + 1), fun ys' σ' H' q => ⟨m - 1, by omega, by omega, q⟩, fun x H' y => hs i x ys σ H H' hlt pv (w.yields i H x H' hlt gH y)⟩
  · obtain rfl : i = n := by omega
    exact .inl ⟨w.stops H gH, hd ys σ H pv⟩
end
theorem okGenS {P : Program} {w : World} {K : PySem.W.Frag} {mg : Str → Option Value} {base : Heap} {x qual : Str} {st : Stmt} {f : Addr} {fd : FuncData} {N ps : List Str} {k : Nat} {sp : SpG} (F : Fun K x qual st f fd) (S : GScope N ps (defScope st)) (len : ∀ vs H Q E, sp vs H Q E → vs.length = ps.length)
    (hbody : ∀ (cdv : Value) (A : Around) (outer : List Env) (s : Shared) (H : Hp) (vs : List V) (Q : List V → Hp → Prop) (E : XK) (pn : List (Addr × Obj)), Room k (A.deeper (envOfC qual (defScope st) s.heap.objs.size f cdv)) → sp vs H Q E →
      ∃ t, GSs (gcxOf P w K mg base N qual (defScope st) f cdv A outer s H E pn) (defBody st) t ∧ t { nx := fun ys _ H' => Q ys H', rt := fun ys v H' => v = .non ∧ Q ys H' } [] (start N vs) H) : GFn P w K mg base (k + 1) f fd ps sp := by
  obtain ⟨oc, od, kV, doc, pm, an, cdv, ct, osl, rfl, lk, hcd⟩ := F.ex
  exact gfn_of lk hcd S len fun A outer s H vs Q E pn hr hsp => hbody cdv A outer s H vs Q E pn hr hsp
/-! ### walk -/
abbrev sWalk : Stmt := inClass sCls 7
theorem scWalk : GScope ["self", "prefix", "value"] ["self"] (defScope sWalk) := ⟨rfl, rfl, rfl, by decide +kernel, rfl, by decide +kernel, by decide +kernel⟩
def spWalk (C : Addr) : SpG := fun vs H Q _ => ∃ (x e : Addr) (w : Nat) (kvs : List (Key × V)), vs = [.ref x] ∧ MapAt C H x e w kvs ∧ kvs.length ≤ 4000 ∧
  ∀ (ts : List Addr) (H' : Hp), Same H H' → Paired (fun t (kv : Key × V) => H' t = some (.tup [kV kv.1, kv.2])) ts kvs → Q (ts.map V.ref) H'
theorem ok_walk {P : Program} {w : World} {K : PySem.W.Frag} {mg : Str → Option Value} {base : Heap} {f C : Addr} {fd : FuncData} {k : Nat} (F : Fun K "walk" "PrefixMap.walk" sWalk f fd) (T : ClsF K C) : GFn P w K mg base (k + 1) f fd ["self"] (spWalk C) := by
  refine okGenS F scWalk (fun vs H Q E h => ?_) (fun cdv A outer s H vs Q E pn hr h => ?_)
  · obtain ⟨x, e, w, kvs, rfl, _⟩ := h
    rfl
  · obtain ⟨x, e, w, kvs, rfl, ⟨⟨dx, hx⟩, he⟩, few, q⟩ := h
    have nd := scWalk.nd
    refine ⟨_, gss_cons (gs_lock (gs_for owns_gcx rfl (pi_items (pe_fld (pv 0) rfl)) (pg_tup rfl (pgs_cons (pg_name (i := 1) nd rfl (.inl rfl)) (pgs_cons (pg_name (i := 2) nd rfl (.inl rfl)) pgs_nil)))
      (gss_cons (gs_yield (pe_tup (pa_cons (pv 1) (pa_cons (pv 2) pa_nil)))) gss_nil))) gss_nil, ?_⟩
    have xe : x ≠ e := ne_of hx he (fun z => nomatch z)
    refine ⟨e, .dK kvs, he, trivial, fun od => ?_⟩
    refine ⟨.ref x, rfl, x, C, dx, _, _, rfl, by rw [upd_ne xe]; exact hx, T.cl, T.nR, flds_r _ _, e, od, kvs, rfl, upd_same, ?_⟩
    have hef := upd_same (H := H) (a := e) (o := .frz od (.dK kvs))
    have kp : ∀ b o, b ≠ e → H b = some o → (upd H e (.frz od (.dK kvs))) b = some o := fun b o nb eb => by rw [upd_ne nb]; exact eb
    have fr : ∀ b, (upd H e (.frz od (.dK kvs))) b = none → b ≠ e := fun b nb => (upd_free nb).1
    revert hef kp fr
    generalize upd H e (.frz od (.dK kvs)) = Hf
    intro hef kp fr
    refine gfor_it walk_items (fun i ys σ H' => (∃ x1 x2, σ = [some (.ref x), x1, x2]) ∧ ∃ ts : List Addr, ys = ts.map V.ref ∧ Same Hf H' ∧ Paired (fun t (kv : Key × V) => H' t = some (.tup [kV kv.1, kv.2]) ∧ t ≠ e) ts (kvs.take i)) ⟨⟨_, _, rfl⟩, [], rfl, Same.refl _, .nil⟩ (fun _ _ _ _ _ h => by obtain ⟨_, _, _, s, _⟩ := h; exact s _ _ hef) ?_ ?_
    · rintro i v ys σ H1 H2 hi ⟨⟨x1, x2, rfl⟩, ts, rfl, s1, pr⟩ ⟨T0, a, b, rfl, nT, rfl, ea, eb⟩
      obtain ⟨kv, hkv⟩ : ∃ kv, kvs[i]? = some kv := ⟨kvs[i], List.getElem?_eq_getElem hi⟩
      dsimp only at ea eb
      rw [hkv] at ea eb
      cases ea
      cases eb
      have lt := prd_len pr
      rw [List.length_take] at lt
      have s2 := same_upd (o := .tup [kV kv.1, kv.2]) nT
      refine ⟨T0, _, rfl, SqT.of upd_same, rfl, _, _, rfl, _, _, rfl, rfl, ?_⟩
      refine ⟨Nat.lt_of_le_of_lt (show _ ≤ 4000 by rw [List.length_map]; omega) (by decide), _, rfl, _, rfl, by show 2 ≤ sizeLine; decide, fun p np => ?_⟩
      have s3 := s2.trans (same_upd (o := .tup [kV kv.1, kv.2]) np)
      refine ⟨⟨_, _, rfl⟩, ts ++ [p], by rw [List.map_append]; rfl, s1.trans s3, ?_⟩
      rw [List.take_add_one, hkv]
      exact prd_snoc (pr.mono fun t kv h => ⟨s3 _ _ h.1, h.2⟩) ⟨upd_same, fr p (by
        cases z : Hf p with
        | none => rfl
        | some o => exact absurd (s2 _ _ (s1 _ _ z)) (by rw [np]; exact fun z => nomatch z))⟩
    · rintro ys σ H1 ⟨⟨x1, x2, rfl⟩, ts, rfl, s1, pr⟩
      rw [List.take_length] at pr
      refine ⟨s1 _ _ hef, q ts _ (fun b o eb => ?_) (pr.mono fun t kv h => by rw [upd_ne h.2]; exact h.1)⟩
      by_cases hb : b = e
      · rw [hb, upd_same, ← he, ← hb, eb]
      · rw [upd_ne hb]
        exact s1 _ _ (kp b o hb eb)
/-- list(o.m()) of a generator method -/
theorem pe_listM {X : Cx} {k : Nat} {f C : Addr} {fd : FuncData} {ps : List Str} {sp : SpG} {m nm : Str} {p pos pos' apos : Pos} {o : Expr} {ta : TE} (he : PE X o ta) (c : Cls X.K C) (hm : Meth X.K C m f) (F : GFn X.prog X.w X.K X.mg X.base k f fd ps sp) (hr0 : Room k X.A) (hb : Binds X.K fd ps []) (hr : Room (k + 3) X.A) (hg : Gl X nm) (hmg : X.mg nm = none) (hv : bootBuiltins nm = some (.type "list"))
    {pl : Sem Bool} (ht : eval (.Call (.Attribute o m apos) [] [] pos') X.env = (do
      let ov ← eval o X.env
      standAt apos.atName
      let (f, first) ← holding [ov] (getMethod ov m pl)
      callWith pos' f first (backTo pos' (starEach [] X.env)) (backToKw pos' (keywordEach [] X.env))) := by rfl)
    (hnm : nm ≠ "__name__" := by decide) (hdb : (nm == ("__debug__" : Str)) = false := by decide) (hst : starEach [Expr.Call (.Attribute o m apos) [] [] pos'] X.env = (false, eval (Expr.Call (.Attribute o m apos) [] [] pos') X.env) :: starEach [] X.env := by rfl) :
    PE X (.Call (.Name nm p) [.Call (.Attribute o m apos) [] [] pos'] [] pos) (tListG (tMethG C m sp [] E0 ta tNil)) :=
  pe_listG (pgen_meth0 (pl := pl) he c hm F hr0 hb .nil ht) (passes_call takes0 (fun _ _ _ _ h => h)) (fun _ _ _ h => h.elim) hr hg hmg hv hnm hdb hst
/-! ### len of an instance whose class has its own -/
theorem special_own {M : Model} {K : PySem.W.Frag} {A : Around} {E : Value → Shared → Prop} {s : Shared} {x C f : Addr} {ox : Obj} {od : Option Obj} {name : Str} {args : List Value} {Q : Option Value → Shared → Prop} (X : K.In s.heap) (I : PySem.W.InstAt s.heap x ox C od)
    (hs : PySem.W.findIn K (.ref C) name = some (some (.ref f))) (hf : PySem.W.isFn K (.ref f) = true) (h : wpAny M A (call (.ref f) (.ref x :: args)) (fun v s' => Q (some v) s') E s) : wpAny M A (callSpecial? (.ref x) name args) Q E s := by
  unfold callSpecial? specialOf
  refine wpAny_bind (wpAny_bind (I.type.here ((PySem.W.looks_findIn X hs).here ?_)))
  refine wpAny_holding ?_
  refine wpAny_bind ((PySem.W.bind_fn X _ (beq_iff_eq.mp hf)).here ?_)
  exact wpAny_bind (wpAny_mono h (fun v s' q => wpAny_pure q) fun _ _ q => q)
def rLenI (C : Addr) (sp : Sp) : List V → Hp → VK → Prop := fun xs H Q => ∃ a dx fs, xs = [.ref a] ∧ H a = some (.ins C dx fs) ∧ sp [.ref a] H (fun v H' => ∃ n : Nat, v = .int n ∧ n < 1000000 ∧ Q (.int n) H') E0
theorem call_lenI {X : Cx} {C f : Addr} {fd : FuncData} {k : Nat} {ps : List Str} {sp : Sp} (F : FnOk X.prog X.w X.K X.mg X.base CX0 k f fd ps sp) (hr : Room (k + 1) X.A) (he : PySem.W.findIn X.K (.ref C) "__len__" = some (some (.ref f))) (hf : PySem.W.isFn X.K (.ref f) = true) (hb : Binds X.K fd ps []) :
    CallR X (.builtin "len") (rLenI C sp) := by
  intro pins s σ H xs us Q I r h
  obtain ⟨a, dx, fs, rfl, ha, q⟩ := h
  rw [Vals.ref1 r]
  obtain ⟨_, O1, _⟩ := ins_get I.hok ha
  obtain ⟨_, J1, _⟩ := O1.look
  refine Calls.call_function_entry kind_len plain_len entry_len (args_len1 _) ?_
  unfold Builtin.«len»
  refine wpAny_bind (m := oneArg "len" _) (wpAny_pure ?_)
  refine wpAny_bind (special_own I.kIn J1 he hf ?_)
  have e0 := I.env0
  have e1 : Env0 X.prog X.w X.K X.mg X.base X.A.in1 X.stack s H := ⟨e0.frames, e0.mod, e0.bs, e0.bsz, e0.funs, e0.frf, e0.hok, e0.bare⟩
  have hr1 : Room k X.A.in1 := by
    obtain ⟨h1, h2, h3⟩ := hr
    refine ⟨h1, ?_, ?_⟩
    · show X.A.depth + 3 * k + 5 < recursionLimit
      omega
    · show X.A.units + 1 + 16 * k + 200 < cLine
      omega
  have hl : ([Value.ref a] ++ []).length = ps.length := F.len _ _ _ _ q
  refine wpAny_call (codeAny_mono (F.run X.A.in1 X.stack s H ⟨[.ref a], []⟩ [.ref a] [.ref a] _ E0 hr1 e1 (hb s [.ref a] I.kIn hl) (.cons rfl .nil) q) fun res s' hq => ?_)
  match res, hq with
  | .ok (.ret u), hq =>
    obtain ⟨v, H', I', rv, n, ev, hn, q'⟩ := I.after (Q := fun v H' => ∃ n : Nat, v = .int n ∧ n < 1000000 ∧ Q (.int n) H') hq
    subst ev
    obtain ⟨t, rfl⟩ := rv
    refine wpAny_bind (wpAny_holding (wpAny_pure ?_))
    refine wpAny_bind (wpAny_letGo ?_)
    dsimp only
    rw [if_neg (show ¬ ((n : Nat) : Int) < 0 by omega), if_neg (show ¬ ((n : Nat) : Int) ≥ 2 ^ 63 by omega)]
    exact wpAny_bind (wpAny_mkInt (wpAny_pure ⟨_, rfl, .int n, H', I'.tok _, ⟨_, rfl⟩, q'⟩))
/-! ### sorted(xs) of pairs, sorted(d.items()) -/
theorem each_self {α : Type} {R : Value → α → Prop} (f : α → Value) : ∀ (zs : List α), (∀ z ∈ zs, R (f z) z) → PySem.W.EachIs R (zs.map f) zs
  | [], _ => .nil
  | z :: zs, h => .cons (h z List.mem_cons_self) (each_self f zs fun y hy => h y (List.mem_cons_of_mem _ hy))
theorem each_eq {α : Type} {f : α → Value} : ∀ {vs : List Value} {zs : List α}, PySem.W.EachIs (fun v z => v = f z) vs zs → vs = zs.map f
  | _, _, .nil => rfl
  | _, _, .cons h t => by rw [h, each_eq t]; rfl
def prS (e : Str × Str) : PyData := .tuple [.str e.1, .str e.2]
def prI (e : Int × Str) : PyData := .tuple [.int e.1, .str e.2]
def leIS (a b : Int × Str) : Prop := a.1 < b.1 ∨ (a.1 = b.1 ∧ LeS a.2 b.2)
theorem leIS_anti {a b : Int × Str} (h : leIS a b) (h' : leIS b a) : a = b := by
  obtain ⟨i, x⟩ := a
  obtain ⟨j, y⟩ := b
  rcases h with h | ⟨h1, h2⟩ <;> rcases h' with h' | ⟨h3, h4⟩
  · exact absurd h (by omega)
  · have : i < j := h; have : j = i := h3; omega
  · have : i = j := h1; have : j < i := h'; omega
  · have e1 : i = j := h1
    have e2 : x = y := leS_anti h2 h4
    rw [e1, e2]
theorem le_prI {a b : Int × Str} (h : PySem.W.dataLe false prI a b = true) : leIS a b := by
  have h2 : (!PySem.W.dataLt (prI b) (prI a)) = true := h
  unfold prI at h2
  rw [PySem.W.dataLt_pair (by simp [PySem.W.alike]) (by simp [PySem.W.alike]), PySem.W.dataLt_int, PySem.W.dataLt_str] at h2
  simp only [PyData.eqv, beq_iff_eq] at h2
  unfold leIS
  by_cases e : b.1 = a.1
  · rw [if_pos e] at h2
    refine .inr ⟨e.symm, ?_⟩
    by_cases e2 : b.2 = a.2
    · rw [e2]; exact List.le_refl _
    · rw [if_neg e2] at h2
      have : ¬ (sg b.2 < sg a.2) := by simpa using h2
      exact List.not_lt.mp this
  · rw [if_neg e] at h2
    have : ¬ (b.1 < a.1) := by simpa using h2
    exact .inl (by omega)
theorem le_prS {a b : Str × Str} (h : PySem.W.dataLe false prS a b = true) : LeS a.1 b.1 := by
  have h2 : (!PySem.W.dataLt (prS b) (prS a)) = true := h
  unfold prS at h2
  rw [PySem.W.dataLt_pair (by simp [PySem.W.alike]) (by simp [PySem.W.alike]), PySem.W.dataLt_str, PySem.W.dataLt_str] at h2
  simp only [PyData.eqv, beq_iff_eq] at h2
  by_cases e : b.1 = a.1
  · rw [e]; exact List.le_refl _
  · rw [if_neg e] at h2
    have : ¬ (sg b.1 < sg a.1) := by simpa using h2
    exact List.not_lt.mp this
theorem depth_prI (e : Int × Str) : (prI e).depth ≤ 3 := by
  unfold prI
  simp only [PyData.depth, PyData.depthAll]
  decide
theorem alike_prI (l : List (Addr × Int × Str)) : PySem.W.AllAlike (l.map fun z => prI z.2) := PySem.W.AllAlike.of fun b b' => by simp [prI, PySem.W.alike, PySem.W.alikeAll]
/-- sorted(xs) of tuples (int, text) -/
def rSortIS (K : PySem.W.Frag) : List V → Hp → VK → Prop := fun xs H Q => ∃ (a : Addr) (zs : List (Addr × Int × Str)), xs = [.ref a] ∧ SqL K H a (zs.map fun z => V.ref z.1) ∧ zs.length ≤ 4000 ∧ (∀ z ∈ zs, SqT K H z.1 [.int z.2.1, .str z.2.2]) ∧
  ∀ (p : Addr) (us : List (Addr × Int × Str)), H p = none → us.Perm zs → us.Pairwise (fun a b => leIS a.2 b.2) → Q (.ref p) (upd H p (.lst (us.map fun z => V.ref z.1)))
theorem cr_sortIS {X : Cx} (hu : X.A.units + 64 < cLine) : CallR X (.builtin "sorted") (rSortIS X.K) := by
  intro pins s σ H vs us Q I r h
  obtain ⟨a, zs, rfl, hs, few, hz, q⟩ := h
  obtain ⟨its, rv, hl, hzz⟩ := I.list hs
  obtain ⟨u, rfl, ru⟩ := vals1 r
  obtain rfl : u = Value.ref a := ru
  have ei : its = zs.map fun z => Value.ref z.1 := by
    have e : (zs.map fun z => V.ref z.1) = (zs.map (·.1)).map V.ref := by rw [List.map_map]; rfl
    rw [e] at rv
    rw [refs_at rv, List.map_map]
    rfl
  subst ei
  refine PySem.W.sorted_data (bs := zs) (enc := fun z => prI z.2) (R := fun v z => v = .ref z.1) hl.isList (each_self _ zs fun _ _ => rfl) (each_self _ zs fun z hz' => ?_) (alike_prI _) (.tuples fun b => ⟨_, _, rfl⟩) (Nat.le_trans few (by decide)) (fun b _ => by have := depth_prI b.2; omega) fun out hlen ho => ?_
  · obtain ⟨its, rv, ⟨o, ho, hc, n, hd⟩, _⟩ := I.tuple (hz z hz')
    obtain ⟨u1, u2, rfl, ⟨t1, rfl⟩, ⟨t2, rfl⟩⟩ := vals2 rv
    exact ⟨_, Reads.tuple ho hc hd (.cons (.int _ t1) (.cons (.str _ t2) .nil))⟩
  · obtain rfl := each_eq (f := fun z : Addr × Int × Str => Value.ref z.1) ho
    have pz : (zs.mergeSort (PySem.W.dataLe false fun z : Addr × Int × Str => prI z.2)).Perm zs := List.mergeSort_perm _ _
    have pw := PySem.W.sort_pairwise (PySem.W.sortLe_total (PyProof.Rows.listOrd PyProof.Rows.itemOrd) false fun z : Addr × Int × Str => PySem.W.keyToks (prI z.2)) zs
    obtain ⟨n, hn⟩ := sortedAll_at s.heap (zs.map fun z => Value.ref z.1) (List.toArray ((zs.mergeSort (PySem.W.dataLe false fun z : Addr × Int × Str => prI z.2)).map fun z => Value.ref z.1))
    have nf : H (s.heap.objs.size + 1) = none := I.hok.fresh (Nat.le_succ _)
    refine ⟨.ref (s.heap.objs.size + 1), _, I.laid (o := .lst ((zs.mergeSort (PySem.W.dataLe false fun z : Addr × Int × Str => prI z.2)).map fun z => V.ref z.1)) (t' := s.toks) (fun b o e => sortedAll_old e) (Nat.le_succ _) ⟨?_, _, n, vals_maps (fun z : Addr × Int × Str => V.ref z.1) (fun z => Value.ref z.1) _ fun _ _ => rfl, hn⟩, rfl, q _ _ nf pz (pw.imp fun h => le_prI h)⟩
    rw [List.length_map, pz.length_eq]
    exact Nat.le_trans few (by decide)
/-! d.items() -/
theorem mt_itemsK {X : Cx} : MtR X "dict.items" (fun x xs H Q => ∃ (a : Addr) (kvs : List (Key × V)), x = .ref a ∧ xs = [] ∧ H a = some (.dK kvs) ∧ ∀ p, H p = none → Q (.ref p) (upd H p (DX.itemsO p a))) := by
  intro pins s σ H x xs v us Q I rx rxs h
  obtain ⟨a, kvs, rfl, rfl, ha, q⟩ := h
  cases rx
  cases rxs
  obtain ⟨z, hd, xs', rel, o, es, ep, ho, hx, hdat, _⟩ := dk_of I.hok ha
  refine DT.callItems (es := es) (ep := ep) hd ⟨o, ho, hx, hdat⟩ ?_
  have hf : H s.heap.objs.size = none := I.hok.fresh (Nat.le_refl _)
  exact ⟨.ref s.heap.objs.size, upd H s.heap.objs.size (DX.itemsO s.heap.objs.size a), I.laid (t' := s.toks) (fun b u e => Heap.get?_push_of_some _ e) (Nat.le_refl _) (DX.itemsO_ok (Heap.get?_push_size _ rfl)), rfl, q _ hf⟩
def txK (es : List (Str × Str)) : List (Key × V) := es.map fun e => (.inr e.1, .str e.2)
def rSortIt2 : List V → Hp → VK → Prop := fun vs H Q => ∃ (p a : Addr) (es : List (Str × Str)), vs = [.ref p] ∧ H p = some (DX.itemsO p a) ∧ H a = some (.dK (txK es)) ∧
  ∀ (H' : Hp) (l : Addr) (zs : List (Addr × Str × Str)), Same H H' → H l = none → H' l = some (.lst (zs.map fun z => V.ref z.1)) → (zs.map (·.2)).Perm es → zs.Pairwise (fun a b => LeS a.2.1 b.2.1) → (∀ z ∈ zs, H z.1 = none ∧ H' z.1 = some (.tup [.str z.2.1, .str z.2.2])) → Q (.ref l) H'
theorem depth_prS (e : Str × Str) : (prS e).depth ≤ 3 := by
  unfold prS
  simp only [PyData.depth, PyData.depthAll]
  decide
theorem alike_prS (l : List (Addr × Str × Str)) : PySem.W.AllAlike (l.map fun z => prS z.2) := PySem.W.AllAlike.of fun b b' => by simp [prS, PySem.W.alike, PySem.W.alikeAll]
theorem tx_at {es : List (Str × Str)} {vs : List (Key × Value)} (r : KV (txK es) vs) {j : Nat} {q : Key × Value} (h : vs[j]? = some q) : ∃ e, es[j]? = some e ∧ q.1 = .inr e.1 ∧ RelV (.str e.2) q.2 := by
  obtain ⟨e0, h0, h1, h2⟩ := DX.pget r h
  unfold txK at h0
  rw [List.getElem?_map] at h0
  obtain ⟨e, he, rfl⟩ := Option.map_eq_some_iff.mp h0
  exact ⟨e, he, h1.symm, h2⟩
theorem cr_sortIt2 {X : Cx} (hc : X.calm = true) (hu : X.A.units + 64 < cLine) : CallR X (.builtin "sorted") rSortIt2 := by
  intro pins s σ H vs us Q I r h
  obtain ⟨p, a, es, rfl, hp, ha, q⟩ := h
  obtain rfl := Vals.ref1 r
  have view : s.heap.IsItemsView p a := (show ObjOk X.prog X.w H s.heap p (DX.itemsO p a) from I.hok p _ hp).1
  obtain ⟨z, hd, xs', rel, o, ds, ep, ho, hx, hdat, hks, hps, hn⟩ := dk_of I.hok ha
  have l1 : es.length = xs'.length := by
    have := Paired.length rel
    unfold txK at this
    rwa [List.length_map] at this
  have z' : es.length ≤ sizeLine := by unfold txK at z; rwa [List.length_map] at z
  have l2 : ds.size = es.length := by rw [← Array.length_toList, hps.length, l1]
  have hh : X.A.handled = none := I.ok.hd hc
  refine DT.sortedI (es := ds) (ep := ep) hh view ⟨o, ho, hx, hdat⟩ (by rw [l2]; exact z') fun h' tk as hk hlt hl hG => ?_
  have lak : as.length = es.length := by omega
  have nd : as.Nodup := List.Pairwise.imp (fun h => Nat.ne_of_lt h) hG.rise
  have pr : ∀ (j : Nat) (b : Addr), as[j]? = some b → ∃ (e : Str × Str) (t1 t2 : Tok), es[j]? = some e ∧ h'.get? b = some { cls := .type "tuple", data := .seq #[Value.str e.1 t1, Value.str e.2 t2] } := by
    intro j b hj
    obtain ⟨en, he, hg⟩ := hG.pairs j b hj
    have jl : j < xs'.length := by rw [← l1, ← lak]; exact (List.getElem?_eq_some_iff.mp hj).1
    have hx' := List.getElem?_eq_getElem jl
    obtain ⟨e, he', k1, k2⟩ := tx_at rel hx'
    obtain ⟨g1, g2⟩ := hps.get? (i := j) (by rw [Array.getElem?_toList]; exact he) hx'
    have g1' : keyIs (.inr e.1) en.key = true := by rw [← k1]; exact g1
    obtain ⟨t2, e2⟩ := k2
    rcases keyIs_shape g1' with ⟨_, _, q, _⟩ | ⟨y, t1, q, e1⟩
    · cases q
    · cases q
      refine ⟨e, t1, t2, he', ?_⟩
      have g3 : (xs'.get ⟨j, jl⟩).2 = Value.str e.2 t2 := e2
      rw [hg, e1, g2, g3]
  have hob : (h'.push { cls := .type "list", data := .seq (as.map Value.ref).toArray }).get? h'.objs.size = some (seqObj "list" (as.map Value.ref).toArray 0) := Heap.get?_push_size _ rfl
  have kb : ∀ b o, s.heap.get? b = some o → (h'.push { cls := .type "list", data := .seq (as.map Value.ref).toArray }).get? b = some o := fun b o e => Heap.get?_push_of_some _ (hk b o e)
  have ne0 : ∀ b o, h'.get? b = some o → b ≠ h'.objs.size := fun b o e => Nat.ne_of_lt (Heap.lt_size e)
  generalize hh2 : h'.push { cls := .type "list", data := .seq (as.map Value.ref).toArray } = h2 at hob kb ⊢
  have ka : ∀ b o, h'.get? b = some o → h2.get? b = some o := fun b o e => by rw [← hh2]; exact Heap.get?_push_of_some _ e
  have em : (as.zip es).map (fun z => Value.ref z.1) = as.map Value.ref := by
    have : (as.zip es).map (fun z => Value.ref z.1) = ((as.zip es).map (·.1)).map Value.ref := by rw [List.map_map]; rfl
    rw [this, List.map_fst_zip (by omega)]
  have es2 : (as.zip es).map (·.2) = es := List.map_snd_zip (by omega)
  have zl : (as.zip es).length = es.length := by rw [List.length_zip]; omega
  have rd : ∀ z ∈ as.zip es, ∃ l, Reads h2 (Value.ref z.1) (prS z.2) l ∧ h'.objs.size ∉ l := by
    intro z hz
    obtain ⟨j, hj⟩ := List.mem_iff_getElem?.mp hz
    obtain ⟨h1, h2'⟩ := List.getElem?_zip_eq_some.mp hj
    obtain ⟨e, t1, t2, he, hg⟩ := pr j _ h1
    rw [h2'] at he
    cases he
    exact ⟨_, Reads.tuple (ka _ _ hg) rfl rfl (.cons (.str _ t1) (.cons (.str _ t2) .nil)), fun m => by simp at m⟩
  rw [← em] at hob
  refine PySem.W.list_sort_data (s := { s with heap := h2, toks := tk }) (bs := as.zip es) (enc := fun z => prS z.2) (R := fun v z => v = .ref z.1) hob (each_self _ _ fun _ _ => rfl) (each_self _ _ rd) (alike_prS _) (.tuples fun b => ⟨_, _, rfl⟩) (by rw [zl]; exact z') (fun b _ => by have := depth_prS b.2; show X.A.units + 1 + 1 + _ < cLine; omega) fun out hlen ho2 => ?_
  obtain rfl := each_eq (f := fun z : Addr × Str × Str => Value.ref z.1) ho2
  have srt0 := PySem.W.sort_pairwise (PySem.W.sortLe_total (PyProof.Rows.listOrd PyProof.Rows.itemOrd) false fun z : Addr × Str × Str => PySem.W.keyToks (prS z.2)) (as.zip es)
  have pz : ((as.zip es).mergeSort (PySem.W.dataLe false fun z => prS z.2)).Perm (as.zip es) := List.mergeSort_perm _ _
  have srt : ((as.zip es).mergeSort (PySem.W.dataLe false fun z : Addr × Str × Str => prS z.2)).Pairwise (fun a b => LeS a.2.1 b.2.1) := srt0.imp fun h => le_prS h
  clear srt0
  revert srt pz
  generalize (as.zip es).mergeSort (PySem.W.dataLe false fun z => prS z.2) = zs
  intro pz srt
  have kF : ∀ b o, b ≠ h'.objs.size → h2.get? b = some o → (sortedHeap h2 h'.objs.size ((as.zip es).map fun z => Value.ref z.1) (zs.map fun z => Value.ref z.1).toArray).get? b = some o := fun b o hb e => (PyProof.Rows.sortedHeap_old hb (Heap.lt_size e)).trans e
  have kS : ∀ b o, s.heap.get? b = some o → (sortedHeap h2 h'.objs.size ((as.zip es).map fun z => Value.ref z.1) (zs.map fun z => Value.ref z.1).toArray).get? b = some o := fun b o e => kF b o (ne0 _ _ (hk b o e)) (kb b o e)
  obtain ⟨eF, heF⟩ := PyProof.Rows.sortedHeap_at (vs := (as.zip es).map fun z => Value.ref z.1) (out := (zs.map fun z => Value.ref z.1).toArray) hob
  have I1 : Inv X pins σ H { s with heap := sortedHeap h2 h'.objs.size ((as.zip es).map fun z => Value.ref z.1) (zs.map fun z => Value.ref z.1).toArray, toks := tk } := I.kept (t' := tk) kS
  have hn0 : H h'.objs.size = none := I.hok.fresh (Nat.le_of_lt hlt)
  have I2 : Inv X pins σ (upd H h'.objs.size (.lst (zs.map fun z => V.ref z.1))) { s with heap := sortedHeap h2 h'.objs.size ((as.zip es).map fun z => Value.ref z.1) (zs.map fun z => Value.ref z.1).toArray, toks := tk } :=
    I1.take (t' := tk) (fun b ob _ e => e) (I.fpOk (Nat.le_of_lt hlt) hn0) ⟨by rw [List.length_map, pz.length_eq, zl]; exact z', _, eF, vals_maps (fun z : Addr × Str × Str => V.ref z.1) (fun z => Value.ref z.1) _ fun _ _ => rfl, heF⟩
  have nd2 : (zs.map (·.1)).Nodup := by
    have e := (pz.map (·.1)).nodup_iff.mpr (show ((as.zip es).map (·.1)).Nodup by rw [List.map_fst_zip (by omega)]; exact nd)
    exact e
  have at_ : ∀ z ∈ zs, ∃ (j : Nat) (t1 t2 : Tok), as[j]? = some z.1 ∧ h'.get? z.1 = some { cls := .type "tuple", data := .seq #[Value.str z.2.1 t1, Value.str z.2.2 t2] } := by
    intro z hz
    obtain ⟨j, hj⟩ := List.mem_iff_getElem?.mp (pz.mem_iff.mp hz)
    obtain ⟨h1, h2'⟩ := List.getElem?_zip_eq_some.mp hj
    obtain ⟨e, t1, t2, he, hg⟩ := pr j _ h1
    rw [h2'] at he
    cases he
    exact ⟨j, t1, t2, h1, hg⟩
  obtain ⟨H2, I3, g, qt⟩ := DX.takeT (P := fun b vs => ∃ z ∈ zs, z.1 = b ∧ vs = [.str z.2.1, .str z.2.2]) I (zs.map (·.1)) _ I2 nd2 fun b hb => by
    obtain ⟨z, hz, rfl⟩ := List.mem_map.mp hb
    obtain ⟨j, t1, t2, hj, hg⟩ := at_ z hz
    have nb : z.1 ≠ h'.objs.size := ne0 _ _ hg
    have lo : s.heap.objs.size ≤ z.1 := Nat.le_of_lt (hG.above _ (List.mem_of_getElem? hj))
    refine ⟨lo, by rw [upd_ne nb]; exact I.hok.fresh lo, _, ⟨z, hz, rfl, rfl⟩, fun H3 => ⟨by show 2 ≤ sizeLine; decide, [Value.str z.2.1 t1, Value.str z.2.2 t2], .cons ⟨t1, rfl⟩ (.cons ⟨t2, rfl⟩ .nil), _, kF _ _ nb (ka _ _ hg), rfl, 0, rfl⟩⟩
  refine ⟨.ref h'.objs.size, H2, I3, rfl, q H2 h'.objs.size zs (fun b o e => g b o (by rw [upd_ne (ne_of_none e hn0)]; exact e)) hn0 (g _ _ upd_same) (by have e := pz.map (·.2); rw [es2] at e; exact e) srt fun z hz => ?_⟩
  obtain ⟨vs, ⟨z2, hz2, e1, rfl⟩, hv⟩ := qt z.1 (List.mem_map.mpr ⟨z, hz, rfl⟩)
  have ez : z2 = z := by
    obtain ⟨i, hi⟩ := List.mem_iff_getElem?.mp hz
    obtain ⟨j, hj⟩ := List.mem_iff_getElem?.mp hz2
    have hi1 : (zs.map (·.1))[i]? = some z.1 := by rw [List.getElem?_map, hi]; rfl
    have hj1 : (zs.map (·.1))[j]? = some z.1 := by rw [List.getElem?_map, hj, ← e1]; rfl
    have ij := (List.getElem?_inj (List.getElem?_eq_some_iff.mp hi1).1 nd2).mp (hi1.trans hj1.symm)
    rw [← ij, hi] at hj
    exact (Option.some.inj hj).symm
  rw [ez] at hv
  obtain ⟨j, _, _, hj, _⟩ := at_ z hz
  exact ⟨I.hok.fresh (Nat.le_of_lt (hG.above _ (List.mem_of_getElem? hj))), hv⟩
/-! ### sorted(..) of any number of texts -/
theorem le_str {a b : Str} (h : PySem.W.dataLe false PyData.str a b = true) : LeS a b := by
  have h2 : (!PySem.W.dataLt (.str b) (.str a)) = true := h
  rw [PySem.W.dataLt_str] at h2
  exact List.not_lt.mp (show ¬ (sg b < sg a) by simpa using h2)
theorem up_of {us : List Str} (h : us.Pairwise LeS) : sortedS us = true := sortedS_of_pairwise _ (h.imp fun {a b} q => by
  rw [ltCps_eq]
  exact decide_eq_false (List.not_lt.mpr q))
theorem alike_str (l : List Str) : PySem.W.AllAlike (l.map PyData.str) := PySem.W.AllAlike.of fun b b' => by simp [PySem.W.alike]
theorem each_strs : ∀ {ys : List Str} {us : List Value}, Vals (ys.map V.str) us → PySem.W.EachIs (fun v y => ∃ t, v = Value.str y t) us ys
  | [], us, r => by
    cases r
    exact .nil
  | y :: ys, us, r => by
    rw [List.map_cons] at r
    cases r with
    | cons h t => exact .cons h (each_strs t)
theorem vals_strs : ∀ {us : List Value} {ys : List Str}, PySem.W.EachIs (fun v y => ∃ t, v = Value.str y t) us ys → Vals (ys.map V.str) us
  | _, _, .nil => .nil
  | _, _, .cons h t => .cons h (vals_strs t)
theorem cr_sortStr {X : Cx} (hu : X.A.units + 64 < cLine) : CallR X (.builtin "sorted") (fun xs H Q => ∃ (a : Addr) (ys : List Str), xs = [.ref a] ∧ SqL X.K H a (ys.map V.str) ∧ ys.length ≤ 4000 ∧ ∀ (us : List Str) (p : Addr), us.Perm ys → sortedS us = true → H p = none → Q (.ref p) (upd H p (.lst (us.map V.str)))) := by
  intro pins s σ H vs us Q I r h
  obtain ⟨a, ys, rfl, hs, few, q⟩ := h
  obtain ⟨its, rv, hl, hzz⟩ := I.list hs
  obtain ⟨u, rfl, ru⟩ := vals1 r
  obtain rfl : u = Value.ref a := ru
  have e := each_strs rv
  refine PySem.W.sorted_data (bs := ys) (enc := PyData.str) (R := fun v y => ∃ t, v = Value.str y t) hl.isList e (e.mono fun v y ⟨t, q⟩ => ⟨[], by rw [q]; exact .str y t⟩) (alike_str _) (.others fun b => ⟨(fun z => by cases z), (fun xs z => by cases z)⟩) (Nat.le_trans few (by decide)) (fun b _ => by show X.A.units + 2 + 0 < cLine; omega) fun out hlen ho => ?_
  have pz : (ys.mergeSort (PySem.W.dataLe false PyData.str)).Perm ys := List.mergeSort_perm _ _
  have pw := PySem.W.sort_pairwise (PySem.W.sortLe_total (PyProof.Rows.listOrd PyProof.Rows.itemOrd) false fun z : Str => PySem.W.keyToks (.str z)) ys
  obtain ⟨n, hn⟩ := sortedAll_at s.heap its (List.toArray out)
  refine ⟨.ref (s.heap.objs.size + 1), _, I.laid (o := .lst ((ys.mergeSort (PySem.W.dataLe false PyData.str)).map V.str)) (t' := s.toks) (fun b o e => sortedAll_old e) (Nat.le_succ _) ⟨?_, _, n, vals_strs ho, hn⟩, rfl, q _ _ pz (up_of (pw.imp fun h => le_str h)) (I.hok.fresh (Nat.le_succ _))⟩
  rw [List.length_map, pz.length_eq]
  exact Nat.le_trans few (by decide)
theorem cr_sortDk {X : Cx} (hc : X.calm = true) (hu : X.A.units + 64 < cLine) : CallR X (.builtin "sorted") (fun xs H Q => ∃ (a : Addr) (kvs : List (Key × V)) (ks : List Str), xs = [.ref a] ∧ Rd H a (.dK kvs) ∧ kvs.map (·.1) = ks.map Sum.inr ∧ ks.length ≤ 4000 ∧
    ∀ (ys : List Str) (p : Addr), ys.Perm ks → sortedS ys = true → H p = none → Q (.ref p) (upd H p (.lst (ys.map V.str)))) := by
  intro pins s σ H xs us Q I r h
  obtain ⟨a, kvs, ks, rfl, hd, hks, few, q⟩ := h
  obtain rfl := Vals.ref1 r
  obtain ⟨_, lo, vs, rel, dd⟩ := dk_rd I.hok hd
  obtain ⟨ep, hat⟩ := dd.dictAt
  have hkeys : vs.map (·.1) = ks.map Sum.inr := rel.keys.symm.trans hks
  have hl : vs.length = ks.length := by have e := congrArg List.length hkeys; rwa [List.length_map, List.length_map] at e
  have big : ks.length ≤ sizeLine := Nat.le_trans few (by decide)
  refine Calls.call_function_entry kind_sorted plain_sorted entry_sorted (args_sorted1 _) ?_
  unfold Builtin.«sorted»
  refine wpAny_bind (m := checkCount "sorted" 1 1 _) (wpAny_pure (wpAny_bind (PySem.W.kdu_collect (A := X.A.in1) (PySem.W.kdl_dict (knd := mixKind X.prog X.w) (kvs := vs) (ep := ep) lo) (I.ok.hd hc) hat (by omega) fun h' tk acc hk hacc => ?_)))
  have e : PySem.W.EachIs (fun v y => ∃ t, v = Value.str y t) acc.toList ks := .of_zip (by rw [Array.length_toList, hacc.1, hl]) fun z hz => by
    obtain ⟨j, hj⟩ := List.mem_iff_getElem?.mp hz
    obtain ⟨h1, h2⟩ := List.getElem?_zip_eq_some.mp hj
    rw [Array.getElem?_toList] at h1
    obtain ⟨k, x, e1, e2⟩ := hacc.2 j _ h1
    have e3 : (vs.map (·.1))[j]? = some k := by rw [List.getElem?_map, e1]; rfl
    rw [hkeys, List.getElem?_map, h2] at e3
    cases e3
    obtain ⟨t, ev⟩ := Value.isStrOf_shape (x := z.2) (v := z.1) e2
    exact ⟨t, ev⟩
  have al : acc.toList.length ≤ sizeLine := by rw [e.length]; exact big
  refine wpAny_bind (wpAny_newList ?_ al)
  have at1 : (h'.push (seqObj "list" acc.toList.toArray 0)).get? h'.objs.size = some (seqObj "list" acc.toList.toArray 0) := Heap.get?_push_size _ rfl
  have kb : ∀ b o, s.heap.get? b = some o → (h'.push (seqObj "list" acc.toList.toArray 0)).get? b = some o := fun b o e => Heap.get?_push_of_some _ (hk b o e)
  have lt' : ∀ b o, s.heap.get? b = some o → b ≠ h'.objs.size := fun b o e => Nat.ne_of_lt (Heap.lt_size (hk b o e))
  show wpAny _ _ _ _ _ { s with heap := h'.push (seqObj "list" acc.toList.toArray 0), toks := tk }
  generalize h'.push (seqObj "list" acc.toList.toArray 0) = h2 at at1 kb ⊢
  refine wpAny_bind (wpAny_holding (PySem.W.list_sort_data (s := { s with heap := h2, toks := tk }) (bs := ks) (enc := PyData.str) (R := fun v y => ∃ t, v = Value.str y t) at1 e (e.mono fun v y ⟨t, q⟩ => ⟨[], by rw [q]; exact .str y t, List.not_mem_nil⟩) (alike_str _) (.others fun b => ⟨(fun z => by cases z), (fun xs z => by cases z)⟩) big (fun b _ => by show X.A.units + 1 + 1 + 0 < cLine; omega) fun out hlen ho => ?_))
  have pz : (ks.mergeSort (PySem.W.dataLe false PyData.str)).Perm ks := List.mergeSort_perm _ _
  have pw := PySem.W.sort_pairwise (PySem.W.sortLe_total (PyProof.Rows.listOrd PyProof.Rows.itemOrd) false fun z : Str => PySem.W.keyToks (.str z)) ks
  obtain ⟨eF, heF⟩ := PyProof.Rows.sortedHeap_at (vs := acc.toList) (out := out.toArray) at1
  have I1 : Inv X pins σ H { s with heap := sortedHeap h2 h'.objs.size acc.toList out.toArray, toks := tk } := I.kept (t' := tk) fun b o e => (PyProof.Rows.sortedHeap_old (lt' b o e) (Heap.lt_size (kb b o e))).trans (kb b o e)
  have Ih : Inv X pins σ H { s with heap := h', toks := tk } := I.kept hk
  have hn0 : H h'.objs.size = none := Ih.hok.fresh (Nat.le_refl _)
  refine wpAny_pure ⟨_, rfl, .ref h'.objs.size, _, I1.take (o := .lst ((ks.mergeSort (PySem.W.dataLe false PyData.str)).map V.str)) (t' := tk) (fun b ob _ e => e) (Ih.fpOk (Nat.le_refl _) hn0) ⟨?_, _, eF, vals_strs ho, heF⟩, rfl, q _ _ pz (up_of (pw.imp fun h => le_str h)) hn0⟩
  rw [List.length_map, pz.length_eq]
  exact big
abbrev sTargets : Stmt := inClass sTab 4
/-- the different values of the rows, ascending -/
def spTargets (C : Addr) : Sp := fun vs H Q _ => ∃ (x e : Addr) (w : Nat) (xs : List Str) (kvs : List (Key × V)), vs = [.ref x] ∧ MapAt C H x e w kvs ∧ kvs.map (·.2) = xs.map V.str ∧ xs.length < 1000 ∧
  ∀ (p : Addr) (ks : List Str) (H' : Hp), Same H H' → H p = none → H' p = some (.lst (ks.map V.str)) → ks.Nodup → (∀ z, z ∈ ks ↔ z ∈ xs) → sortedS ks = true → Q (.ref p) H'
section
variable {P : Program} {w : World} {K : PySem.W.Frag} {mg : Str → Option Value} {base : Heap}
theorem scTargets : FnScope ["self"] ["self"] (defScope sTargets) := ⟨rfl, rfl, rfl, by decide +kernel, rfl, by decide +kernel, by decide +kernel⟩
theorem ok_targets {f C : Addr} {fd : FuncData} {k : Nat} (F : Fun K "targets" "Table.targets" sTargets f fd) (T : ClsF K C) (mli : mg "list" = none) (mse : mg "set" = none) (mso : mg "sorted" = none) : FnOk P w K mg base CX0 (k + 1) f fd ["self"] (spTargets C) := by
  refine F.ok scTargets (fun vs H Q E h => ?_) (fun cdv A outer s H vs Q E hr h => ?_)
  · obtain ⟨x, e, w, xs, kvs, rfl, _⟩ := h
    rfl
  · obtain ⟨x, e, w, xs, kvs, rfl, ⟨⟨dx, hx⟩, he⟩, hv, few, q⟩ := h
    refine ⟨_, pss_one (ps_ret (pe_callB (cr_sortTx rfl) (by rfl) mso (by decide +kernel) (pa_cons (pe_callTy (cr_setTx rfl) (by rfl) mse (by decide +kernel) (pa_cons (pe_listVals rfl (by rfl) mli (pe_fld (pv 0) rfl)) pa_nil)) pa_nil))), ?_⟩
    refine ⟨.ref x, rfl, x, C, dx, _, _, rfl, hx, T.cl, T.nR, flds_r _ _, e, kvs, rfl, he, fun l nl => ?_⟩
    have s1 := same_upd (o := .lst (kvs.map (·.2))) nl
    refine ⟨l, xs, rfl, SqL.of (by rw [upd_same, hv]), by omega, fun p ks np nd mem len => ?_⟩
    have s2 := fun (o : HO) => same_upd (o := o) np
    refine ⟨p, ks, rfl, upd_same, fun p2 ys np2 pm up => ?_⟩
    exact q p2 ys _ (s1.trans ((s2 _).trans (same_upd np2))) (same_free (s1.trans (s2 _)) np2) upd_same (pm.nodup_iff.mpr nd) (fun z => pm.mem_iff.trans (mem z)) up
end
abbrev sG : Stmt := sTgt
abbrev sK : Stmt := sTChk
abbrev sU : Stmt := sInit
abbrev sT : Stmt := sTInit
abbrev sR : Stmt := sRows
abbrev sPw : Stmt := sWidthP
abbrev sTa : Stmt := sTargets
abbrev sLn : Stmt := sLenM
abbrev sWk : Stmt := sWalk
abbrev sLo : Stmt := sLongest
abbrev sLu : Stmt := sLook
abbrev sMd : Stmt := sMade
abbrev sVw : Stmt := sWith
abbrev sWr : Stmt := sWithout
abbrev sEqm : Stmt := sEq
/-! ### what rows say, changes in their order -/
def gV (kvs : List (Key × V)) (y : Str) : V := (valV kvs (.inr y)).getD .non
theorem gV_tgt {w : Nat} {xs : List Str} {kvs : List (Key × V)} (ok : RowsOk w isTgtV xs kvs) (y : Str) : (∃ t, gV kvs y = .str t ∧ isTgtV (.str t) ∧ y ∈ xs) ∨ (gV kvs y = .non ∧ y ∉ xs) := by
  unfold gV
  cases e : valV kvs (.inr y) with
  | none => exact .inr ⟨rfl, fun h => by have q := valV_mem.mpr ((inr_mem ok.keys y).mpr h); rw [e] at q; cases q⟩
  | some v =>
    have hm := valV_in e
    obtain ⟨kv, hk, e1⟩ := List.mem_map.mp hm
    have e2 := valV_some ok.acc.nd (k := kv.1) (v := kv.2) hk
    rw [e1, e] at e2
    obtain ⟨t, ht, _⟩ := tgt_sm (ok.val kv hk)
    refine .inl ⟨t, ?_, ?_, (inr_mem ok.keys y).mp hm⟩
    · show v = .str t
      rw [← ht]
      exact Option.some.inj e2
    · rw [← ht]
      exact ok.val kv hk
theorem gV_scal {w w2 : Nat} {xs zs : List Str} {ks ls : List (Key × V)} (h1 : RowsOk w isTgtV xs ks) (h2 : RowsOk w2 isTgtV zs ls) (y : Str) : scal (gV ks y) (gV ls y) = true := by
  rcases gV_tgt h1 y with ⟨t, e, _⟩ | ⟨e, _⟩ <;> rcases gV_tgt h2 y with ⟨t2, e2, _⟩ | ⟨e2, _⟩ <;> rw [e, e2] <;> rfl
/-- the rows that differ, each with what is said at last -/
structure WantOk (ks ls : List (Key × V)) (us : List Str) (W : List (Key × V)) : Prop where
  keys : W.map (·.1) = us.map Sum.inr
  nd : us.Nodup
  mem : ∀ y, y ∈ us ↔ gV ks y ≠ gV ls y
  val : ∀ y ∈ us, valV W (.inr y) = some (gV ls y)
  few : us.length ≤ 200
def ordA (x y : Str) : Prop := leIS (-(x.length : Int), x) (-(y.length : Int), y)
def ordB (x y : Str) : Prop := leIS ((x.length : Int), x) ((y.length : Int), y)
structure IsSeq (ks ls : List (Key × V)) (cs : List (Str × V)) (A B : List Str) : Prop where
  eq : cs = A.map (fun y => (y, gV ls y)) ++ B.map (fun y => (y, gV ls y))
  memA : ∀ y, y ∈ A ↔ gV ks y ≠ gV ls y ∧ gV ls y ≠ .non
  memB : ∀ y, y ∈ B ↔ gV ks y ≠ gV ls y ∧ gV ls y = .non
  ndA : A.Nodup
  ndB : B.Nodup
  upA : A.Pairwise ordA
  upB : B.Pairwise ordB
  few : A.length + B.length ≤ 200
theorem perm_of_mem {α : Type} {l m : List α} (h1 : l.Nodup) (h2 : m.Nodup) (h : ∀ x, x ∈ l ↔ x ∈ m) : l.Perm m := (List.perm_ext_iff_of_nodup h1 h2).mpr h
theorem ordA_anti {x y : Str} (h : ordA x y) (h' : ordA y x) : x = y := congrArg Prod.snd (leIS_anti h h')
theorem ordB_anti {x y : Str} (h : ordB x y) (h' : ordB y x) : x = y := congrArg Prod.snd (leIS_anti h h')
theorem IsSeq.uniq {ks ls ks' ls' : List (Key × V)} {cs cs' : List (Str × V)} {A B A' B' : List Str} (hk : ∀ y, gV ks y = gV ks' y) (hl : ∀ y, gV ls y = gV ls' y) (h : IsSeq ks ls cs A B) (h' : IsSeq ks' ls' cs' A' B') : cs = cs' := by
  have eA : A = A' := List.Perm.eq_of_pairwise (le := ordA) (fun _ _ _ _ => ordA_anti) h.upA h'.upA (perm_of_mem h.ndA h'.ndA fun y => by rw [h.memA, h'.memA, hk, hl])
  have eB : B = B' := List.Perm.eq_of_pairwise (le := ordB) (fun _ _ _ _ => ordB_anti) h.upB h'.upB (perm_of_mem h.ndB h'.ndB fun y => by rw [h.memB, h'.memB, hk, hl])
  rw [h.eq, h'.eq, eA, eB]
  congr 1 <;> exact List.map_congr_left fun y _ => by rw [hl]
theorem IsSeq.mem {ks ls : List (Key × V)} {cs : List (Str × V)} {A B : List Str} (h : IsSeq ks ls cs A B) (c : Str × V) : c ∈ cs ↔ gV ks c.1 ≠ gV ls c.1 ∧ c.2 = gV ls c.1 := by
  rw [h.eq, List.mem_append, List.mem_map, List.mem_map]
  constructor
  · rintro (⟨y, hy, rfl⟩ | ⟨y, hy, rfl⟩)
    · exact ⟨((h.memA y).mp hy).1, rfl⟩
    · exact ⟨((h.memB y).mp hy).1, rfl⟩
  · rintro ⟨h1, h2⟩
    obtain ⟨y, v⟩ := c
    have h2 : v = gV ls y := h2
    subst h2
    by_cases e : gV ls y = .non
    · exact .inr ⟨y, (h.memB y).mpr ⟨h1, e⟩, rfl⟩
    · exact .inl ⟨y, (h.memA y).mpr ⟨h1, e⟩, rfl⟩
theorem IsSeq.keys {ks ls : List (Key × V)} {cs : List (Str × V)} {A B : List Str} (h : IsSeq ks ls cs A B) : cs.map (·.1) = A ++ B := by
  rw [h.eq, List.map_append, List.map_map, List.map_map]
  congr 1
  · exact List.map_id _
  · exact List.map_id _
theorem IsSeq.nd {ks ls : List (Key × V)} {cs : List (Str × V)} {A B : List Str} (h : IsSeq ks ls cs A B) : (cs.map (·.1)).Nodup := by
  rw [h.keys]
  exact List.nodup_append.mpr ⟨h.ndA, h.ndB, fun a ha b hb e => ((h.memA a).mp ha).2 (by rw [e]; exact ((h.memB b).mp hb).2)⟩
theorem keys_putK {kvs : List (Key × V)} {k j : Key} {v : V} : j ∈ (putK kvs k v).map (·.1) ↔ j = k ∨ j ∈ kvs.map (·.1) := by
  rw [← valV_mem, valV_put, ← valV_mem]
  by_cases e : j = k
  · rw [if_pos e]
    exact ⟨fun _ => .inl e, fun _ => rfl⟩
  · rw [if_neg e]
    exact ⟨.inr, fun h => h.resolve_left e⟩
theorem nd_putK {kvs : List (Key × V)} {k : Key} {v : V} (h : (kvs.map (·.1)).Nodup) : ((putK kvs k v).map (·.1)).Nodup := by
  by_cases hm : k ∈ kvs.map (·.1)
  · have e : (putK kvs k v).map (·.1) = kvs.map (·.1) := by
      unfold putK
      rw [if_pos (by obtain ⟨p, hp, e⟩ := List.mem_map.mp hm; exact List.any_eq_true.mpr ⟨p, hp, decide_eq_true e⟩), List.map_map]
      refine List.map_congr_left fun p _ => ?_
      show (if p.1 = k then (p.1, v) else p).1 = p.1
      split <;> rfl
    rw [e]
    exact h
  · rw [putK_end hm, List.map_append]
    exact List.nodup_append.mpr ⟨h, List.nodup_cons.mpr ⟨List.not_mem_nil, List.nodup_nil⟩, fun a ha b hb e => hm (by have e2 : b = k := List.mem_singleton.mp hb; rw [← e2, ← e]; exact ha)⟩
theorem keys_mergeK : ∀ {ls kvs : List (Key × V)} {j : Key}, j ∈ (mergeK kvs ls).map (·.1) ↔ j ∈ kvs.map (·.1) ∨ j ∈ ls.map (·.1)
  | [], kvs, j => by
    show j ∈ kvs.map (·.1) ↔ _
    exact ⟨.inl, fun h => h.resolve_right List.not_mem_nil⟩
  | p :: ls, kvs, j => by
    show j ∈ (mergeK (putK kvs p.1 p.2) ls).map (·.1) ↔ _
    rw [keys_mergeK, keys_putK, List.map_cons, List.mem_cons]
    constructor
    · rintro ((h | h) | h)
      · exact .inr (.inl h)
      · exact .inl h
      · exact .inr (.inr h)
    · rintro (h | h | h)
      · exact .inl (.inr h)
      · exact .inl (.inl h)
      · exact .inr h
theorem nd_mergeK : ∀ {ls kvs : List (Key × V)}, (kvs.map (·.1)).Nodup → ((mergeK kvs ls).map (·.1)).Nodup
  | [], _, h => h
  | p :: ls, kvs, h => by
    show ((mergeK (putK kvs p.1 p.2) ls).map (·.1)).Nodup
    exact nd_mergeK (nd_putK h)
/-- the keys of a dict of texts, as texts -/
theorem keyStrs {kvs : List (Key × V)} (h : ∀ j ∈ kvs.map (·.1), ∃ y, j = Sum.inr y) : ∃ us : List Str, kvs.map (·.1) = us.map Sum.inr := by
  generalize kvs.map (·.1) = l at h
  induction l with
  | nil => exact ⟨[], rfl⟩
  | cons j l ih =>
    obtain ⟨y, rfl⟩ := h j List.mem_cons_self
    obtain ⟨us, e⟩ := ih fun k hk => h k (List.mem_cons_of_mem _ hk)
    exact ⟨y :: us, by rw [e]; rfl⟩
theorem keysY {kvs : List (Key × V)} {us : List Str} (hk : kvs.map (·.1) = us.map Sum.inr) : ∀ (i : Nat) (H : Hp) (v : V) (H' : Hp), (H' = H ∧ ∃ k v', kvs[i]? = some (k, v') ∧ v = kV k) → H' = H ∧ ∃ x, us[i]? = some x ∧ v = V.str x := by
  rintro i H v H' ⟨e, k, v', h, rfl⟩
  refine ⟨e, ?_⟩
  have h1 : (kvs.map (·.1))[i]? = some k := by rw [List.getElem?_map, h]; rfl
  rw [hk, List.getElem?_map] at h1
  obtain ⟨x, hx, rfl⟩ := Option.map_eq_some_iff.mp h1
  exact ⟨x, hx, rfl⟩
theorem keys_len {kvs : List (Key × V)} {us : List Str} (hk : kvs.map (·.1) = us.map Sum.inr) : us.length = kvs.length := by
  have := congrArg List.length hk
  rw [List.length_map, List.length_map] at this
  exact this.symm
theorem keys_nd {kvs : List (Key × V)} {us : List Str} (hk : kvs.map (·.1) = us.map Sum.inr) (nd : us.Nodup) : (kvs.map (·.1)).Nodup := by
  rw [hk]
  exact nd.map Sum.inr fun a b h e => h (Sum.inr.inj e)
theorem nd_keys {kvs : List (Key × V)} {us : List Str} (hk : kvs.map (·.1) = us.map Sum.inr) (nd : (kvs.map (·.1)).Nodup) : us.Nodup := by
  rw [hk] at nd
  exact nd.of_map Sum.inr (fun a b h e => h (congrArg Sum.inr e))
theorem merge_keys {w w2 : Nat} {xs zs : List Str} {ks ls : List (Key × V)} (h1 : RowsOk w isTgtV xs ks) (h2 : RowsOk w2 isTgtV zs ls) : ∃ us : List Str, (mergeK ks ls).map (·.1) = us.map Sum.inr ∧ us.Nodup ∧ (∀ y, y ∈ us ↔ y ∈ xs ∨ y ∈ zs) ∧ us.length ≤ xs.length + zs.length := by
  obtain ⟨us, e⟩ := keyStrs (kvs := mergeK ks ls) fun j hj => by
    rcases keys_mergeK.mp hj with h | h
    · rw [h1.keys] at h
      obtain ⟨y, _, rfl⟩ := List.mem_map.mp h
      exact ⟨y, rfl⟩
    · rw [h2.keys] at h
      obtain ⟨y, _, rfl⟩ := List.mem_map.mp h
      exact ⟨y, rfl⟩
  refine ⟨us, e, nd_keys e (nd_mergeK h1.acc.nd), fun y => ?_, ?_⟩
  · rw [← inr_mem e y, keys_mergeK, inr_mem h1.keys, inr_mem h2.keys]
  · rw [keys_len e, keys_len h1.keys, keys_len h2.keys]
    exact length_mergeK _ _
theorem gV_in {w w2 : Nat} {xs zs : List Str} {ks ls : List (Key × V)} (h1 : RowsOk w isTgtV xs ks) (h2 : RowsOk w2 isTgtV zs ls) {y : Str} (h : gV ks y ≠ gV ls y) : y ∈ xs ∨ y ∈ zs := by
  rcases gV_tgt h1 y with ⟨_, _, _, h3⟩ | ⟨e, _⟩
  · exact .inl h3
  · rcases gV_tgt h2 y with ⟨_, _, _, h3⟩ | ⟨e2, _⟩
    · exact .inr h3
    · exact absurd (e.trans e2.symm) h
theorem val_keys {us : List Str} (f : Str → V) (nd : us.Nodup) {y : Str} (hy : y ∈ us) : valV (us.map fun x => ((.inr x : Key), f x)) (.inr y) = some (f y) :=
  valV_some (k := .inr y) (by rw [List.map_map]; exact nd.map (fun x : Str => (Sum.inr x : Key)) fun a b h e => h (Sum.inr.inj e)) (List.mem_map.mpr ⟨y, hy, rfl⟩)
theorem prd_map {α β γ : Type} {R : α → γ → Prop} (f : β → γ) : ∀ {as : List α} {bs : List β}, Paired (fun a b => R a (f b)) as bs → Paired R as (bs.map f)
  | _, _, .nil => .nil
  | _, _, .cons h t => .cons h (prd_map f t)
theorem prd_zip {H : Hp} (n : Str → Int) : ∀ {ts : List Addr} {us : List Str}, Paired (fun t u => H t = some (.tup [.int (n u), .str u])) ts us →
    ∃ zs : List (Addr × Int × Str), ts = zs.map (·.1) ∧ us = zs.map (·.2.2) ∧ ∀ z ∈ zs, z.2.1 = n z.2.2 ∧ H z.1 = some (.tup [.int z.2.1, .str z.2.2])
  | _, _, .nil => ⟨[], rfl, rfl, fun _ h => absurd h List.not_mem_nil⟩
  | _, _, .cons (a := t) (b := u) h r => by
    obtain ⟨zs, e1, e2, e3⟩ := prd_zip n r
    refine ⟨(t, n u, u) :: zs, by rw [e1]; rfl, by rw [e2]; rfl, fun z hz => ?_⟩
    rcases List.mem_cons.mp hz with rfl | hz
    · exact ⟨rfl, h⟩
    · exact e3 z hz
/-- what a dict says of some keys, as tuples in their order -/
structure Picked (H : Hp) (n : Str → Int) (us : List Str) (vs : List (Addr × Int × Str)) : Prop where
  at_ : ∀ z ∈ vs, H z.1 = some (.tup [.int z.2.1, .str z.2.2])
  perm : (vs.map (·.2.2)).Perm us
  up : (vs.map (·.2.2)).Pairwise fun x y => leIS (n x, x) (n y, y)
theorem Picked.same {H H' : Hp} {n : Str → Int} {us : List Str} {vs : List (Addr × Int × Str)} (s : Same H H') (h : Picked H n us vs) : Picked H' n us vs := ⟨fun z hz => s _ _ (h.at_ z hz), h.perm, h.up⟩
theorem Picked.of {H : Hp} {n : Str → Int} {us : List Str} {zs vs : List (Addr × Int × Str)} (hz : ∀ z ∈ zs, z.2.1 = n z.2.2 ∧ H z.1 = some (.tup [.int z.2.1, .str z.2.2])) (e : us = zs.map (·.2.2)) (p : vs.Perm zs) (pw : vs.Pairwise fun a b => leIS a.2 b.2) : Picked H n us vs := by
  refine ⟨fun z h => (hz z (p.mem_iff.mp h)).2, by rw [e]; exact p.map _, ?_⟩
  rw [List.pairwise_map]
  refine pw.imp_of_mem fun {a b} ha hb h => ?_
  have e1 := (hz a (p.mem_iff.mp ha)).1
  have e2 := (hz b (p.mem_iff.mp hb)).1
  rw [← e1, ← e2]
  exact h
theorem at_seq {t u : TS} {D : Ends} {σ : L2.St} {H : Hp} (h : t { D with nx := u D } σ H) : tSeq t u D σ H := h
theorem at_nm {k : Nat} {v : V} {σ : L2.St} {H : Hp} {Q : L2.St → Hp → Prop} (h : Q (σ.set k (some v)) H) : gName k v σ H Q := h
theorem at_as {te : TE} {tg : TG} {D : Ends} {σ : L2.St} {H : Hp} (h : te σ H fun x H1 => tg x σ H1 D.nx) : tAsg te tg D σ H := h
theorem at_rt {te : TE} {D : Ends} {σ : L2.St} {H : Hp} (h : te σ H D.rt) : tRet te D σ H := h
theorem at_cb1 {r : List V → Hp → VK → Prop} {t : TE} {σ : L2.St} {H : Hp} {Q : VK} (h : t σ H fun x H1 => r [x] H1 Q) : tCB r (tCons t tNil) σ H Q := h
theorem at_cons {t : TE} {ts : TA} {σ : L2.St} {H : Hp} {Q : List V → Hp → Prop} (h : t σ H fun x H1 => ts σ H1 fun xs H2 => Q (x :: xs) H2) : tCons t ts σ H Q := h
/-- sorted([(n(k), k) for k in d if b(k)]) -/
theorem pick {K : PySem.W.Frag} {i : Nat} {td : TE} {tt : TT} {te : TE} {σ : L2.St} {H : Hp} {Q : VK} {d : Addr} {W : List (Key × V)} {us : List Str} (st : Str → L2.St) (b : Str → Bool) (n : Str → Int) (hd : H d = some (.dK W)) (hk : W.map (·.1) = us.map Sum.inr) (few : us.length ≤ 900)
    (htd : ∀ H' (Q' : VK), Q' (.ref d) H' → td σ H' Q') (hst : ∀ u, (wipe σ [i]).set i (some (.str u)) = st u) (hw : ∀ u, wipe (st u) [i] = wipe σ [i])
    (ht : ∀ u ∈ us, ∀ od H' (Q' : Bool → Hp → Prop), H' d = some (.frz od (.dK W)) → Q' (b u) H' → tt (st u) H' Q')
    (he : ∀ u ∈ us, ∀ H' (Q' : VK), (∀ T, H' T = none → Q' (.ref T) (upd H' T (.tup [.int (n u), .str u]))) → te (st u) H' Q')
    (q : ∀ (p : Addr) (H' : Hp) (vs : List (Addr × Int × Str)), H p = none → Same H H' → H' p = some (.lst (vs.map fun z => V.ref z.1)) → Picked H' n (us.filter b) vs → Q (.ref p) H') :
    tLockE (tLc (iKeys td) (gName i) tt te [i]) σ H fun x H1 => rSortIS K [x] H1 Q := by
  refine ⟨d, .dK W, hd, trivial, fun od => htd _ _ ⟨d, od, rfl, .inl ⟨W, upd_same, fun D nD => ?_⟩⟩⟩
  obtain ⟨nDd, nD2⟩ := upd_free nD
  have hdf := upd_same (H := H) (a := d) (o := .frz od (.dK W))
  have keep : ∀ c o, c ≠ d → H c = some o → (upd H d (.frz od (.dK W))) c = some o := fun c o hc e => by rw [upd_ne hc]; exact e
  have free : ∀ c, (upd H d (.frz od (.dK W))) c = none → c ≠ d ∧ H c = none := fun c e => upd_free e
  revert hdf keep free nD
  generalize upd H d (.frz od (.dK W)) = Hf
  intro nD hdf keep free
  refine lc_tups walk_keys us V.str st b (fun u => .int (n u)) V.str (keys_len hk) nD (by rw [← keys_len hk]; omega) (fun _ s => s _ _ hdf) (keysY hk) (fun u _ H' Q' _ h => ?_) (fun u _ => hw u) (fun u hu H' Q' s h => ht u hu od H' Q' (s _ _ hdf) h) (fun u hu _ H' Q' s h => he u hu H' Q' h) fun H' ts s hD hp => ⟨s _ _ hdf, ?_⟩
  · show Q' ((wipe σ [i]).set i (some (.str u))) H'
    rw [hst]
    exact h
  · have s2 : Same H (upd H' d (.dK W)) := fun c o e => by
      by_cases hc : c = d
      · rw [hc, upd_same, ← hd, ← hc, e]
      · rw [upd_ne hc]
        exact s _ _ (keep c o hc e)
    obtain ⟨zs, e1, e2, e3⟩ := prd_zip (H := upd H' d (.dK W)) n (hp.mono fun t u h => by rw [upd_ne (free t h.2.1).1]; exact h.1)
    have lz : zs.length ≤ us.length := by
      have := congrArg List.length e2
      rw [List.length_map] at this
      rw [← this]
      exact List.length_filter_le _ _
    refine ⟨D, zs, rfl, SqL.of ?_, by omega, fun z hz => SqT.of (e3 z hz).2, fun p vs np pm pw => ?_⟩
    · rw [upd_ne nDd, hD, e1, List.map_map]
      rfl
    · refine q p _ vs (s2.free np) (s2.trans (same_upd np)) upd_same ?_
      exact (Picked.of e3 e2 pm pw).same (same_upd np)
theorem pk_len {H : Hp} {n : Str → Int} {us : List Str} {b : Str → Bool} {vs : List (Addr × Int × Str)} (h : Picked H n (us.filter b) vs) : vs.length ≤ us.length := by
  have := h.perm.length_eq
  rw [List.length_map] at this
  rw [this]
  exact List.length_filter_le _ _
/-- both halves give the sequence -/
theorem seq_of {H H' : Hp} {ks ls W : List (Key × V)} {us : List Str} {vs vs2 : List (Addr × Int × Str)} {ts : List Addr} (wo : WantOk ks ls us W) (h1 : Picked H (fun u => -(u.length : Int)) (us.filter fun u => !decide (gV ls u = .non)) vs) (h2 : Picked H (fun u => (u.length : Int)) (us.filter fun u => decide (gV ls u = .non)) vs2)
    (hp : Paired (fun t (z : Addr × Int × Str) => H' t = some (.tup [.str z.2.2, gV ls z.2.2])) ts (vs ++ vs2)) :
    ∃ cs, Paired (fun t (c : Str × V) => H' t = some (.tup [.str c.1, c.2])) ts cs ∧ IsSeq ks ls cs (vs.map (·.2.2)) (vs2.map (·.2.2)) := by
  refine ⟨(vs ++ vs2).map fun z => (z.2.2, gV ls z.2.2), prd_map _ hp, ⟨?_, fun y => ?_, fun y => ?_, ?_, ?_, h1.up, h2.up, ?_⟩⟩
  · rw [List.map_append, List.map_map, List.map_map]
    rfl
  · rw [h1.perm.mem_iff, List.mem_filter, wo.mem]
    by_cases e : gV ls y = .non
    · rw [decide_eq_true e]
      exact ⟨fun q => absurd q.2 (by decide), fun q => absurd e q.2⟩
    · rw [decide_eq_false e]
      exact ⟨fun q => ⟨q.1, e⟩, fun q => ⟨q.1, rfl⟩⟩
  · rw [h2.perm.mem_iff, List.mem_filter, wo.mem]
    by_cases e : gV ls y = .non
    · rw [decide_eq_true e]
      exact ⟨fun q => ⟨q.1, e⟩, fun q => ⟨q.1, rfl⟩⟩
    · rw [decide_eq_false e]
      exact ⟨fun q => absurd q.2 (by decide), fun q => absurd q.2 e⟩
  · exact h1.perm.nodup_iff.mpr (wo.nd.filter _)
  · exact h2.perm.nodup_iff.mpr (wo.nd.filter _)
  · rw [h1.perm.length_eq, h2.perm.length_eq]
    have e := wo.few
    have z : ∀ l : List Str, (l.filter fun u => !decide (gV ls u = .non)).length + (l.filter fun u => decide (gV ls u = .non)).length = l.length := fun l => by
      induction l with
      | nil => rfl
      | cons a l ih =>
        by_cases q : gV ls a = .non
        · rw [List.filter_cons_of_neg (by rw [decide_eq_true q]; decide), List.filter_cons_of_pos (by rw [decide_eq_true q]), List.length_cons, List.length_cons]
          omega
        · rw [List.filter_cons_of_pos (by rw [decide_eq_false q]; rfl), List.filter_cons_of_neg (by rw [decide_eq_false q]; decide), List.length_cons, List.length_cons]
          omega
    rw [z us]
    exact e
theorem iteNT {c A B : Prop} [Decidable c] (hc : ¬ c) (h : A) : if (!decide c) = true then A else B := by
  rw [decide_eq_false hc]
  exact iteT h
theorem map_put {us : List Str} {f : Str → V} {u : Str} (h : u ∉ us) : putK (us.map fun x => ((.inr x : Key), f x)) (.inr u) (f u) = (us ++ [u]).map fun x => ((.inr x : Key), f x) := by
  rw [putK_end, List.map_append]
  · rfl
  · rw [List.map_map]
    intro hm
    obtain ⟨y, hy1, hy2⟩ := List.mem_map.mp hm
    exact h (by rw [← Sum.inr.inj hy2]; exact hy1)
theorem notin_take {us : List Str} {i : Nat} {u : Str} (nd : us.Nodup) (h : us[i]? = some u) (b : Str → Bool) : u ∉ (us.take i).filter b := by
  intro hm
  obtain ⟨j, hj, ej⟩ := List.mem_take_iff_getElem.mp (List.mem_filter.mp hm).1
  have h1 : us[j]? = some u := by rw [← ej]; exact List.getElem?_eq_getElem _
  have := (List.getElem?_inj (List.getElem?_eq_some_iff.mp h1).1 nd).mp (h1.trans h.symm)
  omega
theorem rows_map {w : Nat} {xs ys : List Str} {kvs : List (Key × V)} (ok : RowsOk w isTgtV xs kvs) (nd : ys.Nodup) (h : ∀ y ∈ ys, y ∈ xs) : RowsOk w isTgtV ys (ys.map fun u => ((.inr u : Key), gV kvs u)) := by
  refine ⟨by rw [List.map_map]; rfl, ⟨nd, fun y hy => ok.pfx.bits y (h y hy), fun y hy => ok.pfx.len y (h y hy)⟩, fun kv hk => ?_⟩
  obtain ⟨y, hy, rfl⟩ := List.mem_map.mp hk
  rcases gV_tgt ok y with ⟨t, e, ht, _⟩ | ⟨_, e⟩
  · show isTgtV (gV kvs y)
    rw [e]
    exact ht
  · exact absurd (h y hy) e
theorem gV_map {ys : List Str} (f : Str → V) (nd : ys.Nodup) (z : Str) : gV (ys.map fun u => ((.inr u : Key), f u)) z = if z ∈ ys then f z else .non := by
  unfold gV
  by_cases h : z ∈ ys
  · rw [val_keys f nd h, if_pos h]
    rfl
  · rw [if_neg h]
    cases e : valV (ys.map fun u => ((.inr u : Key), f u)) (.inr z) with
    | none => rfl
    | some v =>
      have hm := valV_in e
      rw [List.map_map] at hm
      obtain ⟨y, hy, e2⟩ := List.mem_map.mp hm
      exact absurd hy (by rw [Sum.inr.inj e2]; exact h)
theorem gV_put (kvs : List (Key × V)) (y : Str) (v : V) (z : Str) : gV (putK kvs (.inr y) v) z = if z = y then v else gV kvs z := by
  unfold gV
  rw [valV_put]
  by_cases h : z = y
  · rw [if_pos (by rw [h]), if_pos h]
    rfl
  · rw [if_neg (fun e => h (Sum.inr.inj e)), if_neg h]
theorem mergeK_map {ys : List Str} (f : Str → V) (nd : ys.Nodup) : mergeK [] (ys.map fun u => ((.inr u : Key), f u)) = ys.map fun u => ((.inr u : Key), f u) := by
  rw [mergeK_nd, List.nil_append]
  rw [List.nil_append, List.map_map]
  exact nd.map (fun x : Str => (Sum.inr x : Key)) fun a b h e => h (Sum.inr.inj e)
/-- dict([(k, v(k)) for k in d if b(k)]) -/
theorem redict {K : PySem.W.Frag} {i : Nat} {td : TE} {tt : TT} {te : TE} {σ : L2.St} {H : Hp} {Q : VK} {d : Addr} {W : List (Key × V)} {us : List Str} (st : Str → L2.St) (b : Str → Bool) (f : Str → V) (hd : H d = some (.dK W)) (hk : W.map (·.1) = us.map Sum.inr) (nd : us.Nodup) (few : us.length ≤ 900)
    (htd : ∀ H' (Q' : VK), Q' (.ref d) H' → td σ H' Q') (hst : ∀ u, (wipe σ [i]).set i (some (.str u)) = st u) (hw : ∀ u, wipe (st u) [i] = wipe σ [i])
    (ht : ∀ u ∈ us, ∀ od H' (Q' : Bool → Hp → Prop), H' d = some (.frz od (.dK W)) → Q' (b u) H' → tt (st u) H' Q')
    (he : ∀ u ∈ us, ∀ od H' (Q' : VK), H' d = some (.frz od (.dK W)) → (∀ T, H' T = none → Q' (.ref T) (upd H' T (.tup [.str u, f u]))) → te (st u) H' Q')
    (q : ∀ (p : Addr) (H' : Hp), H p = none → Same H H' → H' p = some (.dK ((us.filter b).map fun u => (.inr u, f u))) → Q (.ref p) H') :
    tLockE (tLc (iKeys td) (gName i) tt te [i]) σ H fun x H1 => rDictP K [x] H1 Q := by
  refine ⟨d, .dK W, hd, trivial, fun od => htd _ _ ⟨d, od, rfl, .inl ⟨W, upd_same, fun D nD => ?_⟩⟩⟩
  obtain ⟨nDd, nD2⟩ := upd_free nD
  have hdf := upd_same (H := H) (a := d) (o := .frz od (.dK W))
  have keep : ∀ c o, c ≠ d → H c = some o → (upd H d (.frz od (.dK W))) c = some o := fun c o hc e => by rw [upd_ne hc]; exact e
  have free : ∀ c, (upd H d (.frz od (.dK W))) c = none → c ≠ d ∧ H c = none := fun c e => upd_free e
  revert hdf keep free nD
  generalize upd H d (.frz od (.dK W)) = Hf
  intro nD hdf keep free
  refine lc_tups walk_keys us V.str st b V.str f (keys_len hk) nD (by rw [← keys_len hk]; omega) (fun _ s => s _ _ hdf) (keysY hk) (fun u _ H' Q' _ h => ?_) (fun u _ => hw u) (fun u hu H' Q' s h => ht u hu od H' Q' (s _ _ hdf) h) (fun u hu _ H' Q' s h => he u hu od H' Q' (s _ _ hdf) h) fun H' ts s hD hp => ⟨s _ _ hdf, ?_⟩
  · show Q' ((wipe σ [i]).set i (some (.str u))) H'
    rw [hst]
    exact h
  · have s2 : Same H (upd H' d (.dK W)) := fun c o e => by
      by_cases hc : c = d
      · rw [hc, upd_same, ← hd, ← hc, e]
      · rw [upd_ne hc]
        exact s _ _ (keep c o hc e)
    refine ⟨D, ts, (us.filter b).map fun u => (.inr u, f u), rfl, SqL.of (by rw [upd_ne nDd]; exact hD), prd_map (R := fun p (kv : Key × V) => SqT K (upd H' d (.dK W)) p [kV kv.1, kv.2]) _ (hp.mono fun t u h => SqT.of (by rw [upd_ne (free t h.2.1).1]; exact h.1)), fun p np => ?_⟩
    rw [mergeK_map f (nd.filter _)]
    exact q p _ (s2.free np) (s2.trans (same_upd np)) upd_same
theorem val_gV {w : Nat} {vok : V → Prop} {xs : List Str} {kvs : List (Key × V)} (ok : RowsOk w vok xs kvs) {u : Str} (h : u ∈ xs) : valV kvs (.inr u) = some (gV kvs u) := by
  have := valV_mem.mpr ((inr_mem ok.keys u).mpr h)
  unfold gV
  cases e : valV kvs (.inr u) with
  | none => rw [e] at this; cases this
  | some v => rfl
theorem cut_strs (xs : List Str) (hi : Option Int) : ∃ us : List Str, cutV (xs.map V.str) none hi = us.map V.str ∧ (∀ u ∈ us, u ∈ xs) ∧ us.length ≤ xs.length := by
  refine ⟨xs.take (HT.sIx xs.length xs.length hi), ?_, fun u hu => List.mem_of_mem_take hu, by rw [List.length_take]; exact Nat.min_le_right _ _⟩
  unfold cutV
  rw [List.length_map]
  show ((xs.map V.str).drop 0).take (_ - 0) = _
  rw [List.drop_zero, Nat.sub_zero, List.map_take]
theorem pen_ne {H : Hp} {p c : Addr} {n : Nat} {m : List V} (h : Pen H p c n m) {a : Addr} {o : HO} (ha : H a = some o) (hl : ∀ xs, o ≠ .lst xs) : a ≠ p ∧ a ≠ c := by
  obtain ⟨ns, i, s, q⟩ := h
  exact ⟨ne_of ha q.at_ (hl _), ne_of ha q.cells (hl _)⟩
theorem pen_put {H : Hp} {p c a : Addr} {n : Nat} {m : List V} {o o' : HO} (h : Pen H p c n m) (ha : H a = some o) (hl : ∀ xs, o ≠ .lst xs) : Pen (upd H a o') p c n m := h.off (pen_ne h ha hl).1 (pen_ne h ha hl).2
theorem preBits {x y : Str} (h : Pre x y) (hb : isBits y = true) : isBits x = true := bits_iff.mpr fun c hc => bits_iff.mp hb c (List.IsPrefix.subset h hc)
theorem gV_no {w : Nat} {xs : List Str} {kvs : List (Key × V)} (ok : RowsOk w isTgtV xs kvs) {y : Str} (h : y ∉ xs) : gV kvs y = .non := by
  rcases gV_tgt ok y with ⟨_, _, _, h2⟩ | ⟨e, _⟩
  · exact absurd h2 h
  · exact e
theorem gV_sorted {w : Nat} {xs ys : List Str} {kvs ks : List (Key × V)} (ok : RowsOk w isTgtV xs kvs) (ok2 : RowsOk w isTgtV ys ks) (hs : Sorted xs kvs ks ys) (y : Str) : gV ks y = gV kvs y := by
  by_cases h : y ∈ xs
  · unfold gV
    rw [hs.val y h]
  · rw [gV_no ok h, gV_no ok2 (fun q => h (hs.perm.mem_iff.mp q))]
theorem gV_or {w : Nat} {xs : List Str} {kvs : List (Key × V)} (ok : RowsOk w isTgtV xs kvs) (y : Str) : gV kvs y = .non ∨ isTgtV (gV kvs y) := by
  rcases gV_tgt ok y with ⟨t, e, h, _⟩ | ⟨e, _⟩
  · exact .inr (by rw [e]; exact h)
  · exact .inl e
theorem gV_iff {w : Nat} {xs : List Str} {kvs : List (Key × V)} (ok : RowsOk w isTgtV xs kvs) (y : Str) : y ∈ xs ↔ gV kvs y ≠ .non := by
  rcases gV_tgt ok y with ⟨t, e, h, h2⟩ | ⟨e, h2⟩
  · exact ⟨fun _ => (by rw [e]; exact fun z => nomatch z), fun _ => h2⟩
  · exact ⟨fun q => absurd q h2, fun q => absurd e q⟩
theorem prd_get {α β : Type} {F : α → β → Prop} : ∀ {l₁ : List α} {l₂ : List β} {j : Nat} {x : α}, Paired F l₁ l₂ → l₁[j]? = some x → ∃ y, l₂[j]? = some y ∧ F x y
  | _, _, j, x, .nil, h => by simp at h
  | _, _, 0, x, .cons (b := y) f _, h => by
    simp only [List.getElem?_cons_zero] at h
    cases h
    exact ⟨y, rfl, f⟩
  | _, _, j + 1, x, .cons _ t, h => by
    simp only [List.getElem?_cons_succ] at h
    obtain ⟨y, h1, h2⟩ := prd_get (j := j) t h
    exact ⟨y, by simpa using h1, h2⟩
/-- rows that say the same are equal dicts -/
theorem eqDA_of {w w2 : Nat} {xs zs : List Str} {ks ls : List (Key × V)} (ok1 : RowsOk w isTgtV xs ks) (ok2 : RowsOk w2 isTgtV zs ls) (h : ∀ y, gV ks y = gV ls y) : ks.length = ls.length ∧ ∀ p ∈ ks, valV ls p.1 = some p.2 ∧ flatB p.2 = true := by
  have pm := perm_of_mem ok1.pfx.nd ok2.pfx.nd fun y => by rw [gV_iff ok1, gV_iff ok2, h]
  refine ⟨by rw [← keys_len ok1.keys, ← keys_len ok2.keys]; exact pm.length_eq, fun p hp => ?_⟩
  obtain ⟨y, e1, _, _, h4⟩ := ok1.acc.all p hp
  have hy : y ∈ xs := (inr_mem ok1.keys y).mp (List.mem_map.mpr ⟨p, hp, e1⟩)
  have v1 := val_gV ok1 hy
  have v2 := valV_some ok1.acc.nd (k := p.1) (v := p.2) hp
  rw [e1, v1] at v2
  have e2 := Option.some.inj v2
  refine ⟨?_, ?_⟩
  · rw [e1, val_gV ok2 (pm.mem_iff.mp hy), ← h, e2]
  · obtain ⟨t, e3, _⟩ := tgt_sm h4
    rw [e3]
    rfl
theorem mt_dclear {X : Cx} : MtR X "dict.clear" (fun x vs H Q => ∃ (a : Addr) (kvs : List (Key × V)), x = .ref a ∧ vs = [] ∧ H a = some (.dK kvs) ∧ Q .non (upd H a (.dK []))) := by
  intro pins s σ H x xs v us Q I rx rs h
  obtain ⟨a, kvs, rfl, rfl, ha, q⟩ := h
  cases rs
  cases rx
  exact d_clear I ha fun s' J => ⟨.non, _, J, rfl, q⟩
theorem Sorted.rows {w : Nat} {vok : V → Prop} {xs ys : List Str} {kvs kvs' : List (Key × V)} (h : Sorted xs kvs kvs' ys) (ok : RowsOk w vok xs kvs) : RowsOk w vok ys kvs' := by
  have ynd : ys.Nodup := h.perm.nodup_iff.mpr ok.pfx.nd
  refine ⟨h.keys, ⟨ynd, fun x hx => ok.pfx.bits x (h.perm.mem_iff.mp hx), fun x hx => ok.pfx.len x (h.perm.mem_iff.mp hx)⟩, fun kv hk => ?_⟩
  have hm : kv.1 ∈ ys.map Sum.inr := by
    rw [← h.keys]
    exact List.mem_map.mpr ⟨kv, hk, rfl⟩
  obtain ⟨y, hy, e⟩ := List.mem_map.mp hm
  have hx := h.perm.mem_iff.mp hy
  have kn : (kvs'.map (·.1)).Nodup := by
    rw [h.keys]
    exact ynd.map Sum.inr (fun a b h e => h (Sum.inr.inj e))
  have v1 := valV_some kn (k := kv.1) (v := kv.2) hk
  rw [← e, h.val y hx] at v1
  unfold valV at v1
  obtain ⟨p, hp, ep⟩ := Option.map_eq_some_iff.mp v1
  rw [← ep]
  exact ok.val p (List.mem_of_find?_eq_some hp)
theorem rows_sm {w : Nat} {xs : List Str} {kvs : List (Key × V)} (ok : RowsOk w isTgtV xs kvs) (w32 : w ≤ 32) : ∀ kv ∈ kvs, (∃ y, kv.1 = .inr y ∧ Sm 32 y) ∧ isTgtV kv.2 := fun kv hk => by
  obtain ⟨y, h1, h2, h3, h4⟩ := ok.acc.all kv hk
  refine ⟨⟨y, h1, Nat.le_trans h3 w32, fun c hc => ?_⟩, h4⟩
  rcases bits_iff.mp h2 c hc with e | e <;> omega
theorem tx_of {w : Nat} {xs : List Str} {kvs : List (Key × V)} (ok : RowsOk w isTgtV xs kvs) : ∃ es : List (Str × Str), kvs = txK es := by
  have all : ∀ kv ∈ kvs, ∃ e : Str × Str, kv = (.inr e.1, .str e.2) := fun kv hk => by
    obtain ⟨y, h1, _, _, h4⟩ := ok.acc.all kv hk
    obtain ⟨t, h5, _⟩ := tgt_sm h4
    exact ⟨(y, t), Prod.ext h1 h5⟩
  clear ok
  induction kvs with
  | nil => exact ⟨[], rfl⟩
  | cons kv r ih =>
    obtain ⟨es, e1⟩ := ih fun k hk => all k (List.mem_cons_of_mem _ hk)
    obtain ⟨e, e2⟩ := all kv List.mem_cons_self
    exact ⟨e :: es, by rw [e1, e2]; rfl⟩
theorem paired_zs {K : PySem.W.Frag} {H : Hp} : ∀ {zs : List (Addr × Str × Str)}, (∀ z ∈ zs, H z.1 = some (.tup [.str z.2.1, .str z.2.2])) → Paired (fun p (kv : Key × V) => SqT K H p [kV kv.1, kv.2]) (zs.map (·.1)) (txK (zs.map (·.2)))
  | [], _ => .nil
  | z :: zs, h => .cons (SqT.of (h z List.mem_cons_self)) (paired_zs fun y hy => h y (List.mem_cons_of_mem _ hy))
theorem tx_keys (es : List (Str × Str)) : (txK es).map (·.1) = (es.map (·.1)).map Sum.inr := by
  unfold txK
  rw [List.map_map, List.map_map]
  rfl
/-- the rows in their order, made again from pairs -/

theorem lay_sm {n : Nat} {x : Str} (h : Sm n x) : PyData.canLay0 (.str x) = true := by
  simp only [PyData.canLay0]
  unfold PyData.strOk
  rw [Array.all_eq_true']
  intro c hc
  have := h.ch c (Array.mem_toList_iff.mpr hc)
  exact decide_eq_true (by omega)
theorem lay_all {ds : List PyData} (h : ∀ d ∈ ds, PyData.canLay0 d = true) : PyData.canLayAll0 ds = true := by
  induction ds with
  | nil => simp only [PyData.canLayAll0]
  | cons d ds ih =>
    simp only [PyData.canLayAll0]
    rw [h d List.mem_cons_self, ih fun x hx => h x (List.mem_cons_of_mem _ hx)]
    rfl
def prD (es : List (Str × Str)) : List PyData := es.map fun e => .tuple [.str e.1, .str e.2]
theorem shaped_pr {es : List (Str × Str)} (h : ∀ e ∈ es, Sm 100 e.1 ∧ Sm 100 e.2) : SeqAt.shaped (.list (prD es)) = true := by
  unfold SeqAt.shaped prD
  rw [Bool.and_eq_true]
  refine ⟨?_, decide_eq_true ?_⟩
  · simp only [PyData.canLay0]
    refine lay_all fun d hd => ?_
    obtain ⟨e, he, rfl⟩ := List.mem_map.mp hd
    simp only [PyData.canLay0]
    refine lay_all fun d hd => ?_
    simp only [List.mem_cons, List.not_mem_nil, or_false] at hd
    rcases hd with rfl | rfl
    · exact lay_sm (h e he).1
    · exact lay_sm (h e he).2
  · have := depthAll_le (L := 1) (ds := es.map fun e => PyData.tuple [.str e.1, .str e.2]) fun d hd => by
      obtain ⟨e, _, rfl⟩ := List.mem_map.mp hd
      simp only [PyData.depth, PyData.depthAll]
      decide
    simp only [PyData.depth]
    omega
theorem dp_pr {K : PySem.W.Frag} {H : Hp} {ts : List Addr} {es : List (Str × Str)} (h : Paired (fun t (kv : Key × V) => H t = some (.tup [kV kv.1, kv.2])) ts (txK es)) : DpAll K H (ts.map V.ref) (prD es) := by
  induction es generalizing ts with
  | nil => cases h; exact .nil
  | cons e es ih =>
    cases h with
    | cons h1 t => exact .cons (.tup (SqT.of h1) (.cons (.str _) (.cons (.str _) .nil))) (ih t)
theorem tx_sm {w : Nat} {xs : List Str} {es : List (Str × Str)} (ok : RowsOk w isTgtV xs (txK es)) (w32 : w ≤ 32) : ∀ e ∈ es, Sm 100 e.1 ∧ Sm 100 e.2 := fun e he => by
  obtain ⟨⟨y, h1, h2⟩, h3⟩ := rows_sm ok w32 (.inr e.1, .str e.2) (List.mem_map.mpr ⟨e, he, rfl⟩)
  obtain ⟨t, h4, h5⟩ := tgt_sm h3
  cases h1
  cases h4
  exact ⟨⟨by have := h2.ln; omega, h2.ch⟩, ⟨by have := h5.ln; omega, h5.ch⟩⟩
/-- a dict of the sorted keys is the sorted rows -/
theorem due_sorted {w : Nat} {xs ys zs : List Str} {kvs ks : List (Key × V)} (ok : RowsOk w isTgtV xs kvs) (hs : Sorted xs kvs ks ys) (pm : zs.Perm xs) (up : sortedS zs = true) : (zs.map fun u => ((.inr u : Key), gV kvs u)) = ks := by
  have e : zs = ys := up_uniq (pm.trans hs.perm.symm) up hs.up
  subst e
  have ok2 := hs.rows ok
  have kn : (ks.map (·.1)).Nodup := ok2.acc.nd
  have l := keys_len hs.keys
  refine List.ext_getElem (by rw [List.length_map, l]) fun i h1 h2 => ?_
  rw [List.getElem_map]
  have h3 : i < zs.length := by omega
  have e1 : ks[i].1 = .inr zs[i] := by
    have := congrArg (fun l => l[i]?) hs.keys
    simp only [List.getElem?_map, List.getElem?_eq_getElem h2, List.getElem?_eq_getElem h3, Option.map_some] at this
    exact Option.some.inj this
  have e2 : gV ks zs[i] = ks[i].2 := by
    unfold gV
    rw [valV_some kn (show (Sum.inr zs[i], ks[i].2) ∈ ks by rw [← e1]; exact List.getElem_mem h2)]
    rfl
  rw [← gV_sorted ok ok2 hs, e2]
  exact Prod.ext e1.symm rfl
theorem drAll_tx {K : PySem.W.Frag} {H : Hp} {N : Addr → Prop} : ∀ l : List Str, DrAll K H N (l.map V.str) (l.map PyData.str)
  | [] => .nil
  | x :: r => .cons (.str x) (drAll_tx r)
theorem ok_tx {l : List Str} (h : ∀ x ∈ l, Sm 100 x) (few : l.length ≤ 60) : OkD 1 (60 * (1002 + 2) + 2) (.list (l.map PyData.str)) := OkD.list (by rw [List.length_map]; exact few) fun d hd => by
  obtain ⟨x, hx, rfl⟩ := List.mem_map.mp hd
  exact (h x hx).ok (by decide)
theorem few_mem : ∀ {ks xs : List Str}, ks.Nodup → (∀ z ∈ ks, z ∈ xs) → ks.length ≤ xs.length
  | [], _, _, _ => Nat.zero_le _
  | k :: r, xs, nd, h => by
    obtain ⟨n1, n2⟩ := List.nodup_cons.mp nd
    have hk := h k List.mem_cons_self
    have h1 := List.length_erase_of_mem hk
    have pos : 0 < xs.length := List.length_pos_of_mem hk
    have ih := few_mem (ks := r) (xs := xs.erase k) n2 fun z hz => (List.mem_erase_of_ne (fun e => n1 (by rw [← e]; exact hz))).mpr (h z (List.mem_cons_of_mem _ hz))
    rw [List.length_cons]
    omega
theorem same_vals {w : Nat} {xs ys : List Str} {es fs : List (Str × Str)} (ok : RowsOk w isTgtV xs (txK es)) (hs : Sorted xs (txK es) (txK fs) ys) : ∀ v, v ∈ fs.map (·.2) ↔ v ∈ es.map (·.2) := by
  have ok2 := hs.rows ok
  have key : ∀ {a b : List (Str × Str)} {as bs : List Str}, RowsOk w isTgtV as (txK a) → RowsOk w isTgtV bs (txK b) → (∀ y, y ∈ as → y ∈ bs) → (∀ y ∈ as, valV (txK b) (.inr y) = valV (txK a) (.inr y)) → ∀ v, v ∈ a.map (·.2) → v ∈ b.map (·.2) := fun {a b as bs} oa ob sub val v hv => by
    obtain ⟨p, hp, rfl⟩ := List.mem_map.mp hv
    have hm : ((.inr p.1 : Key), V.str p.2) ∈ txK a := List.mem_map.mpr ⟨p, hp, rfl⟩
    have hy : p.1 ∈ as := (inr_mem oa.keys p.1).mp (List.mem_map.mpr ⟨_, hm, rfl⟩)
    have e1 := valV_some oa.acc.nd hm
    rw [← val p.1 hy] at e1
    unfold valV at e1
    obtain ⟨kv, hk, e2⟩ := Option.map_eq_some_iff.mp e1
    obtain ⟨r, hr, rfl⟩ := List.mem_map.mp (List.mem_of_find?_eq_some hk)
    exact List.mem_map.mpr ⟨r, hr, V.str.inj e2⟩
  intro v
  exact ⟨key ok2 ok (fun y hy => hs.perm.mem_iff.mp hy) (fun y hy => (hs.val y (hs.perm.mem_iff.mp hy)).symm) v, key ok ok2 (fun y hy => hs.perm.mem_iff.mpr hy) (fun y hy => hs.val y hy) v⟩
def spRight (C : Addr) : Sp := fun vs H Q _ => ∃ (x e d : Addr) (z : Nat) (xs ys : List Str) (kvs ks : List (Key × V)), vs = [.ref x, .int z, .ref d] ∧ MapAt C H x e z ks ∧ H d = some (.dK kvs) ∧ RowsOk z isTgtV xs kvs ∧ Sorted xs kvs ks ys ∧ z ≤ 32 ∧ xs.length ≤ 40 ∧ ∀ H', Same H H' → Q (.bl true) H'
theorem vals_tx (es : List (Str × Str)) : (txK es).map (·.2) = (es.map (·.2)).map V.str := by
  unfold txK
  rw [List.map_map, List.map_map]
  rfl
/-! ### def f(a, .., *v) -/
def starSp (n : Nat) (sp : Sp) : Sp := fun vs H Q E => ∃ ws rest, vs = ws ++ rest ∧ ws.length = n ∧ rest.length ≤ sizeLine ∧ ∀ p, H p = none → sp (ws ++ [V.ref p]) (upd H p (.tup rest)) Q E
theorem okStar2 {P : Program} {w : World} {K : PySem.W.Frag} {mg : Str → Option Value} {base : Heap} {x qual : Str} {st : Stmt} {f : Addr} {fd : FuncData} {N : List Str} {p1 p2 pv : Str} {k : Nat} {sp : Sp} (F : Fun K x qual st f fd) (S : FnScope N [p1, p2, pv] (defScope st))
    (h0 : ∀ (kV doc pm : Value) (an : Option Addr) (cdv ct a b : Value), bindArgs (PySem.W.fnOf x qual (defArgs st) (defBody st) (defScope st) .none kV doc pm an cdv ct) ⟨[a, b], []⟩ = (newTuple [] >>= fun t => pure [(p1, a), (p2, b), (pv, t)]))
    (h1 : ∀ (kV doc pm : Value) (an : Option Addr) (cdv ct a b r : Value) (rs : List Value), bindArgs (PySem.W.fnOf x qual (defArgs st) (defBody st) (defScope st) .none kV doc pm an cdv ct) ⟨a :: b :: r :: rs, []⟩ = (newTuple (r :: rs) >>= fun t => pure [(p1, a), (p2, b), (pv, t)]))
    (hbody : ∀ (cdv : Value) (A : Around) (outer : List Env) (s : Shared) (H : Hp) (vs : List V) (Q : VK) (E : XK), Room k (A.deeper (envOfC qual (defScope st) s.heap.objs.size f cdv)) → sp vs H Q E →
      ∃ t, PSs (cxOf CX0 P w K mg base N qual (defScope st) f cdv A outer s H E).nox (defBody st) t ∧ t { nx := fun _ H' => Q .non H', rt := Q } (start N vs) H) : FnR P w K mg base CX0 (k + 1) f (starSp 2 sp) := by
  obtain ⟨oc, od, kV, doc, pm, an, cdv, ct, osl, rfl, lk, hcd⟩ := F.ex
  refine StX.fn_star (ps := [p1, p2]) (pv := pv) lk hcd S StX.cxUp_none (fun us rest h => StX.bind_star2 (B := fun us => bindArgs (PySem.W.fnOf x qual (defArgs st) (defBody st) (defScope st) .none kV doc pm an cdv ct) ⟨us, []⟩) (fun a b => h0 kV doc pm an cdv ct a b) (fun a b r rs => h1 kV doc pm an cdv ct a b r rs) us rest h) fun A outer s H vs Q E hr hsp => ?_
  obtain ⟨t, h, q⟩ := hbody cdv A outer s H vs Q E hr hsp
  exact ⟨t, h.nox, q⟩

/-- rows given as pairs -/
def spOfI (K : PySem.W.Frag) (C : Addr) : Sp := fun vs H Q _ => ∃ (p : Addr) (z : Nat) (ts : List Addr) (es : List (Str × Str)) (xs : List Str), vs = [.ref C, .int z, .ref p] ∧ H p = some (.tup (ts.map V.ref)) ∧ Paired (fun t (e : Str × Str) => SqT K H t [.str e.1, .str e.2]) ts es ∧ RowsOk z isTgtV xs (txK es) ∧ 1 ≤ z ∧ z ≤ 32 ∧ xs.length ≤ 40 ∧ Made C z xs (txK es) H Q
theorem Paired.at {α β : Type} {R : α → β → Prop} : ∀ {as : List α} {bs : List β}, Paired R as bs → ∀ {i : Nat} {a : α}, as[i]? = some a → ∃ b, bs[i]? = some b ∧ R a b
  | _, _, .cons h t, 0, a, e => by cases e; exact ⟨_, rfl, h⟩
  | _, _, .cons h t, i + 1, a, e => Paired.at t e
theorem kit_tuple {K : PySem.W.Frag} : PySem.W.kitOne K (.type "tuple") (.type "tuple") = some true := kitv (K := K) (t := "tuple") (c := "tuple") (b := true) (by decide +kernel)
theorem ty_tup {K : PySem.W.Frag} {H : Hp} {a : Addr} {xs : List V} (h : SqT K H a xs) : TyX K H (.ref a) (.type "tuple") := by
  rcases h with (h | ⟨o, h⟩) | ⟨o, _, _, h, hc, _⟩
  · exact .base (.tup h)
  · exact .fTuple h
  · exact .kTuple h hc
abbrev sOf : Stmt := inClass (top 17) 1
section
variable {P : Program} {w : World} {K : PySem.W.Frag} {mg : Str → Option Value} {base : Heap}
abbrev NOf : List Str := ["cls", "width", "pairs", "rows", "pair", "prefix", "target"]
theorem scOf : FnScope NOf ["cls", "width", "pairs"] (defScope sOf) := ⟨rfl, rfl, rfl, by decide +kernel, rfl, by decide +kernel, by decide +kernel⟩
set_option maxHeartbeats 8000000 in
theorem ok_Of {f fT CC : Addr} {fd fdT : FuncData} {k : Nat} (F : Fun K "of" "Table.of" sOf f fd)
    (m_len : mg "len" = none)
    (m_tuple : mg "tuple" = none)
    (m_isinstance : mg "isinstance" = none)
    (m_str : mg "str" = none)
    (GT : FnOk P w K mg base CX0 k fT fdT ["self", "width", "rows"] (spInit K CC isTgtV))
    (MC : Mk K CC fT) (bT : Binds K fdT ["self", "width", "rows"] [])
    : FnR P w K mg base CX0 (k + 2) f (starSp 2 ((spOfI K CC))) := by
  refine okStar2 (sp := ((spOfI K CC))) F scOf (fun _ _ _ _ _ _ _ _  => rfl) (fun _ _ _ _ _ _ _ _ _ _  => rfl) (fun cdv A outer s H vs Q E hr h => ?_)
  · obtain ⟨p, z, ts, es, xs, rfl, hp, hpr, ok, z1, z32, few, q⟩ := h
    have nd := scOf.nd
    have hu := hr.units
    have hu1 := hu_of hr
    have hr1 := hr.mono (Nat.le_succ k)
    refine ⟨_, pss_cons (ps_set (i := 3) nd rfl (.inl rfl) pe_dnewK)
      (pss_cons (ps_for PassesOwn.never rfl (pi_tup (pv 2)) (pg_name (i := 4) nd rfl (.inl rfl))
        (pss_cons (ps_if (PW.pt (pw_or (pt_not (pt_val (pe_callB call_isi (by rfl) m_isinstance (by decide +kernel) (pa_cons (pv 4) (pa_cons (pe_bltn (v := .ty "tuple") (by rfl) m_tuple (by decide +kernel) rfl) pa_nil))))) (pw_or1 (pt_cmpR op_ne (pe_callB call_len_seq (by rfl) m_len (by decide +kernel) (pa_cons (pv 4) pa_nil)) pe_int (nomark _)))))
          (pss_one ps_never) pss_nil)
        (pss_cons (ps_asg (pv 4) (pg_tup rfl (pgs_cons (pg_name (i := 5) nd rfl (.inl rfl)) (pgs_cons (pg_name (i := 6) nd rfl (.inl rfl)) pgs_nil))))
        (pss_cons (ps_if (PW.pt (pw_or (pt_not (pt_val (pe_callB call_isi (by rfl) m_isinstance (by decide +kernel) (pa_cons (pv 5) (pa_cons (pe_bltn (v := .ty "str") (by rfl) m_str (by decide +kernel) rfl) pa_nil))))) (pw_or1 (pt_cmp (pc_din hu1 (pv 5) (pv 3))))))
          (pss_one ps_never) pss_nil)
        (pss_one (ps_dput hu1 (pv 3) (pv 5) (pv 6) rfl))))))
      (pss_one (ps_ret (pe_makeL (i := 0) MC GT hr (by rfl) (.inl (by rfl)) bT (pa_cons (pv 1) (pa_cons (pv 3) pa_nil)))))), ?_⟩
    have lex : es.length = xs.length := by rw [keys_len ok.keys]; exact (List.length_map _).symm
    have hkey : es.map (·.1) = xs := by
      have e := ok.keys
      unfold txK at e
      rw [List.map_map] at e
      exact (List.map_inj_right (fun a b h => Sum.inr.inj h)).mp (by rw [List.map_map]; exact e)
    have knd : (es.map (·.1)).Nodup := by rw [hkey]; exact ok.pfx.nd
    have lts : ts.length = es.length := hpr.length
    refine fun d nd0 => ?_
    have dp : d ≠ p := (ne_of_none hp nd0).symm
    have s0 := same_upd (o := .dK []) nd0
    refine ⟨.ref p, rfl, p, rfl, ⟨_, .inl (.inl (s0 _ _ hp))⟩, for_tup (K := K) (a := p) (xs := ts.map V.ref) (fun i σ H' => (∃ x4 x5 x6, σ = [some (.ref CC), some (.int z), some (.ref p), some (.ref d), x4, x5, x6]) ∧ Same H H' ∧ H' d = some (.dK (txK (es.take i)))) ⟨⟨_, _, _, rfl⟩, s0, upd_same⟩ (fun _ _ _ _ h => .inl (.inl (h.2.1 _ _ hp))) ?_ ?_⟩
    · rintro i v σ H' hv ⟨⟨x4, x5, x6, rfl⟩, sH, hd⟩
      rw [List.getElem?_map] at hv
      obtain ⟨t, ht, rfl⟩ := Option.map_eq_some_iff.mp hv
      obtain ⟨e, he, hq⟩ := Paired.at hpr ht
      have hq1 := SqT.same sH hq
      have hi : i < es.length := (List.getElem?_eq_some_iff.mp he).1
      have hee : es[i] = e := (List.getElem?_eq_some_iff.mp he).2
      have hm : e ∈ es := List.mem_of_getElem? he
      have hsm := tx_sm ok z32 e hm
      have fresh : (.inr e.1 : Key) ∉ (txK (es.take i)).map (·.1) := by
        unfold txK
        rw [List.map_map, List.mem_map]
        rintro ⟨e2, h2, q2⟩
        have q3 : e2.1 = e.1 := Sum.inr.inj q2
        obtain ⟨j, hj, ej⟩ := List.mem_take_iff_getElem.mp h2
        have e5 : (es.map (·.1))[j]'(by rw [List.length_map]; omega) = (es.map (·.1))[i]'(by rw [List.length_map]; omega) := by
          rw [List.getElem_map, List.getElem_map, ej, hee, q3]
        have := (List.getElem_inj knd).mp e5
        omega
      have vn : valV (txK (es.take i)) (.inr e.1) = none := by
        cases ev : valV (txK (es.take i)) (.inr e.1) with
        | none => rfl
        | some v => exact absurd (valV_mem.mp (by rw [ev]; rfl)) fresh
      have fewI : (txK (es.take i)).length < sizeLine := big_lt (by unfold txK; rw [List.length_map, List.length_take]; omega)
      refine ⟨.ref t, rfl, .ref t, .ty "tuple", .type "tuple", .type "tuple", _, rfl, .ty _, ty_tup hq1, kit_tuple, _, rfl, iteF ⟨.ref t, rfl, t, _, rfl, .inr hq1, rfl, _, rfl, iteNS rfl ?_⟩⟩
      refine ⟨.ref t, rfl, t, _, rfl, hq1, rfl, _, _, rfl, _, _, rfl, rfl, ?_⟩
      obtain ⟨tt, ty, kt⟩ := TyS.of (K := K) (H := H') (N := fun _ => True) (.str e.1)
      refine ⟨.str e.1, rfl, .str e.1, .ty "str", .type tt, .type "str", _, rfl, .ty _, ty, kt, _, rfl, iteF ⟨.str e.1, rfl, .ref d, rfl, d, none, rfl, ?_, _, rfl, iteF ?_⟩⟩
      · rw [← vn]
        exact DGet.k (k := .inr e.1) hd
      refine ⟨.str e.2, rfl, .ref d, rfl, .str e.1, rfl, d, _, rfl, DPut.k (k := .inr e.1) hd fewI, ⟨_, _, _, rfl⟩, fun b o eb => by rw [upd_ne (ne_of_none eb nd0)]; exact sH _ _ eb, ?_⟩
      rw [upd_same, putK_end fresh, List.take_add_one, he]
      unfold txK
      rw [List.map_append]
      rfl
    · rintro σ H' ⟨⟨x4, x5, x6, rfl⟩, sH, hd⟩
      rw [List.length_map, lts, List.take_length] at hd
      refine ⟨rfl, .int z, rfl, .ref d, rfl, fun x dx nx ndx nex => ?_⟩
      have dx1 : d ≠ x := ne_of_none hd nx
      have dx2 : d ≠ dx := ne_of_none hd ndx
      refine ⟨x, dx, d, z, xs, txK es, rfl, upd_same, z1, z32, by rw [upd_ne dx1, upd_ne dx2]; exact hd, ok, by omega, fun e ys kvs' H4 ne hs hmap keep => ⟨rfl, ?_⟩⟩
      exact q x e ys kvs' H4 (sH.free nx) (sH.trans (Same.made nx ndx keep)) hs hmap
end
abbrev sRi : Stmt := top 26
section
variable {P : Program} {w : World} {K : PySem.W.Frag} {mg : Str → Option Value} {base : Heap}
abbrev NRi : List Str := ["some", "size", "lines", "due", "prefix", "again", "found"]
theorem scRi : FnScope NRi ["some", "size", "lines"] (defScope sRi) := ⟨rfl, rfl, rfl, by decide +kernel, rfl, by decide +kernel, by decide +kernel⟩
set_option maxHeartbeats 8000000 in
theorem ok_Ri {f fTa pTa fPw pPw fR pR fWk CC CD : Addr} {fd fdTa fdPw fdR fdWk : FuncData} {k : Nat} (F : Fun K "_law_right" "_law_right" sRi f fd) (OCC : ObjC K CC) (kiD : PySem.W.kitOne K (.ref CC) (.ref CD) = some true) (kiC : PySem.W.kitOne K (.ref CC) (.ref CC) = some true) (sys : ∃ mm, base.Ns sysModules mm)
    (m_sorted : mg "sorted" = none)
    (m_dict : mg "dict" = none)
    (m_range : mg "range" = none)
    (GTa : FnOk P w K mg base CX0 k fTa fdTa ["self"] (spTargets CC))
    (PTa : PropOf K CC "targets" pTa fTa) (bTa : Binds K fdTa ["self"] [])
    (clC : Cls K CC)
    (m_repr : mg "repr" = none)
    (m_list : mg "list" = none)
    (m_set : mg "set" = none)
    (GPw : FnOk P w K mg base CX0 k fPw fdPw ["self"] (spWidthP CC))
    (PPw : PropOf K CC "width" pPw fPw) (bPw : Binds K fdPw ["self"] [])
    (GR : FnOk P w K mg base CX0 k fR fdR ["self"] (spRows CC))
    (PR : PropOf K CC "rows" pR fR) (bR : Binds K fdR ["self"] [])
    (GWk : GFn P w K mg base k fWk fdWk ["self"] (spWalk CC))
    (mtWk : Meth K CC "walk" fWk) (bWk : Binds K fdWk ["self"] [])
    (gD : mg "PrefixMap" = some (.ref CD))
    (m_isinstance : mg "isinstance" = none)
    (gC : mg "Table" = some (.ref CC))
    : FnG P w K mg base (k + 4) f fd ["some", "size", "lines"] (spRight CC) := by
  refine okG F scRi (fun vs H Q E h => ?_) (fun cdv A outer s H vs Q g hr h => ?_)
  · obtain ⟨x, e, d, z, xs, ys, kvs, ks, rfl, _⟩ := h
    rfl
  · obtain ⟨x, e, d, z, xs, ys, kvs, ks, rfl, hx, hd, ok, hs, z32, few, q⟩ := h
    have nd := scRi.nd
    have hu := hr.units
    have hu1 := hu_of hr
    have hrL := hr
    have hr := hrL.mono (show k + 1 ≤ k + 3 by omega)
    have hr1 := hr.mono (Nat.le_succ k)
    refine ⟨_, pss_cons (ps_set (i := 3) nd rfl (.inl rfl) (pe_callTy (call_dictPn rfl) (by rfl) m_dict (by decide +kernel) (pa_cons (pe_lc (own := [("prefix", 4)]) (g := gName 4) (tt := tYes) rfl nd (pi_list (pe_callB (call_sortedD rfl) (by rfl) m_sorted (by decide +kernel) (pa_cons (pv 2) pa_nil))) (blkOk_by (N := NRi) (sc := defScope sRi) (by decide +kernel)) (fun _ _ _ _ _ => pg_name (i := 4) nd rfl (.inl rfl)) (fun _ _ _ _ _ => pts_nil) (fun _ _ _ _ _ => (pe_tup (pa_cons (pv 4) (pa_cons (pe_dget hu1 (pv 2) (pv 4) (fun _ _ => rfl)) pa_nil))))) pa_nil)))
      (pss_cons (ps_for PassesOwn.never rfl (pi_range1 (by rfl) m_range (pa_cons pe_int pa_nil)) (pg_name (i := 5) nd rfl (.inl rfl))
        (pss_cons (ps_set (i := 6) nd rfl (.inl rfl) (pe_prop (pv 0) clC PTa GTa hr bTa .nil pass0 rfl))
        (pss_cons (ps_if (pt_cmpR op_ne (pe_callB (call_repr g hu sys) (by rfl) m_repr (by decide +kernel) (pa_cons (pv 6) pa_nil)) (pe_callB (call_repr g hu sys) (by rfl) m_repr (by decide +kernel) (pa_cons (pe_callB (cr_sortTx rfl) (by rfl) m_sorted (by decide +kernel) (pa_cons (pe_callTy (cr_setTx rfl) (by rfl) m_set (by decide +kernel) (pa_cons (pe_listVals rfl (by rfl) m_list (pv 2)) pa_nil)) pa_nil)) pa_nil)) (nomark _))
          (pss_one (ps_ret pe_bl)) pss_nil)
        (pss_cons (ps_if (PW.pt (pw_or (pt_cmpR op_ne (pe_callB (call_repr g hu sys) (by rfl) m_repr (by decide +kernel) (pa_cons (pe_prop (pv 0) clC PR GR hr bR .nil pass0 rfl) pa_nil)) (pe_callB (call_repr g hu sys) (by rfl) m_repr (by decide +kernel) (pa_cons (pv 3) pa_nil)) (nomark _)) (pw_or1 (pt_cmpR op_ne (pe_prop (pv 0) clC PPw GPw hr bPw .nil pass0 rfl) (pv 1) (nomark _)))))
          (pss_one (ps_ret pe_bl)) pss_nil)
        (pss_cons (ps_expr (pe_bm PySem.F.plainAttrs_list PySem.F.slot_list_append PySem.F.type_list_append mt_append (pv 6) (pa_cons pe_str pa_nil)))
        (pss_one (ps_dput hu1 (pe_prop (pv 0) clC PR GR hr bR .nil pass0 rfl) pe_str pe_str rfl)))))))
      (pss_one (ps_ret (pe_and (pe_callB call_isi (by rfl) m_isinstance (by decide +kernel) (pa_cons (pv 0) (pa_cons (pe_glob (v := .ref CC) rfl gC rfl) pa_nil))) (pe_and (pe_callB call_isi (by rfl) m_isinstance (by decide +kernel) (pa_cons (pv 0) (pa_cons (pe_glob (v := .ref CD) rfl gD rfl) pa_nil))) (pe_one (pe_cmpR (op_eqD hu) (pe_listM (pv 0) clC mtWk GWk hr1 bWk hrL (by rfl) m_list (by decide +kernel)) (LiI.pe_listItems rfl (pv 3) (by rfl) m_list (by decide +kernel)) (nomark _)))))))), ?_⟩
    have okS := hs.rows ok
    obtain ⟨es, rfl⟩ := tx_of ok
    obtain ⟨fs, rfl⟩ := tx_of okS
    have znd0 := ok.pfx.nd
    have lfx : (txK fs).length = xs.length := by rw [← keys_len okS.keys, hs.perm.length_eq]
    have lex : (txK es).length = xs.length := (keys_len ok.keys).symm
    have les : es.length = xs.length := by rw [← lex]; exact (List.length_map _).symm
    have lfs : fs.length = xs.length := by rw [← lfx]; exact (List.length_map _).symm
    obtain ⟨ds, hds, dl, okds⟩ := dr_rows (K := K) (H := H) (N := fun _ => False) (txK fs) (rows_sm okS z32)
    have okD : OkD 1 (60 * (322 + 82 + 4) + 2) (.dict ds) := OkD.dict (by omega) okds
    have sms := tx_sm ok z32
    refine ⟨.ref d, rfl, d, txK es, xs, rfl, .inl hd, ok.keys, by omega, fun zs l hperm hup nl => ?_⟩
    have znd : zs.Nodup := hperm.nodup_iff.mpr znd0
    have zl := hperm.length_eq
    have s1 := same_upd (o := .lst (zs.map V.str)) nl
    have hl := upd_same (H := H) (a := l) (o := .lst (zs.map V.str))
    have hd1 := s1 _ _ hd
    revert s1 hl hd1
    generalize upd H l (.lst (zs.map V.str)) = H1
    intro s1 hl hd1
    refine ⟨l, rfl, ⟨_, SqL.of hl⟩, fun D nD => ?_⟩
    refine lc_tups walk_list zs V.str (fun u => [some (.ref x), some (.int z), some (.ref d), none, some (.str u), none, none]) (fun _ => true) V.str (fun u => gV (txK es) u) (by rw [List.length_map]) nD (by rw [List.length_map]; omega) (fun _ s => SqL.of (s _ _ hl)) (fun i _ v _ h => ⟨h.1, by have e := h.2; rw [List.getElem?_map] at e; obtain ⟨u, hu, rfl⟩ := Option.map_eq_some_iff.mp e; exact ⟨u, hu, rfl⟩⟩) (fun _ _ _ _ _ h => h) (fun _ _ => rfl) (fun _ _ _ _ _ h => h)
      (fun u hu _ H' Q' s h => ⟨.str u, rfl, .ref d, rfl, .str u, rfl, d, gV (txK es) u, rfl, by rw [← val_gV ok (hperm.mem_iff.mp hu)]; exact DGet.k (k := .inr u) (s _ _ hd1), by show 2 ≤ sizeLine; decide, h⟩) fun H2 ts s2 hD hp => ?_
    rw [List.filter_eq_self.mpr fun _ _ => rfl] at hp
    refine ⟨D, ts, zs.map fun u => ((.inr u : Key), gV (txK es) u), rfl, SqL.of hD, prd_map (R := fun p (kv : Key × V) => SqT K H2 p [kV kv.1, kv.2]) _ (hp.mono fun t u h => SqT.of h.1), fun p1 np1 => ?_⟩
    rw [mergeK_map _ znd, due_sorted ok hs hperm hup]
    have s3 := same_upd (o := .dK (txK fs)) np1
    have hp1 := upd_same (H := H2) (a := p1) (o := .dK (txK fs))
    have s03 := s1.trans (s2.trans s3)
    have hx9 := hx.same s03
    have hd9 := s03 _ _ hd
    have done := fun H' (s : Same _ H') => q H' (s03.trans s)
    clear hD hp s2 s3 np1 nD hl hd1 s1 nl s03 hx hd q
    revert hp1 hx9 hd9 done
    generalize upd H2 p1 (.dK (txK fs)) = H9
    intro hp1 hx9 hd9 done
    show gName 3 (V.ref p1) [some (.ref x), some (.int z), some (.ref d), none, none, none, none] H9 _
    refine ⟨2, rfl, by decide, by decide, for_range (n := 2) (fun i σ H' => (∃ x5 x6, σ = [some (.ref x), some (.int z), some (.ref d), some (.ref p1), none, x5, x6]) ∧ Same H9 H') ⟨⟨_, _, rfl⟩, Same.refl _⟩ ?_ ?_⟩
    · rintro i σ HA hi ⟨⟨x5, x6, rfl⟩, sA⟩
      have hxA := hx9.same sA
      obtain ⟨⟨dx, hx'⟩, heA⟩ := id hxA
      refine ⟨.ref x, rfl, x, dx, _, rfl, hx', x, e, z, fs.map (·.2), txK fs, rfl, hxA, vals_tx fs, by rw [List.length_map]; omega, fun tp ks HB sB ntp htp knd kmem kup => ?_⟩
      have memE : ∀ v, v ∈ fs.map (·.2) ↔ v ∈ es.map (·.2) := same_vals ok hs
      have ksm : ∀ v ∈ ks, Sm 100 v := fun v hv => by
        obtain ⟨p, hp, rfl⟩ := List.mem_map.mp ((memE v).mp ((kmem v).mp hv))
        exact (sms p hp).2
      have kle : ks.length ≤ 60 := by
        have := few_mem knd fun v hv => (kmem v).mp hv
        rw [List.length_map] at this
        omega
      have okK := ok_tx ksm kle
      show gName 6 (V.ref tp) [some (.ref x), some (.int z), some (.ref d), some (.ref p1), none, some (.int (0 + i)), x6] HB _
      refine ⟨.ref tp, rfl, .ref tp, .list (ks.map PyData.str), fun _ => True, rfl, .lst trivial (SqL.of htp) (drAll_tx ks), okK.sh, Nat.le_trans okK.dp (by decide), Nat.le_trans okK.ln (by decide), ?_⟩
      have hdB := sB _ _ (sA _ _ hd9)
      refine ⟨.ref d, rfl, d, txK es, rfl, hdB, fun l1 nl1 => ⟨l1, es.map (·.2), rfl, SqL.of (by rw [upd_same, vals_tx]), by rw [List.length_map]; omega, fun p2 ks2 np2 nd2 mem2 len2 => ⟨p2, ks2, rfl, upd_same, fun l3 ys3 nl3 pm3 up3 => ?_⟩⟩⟩
      have e3 : ys3 = ks := up_uniq ((List.perm_ext_iff_of_nodup (pm3.nodup_iff.mpr nd2) knd).mpr fun v => (pm3.mem_iff.trans (mem2 v)).trans ((memE v).symm.trans (kmem v).symm)) up3 kup
      subst e3
      have s5 := (same_upd (o := .lst ((txK es).map (·.2))) nl1).trans ((same_upd (o := TxO w p2 ks2) np2).trans (same_upd (o := .lst (ys3.map V.str)) nl3))
      refine ⟨.ref l3, .list (ys3.map PyData.str), fun _ => True, rfl, .lst trivial (SqL.of upd_same) (drAll_tx ys3), okK.sh, Nat.le_trans okK.dp (by decide), Nat.le_trans okK.ln (by decide), rfl, _, rfl, iteNS rfl ?_⟩
      have sC := sB.trans s5
      have htpC := s5 _ _ htp
      have hxC := hxA.same sC
      have hx'C := sC _ _ hx'
      refine ⟨.ref x, rfl, x, dx, _, rfl, hx'C, x, e, z, txK fs, rfl, hxC, fun d2 nd2 => ?_⟩
      have t2 := same_upd (o := .dK (txK fs)) nd2
      refine ⟨.ref d2, .dict ds, fun _ => True, rfl, .dic trivial (.inl upd_same) (hds.move (fun _ _ n _ => n.elim) fun _ n => n.elim), okD.sh, Nat.le_trans okD.dp (by decide), Nat.le_trans okD.ln (by decide), ?_⟩
      refine ⟨.ref p1, rfl, .ref p1, .dict ds, fun _ => True, rfl, .dic trivial (.inl (t2 _ _ (sC _ _ (sA _ _ hp1)))) (hds.move (fun _ _ n _ => n.elim) fun _ n => n.elim), okD.sh, Nat.le_trans okD.dp (by decide), Nat.le_trans okD.ln (by decide), rfl, _, rfl, iteNS rfl ?_⟩
      refine ⟨.ref x, rfl, x, dx, _, rfl, t2 _ _ hx'C, x, e, z, txK fs, rfl, hxC.same t2, .int z, rfl, rfl, _, rfl, iteNS rfl ?_⟩
      have htpD := t2 _ _ htpC
      refine ⟨.ref tp, rfl, .inl ⟨rfl, _, SqL.of htpD⟩, tp, _, .str "zz", rfl, rfl, htpD, Nat.lt_of_le_of_lt (show _ ≤ 100 by rw [List.length_map]; omega) (by decide), ?_⟩
      have xtp : x ≠ tp := ne_of_none hx' ntp
      have etp : e ≠ tp := ne_of_none heA ntp
      have hx'E := (upd_ne (o := .lst (ys3.map V.str ++ [.str "zz"])) xtp).trans (t2 _ _ hx'C)
      have heE := (upd_ne (o := .lst (ys3.map V.str ++ [.str "zz"])) etp).trans (t2 _ _ (sC _ _ heA))
      refine ⟨.ref x, rfl, x, dx, _, rfl, hx'E, x, e, z, txK fs, rfl, ⟨⟨dx, hx'E⟩, heE⟩, fun d3 nd3 => ⟨d3, _, rfl, DPut.k (k := .inr "0") upd_same (by rw [lfx]; exact big_lt (by omega)), ?_⟩⟩
      refine ⟨⟨_, _, rfl⟩, sA.trans fun b o eb => ?_⟩
      have n1 : b ≠ tp := ne_of_none eb ntp
      have e1 := (upd_ne (o := .lst (ys3.map V.str ++ [.str "zz"])) n1).trans (t2 _ _ (sC _ _ eb))
      have n3 : b ≠ d3 := ne_of_none e1 nd3
      rw [upd_ne n3, upd_ne n3]
      exact e1
    · rintro σ HA ⟨⟨x5, x6, rfl⟩, sA⟩
      have hxA := hx9.same sA
      obtain ⟨⟨dx, hx'⟩, heA⟩ := id hxA
      refine ⟨.ref x, rfl, .ref x, .ref CC, .ref CC, .ref CC, _, rfl, .own _, .base (.ins hx' clC OCC.ca OCC.cg OCC.ct OCC.ob), kiC, _, rfl, iteT ?_⟩
      refine ⟨.ref x, rfl, .ref x, .ref CD, .ref CC, .ref CD, _, rfl, .own _, .base (.ins hx' clC OCC.ca OCC.cg OCC.ct OCC.ob), kiD, _, rfl, iteT ?_⟩
      refine ⟨.ref x, rfl, x, dx, _, rfl, hx', flds_no _ _ (by decide +kernel) (by decide +kernel), x, e, z, txK fs, rfl, hxA, by omega, fun ts HB sB prB pB npB => ?_⟩
      have sp := same_upd (o := .lst (ts.map V.ref)) npB
      have sC := sA.trans (sB.trans sp)
      have hL := upd_same (H := HB) (a := pB) (o := .lst (ts.map V.ref))
      have pr2 := prB.mono fun t kv h => sp _ _ h
      revert sC hL pr2
      generalize upd HB pB (.lst (ts.map V.ref)) = HC
      intro sC hL pr2
      refine ⟨.ref p1, rfl, p1, txK fs, rfl, sC _ _ hp1, fun HD p2 ts2 sD np2 nts nin hL2 pr3 => ?_⟩
      have shp := shaped_pr (tx_sm okS z32)
      refine ⟨.list (prD fs), .list (prD fs), .lst (SqL.of (sD _ _ hL)) (dp_pr (pr2.mono fun t kv h => sD _ _ h)), .lst (SqL.of hL2) (dp_pr pr3), shp, shp, ?_⟩
      rw [SeqAt.eqv_refl _ (SeqAt.canLay_of_shaped shp)]
      exact done _ (sC.trans sD)
end

theorem Sorted.after {xs ys zs : List Str} {kvs ks ls : List (Key × V)} (h1 : Sorted xs kvs ks ys) (h2 : Sorted ys ks ls zs) : Sorted xs kvs ls zs :=
  ⟨h2.keys, h2.perm.trans h1.perm, h2.up, fun y hy => (h2.val y (h1.perm.mem_iff.mpr hy)).trans (h1.val y hy)⟩
/-- a dict of which a table is made -/
def GivenOk (z : Nat) (xs : List Str) (kvs : List (Key × V)) (H : Hp) (g : Addr) : Prop := ∃ (xs' : List Str) (ks' : List (Key × V)), H g = some (.dK ks') ∧ RowsOk z isTgtV xs' ks' ∧ xs'.length = xs.length ∧ ∀ ks ys, Sorted xs' ks' ks ys → Sorted xs kvs ks ys
theorem sorted_gV {w : Nat} {xs zs : List Str} {kvs : List (Key × V)} (ok : RowsOk w isTgtV xs kvs) (pm : zs.Perm xs) (up : sortedS zs = true) : Sorted xs kvs (zs.map fun u => ((.inr u : Key), gV kvs u)) zs := by
  refine ⟨by rw [List.map_map]; rfl, pm, up, fun y hy => ?_⟩
  have nd : ((zs.map fun u => ((.inr u : Key), gV kvs u)).map (·.1)).Nodup := by
    rw [List.map_map]
    exact (pm.nodup_iff.mpr ok.pfx.nd).map Sum.inr (fun a b h e => h (Sum.inr.inj e))
  rw [valV_some nd (List.mem_map.mpr ⟨y, pm.mem_iff.mpr hy, rfl⟩)]
  exact (val_gV ok hy).symm
def spCopies : Sp := fun vs H Q _ => ∃ (d : Addr) (z : Nat) (xs : List Str) (kvs : List (Key × V)), vs = [.int z, .ref d] ∧ H d = some (.dK kvs) ∧ RowsOk z isTgtV xs kvs ∧ 1 ≤ z ∧ z ≤ 32 ∧ xs.length ≤ 30 ∧ ∀ H', Same H H' → Q (.bl true) H'
abbrev sCo : Stmt := top 27
section
variable {P : Program} {w : World} {K : PySem.W.Frag} {mg : Str → Option Value} {base : Heap}
abbrev NCo : List Str := ["size", "lines", "given", "prefix", "some"]
theorem scCo : FnScope NCo ["size", "lines"] (defScope sCo) := ⟨rfl, rfl, rfl, by decide +kernel, rfl, by decide +kernel, by decide +kernel⟩
set_option maxHeartbeats 8000000 in
theorem ok_Co {f fT fRi CC : Addr} {fd fdT fdRi : FuncData} {k : Nat} (F : Fun K "_law_copies" "_law_copies" sCo f fd)
    (m_sorted : mg "sorted" = none)
    (m_dict : mg "dict" = none)
    (GT : FnOk P w K mg base CX0 k fT fdT ["self", "width", "rows"] (spInit K CC isTgtV))
    (MC : Mk K CC fT) (gC : mg "Table" = some (.ref CC))
    (bT : Binds K fdT ["self", "width", "rows"] [])
    (GRi : FnG P w K mg base k fRi fdRi ["some", "size", "lines"] (spRight CC))
    (FRi : Fun K "_law_right" "_law_right" sRi fRi fdRi) (bRi : Binds K fdRi ["some", "size", "lines"] []) (gRi : mg "_law_right" = some (.ref fRi))
    : FnG P w K mg base (k + 2) f fd ["size", "lines"] spCopies := by
  refine okG F scCo (fun vs H Q E h => ?_) (fun cdv A outer s H vs Q g hr h => ?_)
  · obtain ⟨d, z, xs, kvs, rfl, _⟩ := h
    rfl
  · obtain ⟨d, z, xs, kvs, rfl, hd, ok, z1, z32, few, q⟩ := h
    have nd := scCo.nd
    have hu := hr.units
    have hu1 := hu_of hr
    have hr1 := hr.mono (Nat.le_succ k)
    refine ⟨_, pss_cons (ps_for PassesOwn.never rfl (pi_tup (pe_tup (pa_cons (pe_callTy call_dictD (by rfl) m_dict (by decide +kernel) (pa_cons (pv 1) pa_nil)) (pa_cons (pe_callTy (call_dictPn rfl) (by rfl) m_dict (by decide +kernel) (pa_cons (pe_lc (own := [("prefix", 3)]) (g := gName 3) (tt := tYes) rfl nd (pi_list (pe_callB (call_sortedD rfl) (by rfl) m_sorted (by decide +kernel) (pa_cons (pv 1) pa_nil))) (blkOk_by (N := NCo) (sc := defScope sCo) (by decide +kernel)) (fun _ _ _ _ _ => pg_name (i := 3) nd rfl (.inl rfl)) (fun _ _ _ _ _ => pts_nil) (fun _ _ _ _ _ => (pe_tup (pa_cons (pv 3) (pa_cons (pe_dget hu1 (pv 1) (pv 3) (fun _ _ => rfl)) pa_nil))))) pa_nil)) pa_nil)))) (pg_name (i := 2) nd rfl (.inl rfl))
        (pss_cons (ps_set (i := 4) nd rfl (.inl rfl) (pe_make MC GT hr (by rfl) gC bT .nil pass0 (pa_cons (pv 0) (pa_cons (pv 2) pa_nil))))
        (pss_cons (ps_dput hu1 (pv 2) pe_str pe_str rfl)
        (pss_cons (ps_expr (pe_dpop1 (pv 2) (pe_ix ix_list (pe_callB (call_sortedD rfl) (by rfl) m_sorted (by decide +kernel) (pa_cons (pv 2) pa_nil)) pe_int (fun _ _ => rfl)) ⟨rfl, rfl, rfl, rfl⟩))
        (pss_one (ps_if (pt_not (pt_val (pe_callG GRi g hr1 (by rfl) gRi FRi.kp bRi (pa_cons (pv 4) (pa_cons (pv 0) (pa_cons (pv 1) pa_nil))))))
          (pss_one (ps_ret pe_bl)) pss_nil))))))
      (pss_one (ps_ret pe_bl)), ?_⟩
    refine ⟨.ref d, rfl, d, kvs, rfl, .inl hd, fun g1 ng1 => ?_⟩
    have znd0 := ok.pfx.nd
    have lex : kvs.length = xs.length := (keys_len ok.keys).symm
    have s1 := same_upd (o := .dK kvs) ng1
    have hd1 := s1 _ _ hd
    have hg1 := upd_same (H := H) (a := g1) (o := .dK kvs)
    have g1d : g1 ≠ d := (ne_of_none hd ng1).symm
    revert s1 hd1 hg1
    generalize upd H g1 (.dK kvs) = H1
    intro s1 hd1 hg1
    refine ⟨.ref d, rfl, d, kvs, xs, rfl, .inl hd1, ok.keys, by omega, fun zs l hperm hup nl => ?_⟩
    have znd : zs.Nodup := hperm.nodup_iff.mpr znd0
    have zl := hperm.length_eq
    have hs0 := sorted_gV ok hperm hup
    have s2 := same_upd (o := .lst (zs.map V.str)) nl
    have hl := upd_same (H := H1) (a := l) (o := .lst (zs.map V.str))
    have hd2 := s2 _ _ hd1
    have hg2 := s2 _ _ hg1
    revert s2 hl hd2 hg2
    generalize upd H1 l (.lst (zs.map V.str)) = H2
    intro s2 hl hd2 hg2
    refine ⟨l, rfl, ⟨_, SqL.of hl⟩, fun D nD => ?_⟩
    refine lc_tups walk_list zs V.str (fun u => [some (.int z), some (.ref d), none, some (.str u), none]) (fun _ => true) V.str (fun u => gV kvs u) (by rw [List.length_map]) nD (by rw [List.length_map]; omega) (fun _ s => SqL.of (s _ _ hl)) (fun i _ v _ h => ⟨h.1, by have e := h.2; rw [List.getElem?_map] at e; obtain ⟨u, hu, rfl⟩ := Option.map_eq_some_iff.mp e; exact ⟨u, hu, rfl⟩⟩) (fun _ _ _ _ _ h => h) (fun _ _ => rfl) (fun _ _ _ _ _ h => h)
      (fun u hu _ H' Q' s h => ⟨.str u, rfl, .ref d, rfl, .str u, rfl, d, gV kvs u, rfl, by rw [← val_gV ok (hperm.mem_iff.mp hu)]; exact DGet.k (k := .inr u) (s _ _ hd2), by show 2 ≤ sizeLine; decide, h⟩) fun H3 ts s3 hD hp => ?_
    rw [List.filter_eq_self.mpr fun _ _ => rfl] at hp
    refine ⟨D, ts, zs.map fun u => ((.inr u : Key), gV kvs u), rfl, SqL.of hD, prd_map (R := fun p (kv : Key × V) => SqT K H3 p [kV kv.1, kv.2]) _ (hp.mono fun t u h => SqT.of h.1), fun g2 ng2 => ?_⟩
    rw [mergeK_map _ znd]
    have ok2 := hs0.rows ok
    revert ok2 hs0
    generalize (zs.map fun u => ((.inr u : Key), gV kvs u)) = ks0
    intro hs0 ok2
    have s4 := same_upd (o := .dK ks0) ng2
    have g2d : g2 ≠ d := (ne_of_none (s3 _ _ hd2) ng2).symm
    have g2g1 : g2 ≠ g1 := (ne_of_none (s3 _ _ hg2) ng2).symm
    have s14 := s1.trans (s2.trans (s3.trans s4))
    have hd4 := s4 _ _ (s3 _ _ hd2)
    have hg4 := s4 _ _ (s3 _ _ hg2)
    have hk4 := upd_same (H := H3) (a := g2) (o := .dK ks0)
    have ng2H := (s1.trans (s2.trans s3)).free ng2
    revert s14 hd4 hg4 hk4
    generalize upd H3 g2 (.dK ks0) = H4
    intro s14 hd4 hg4 hk4
    refine ⟨by show 2 ≤ sizeLine; decide, fun p np => ?_⟩
    have s5 := same_upd (o := .tup [.ref g1, .ref g2]) np
    have hp5 := upd_same (H := H4) (a := p) (o := .tup [.ref g1, .ref g2])
    have hd5 := s5 _ _ hd4
    have hg5 := s5 _ _ hg4
    have hk5 := s5 _ _ hk4
    have s15 := s14.trans s5
    have g1p : g1 ≠ p := ne_of_none hg4 np
    have g2p : g2 ≠ p := ne_of_none hk4 np
    revert s15 hd5 hg5 hk5 hp5
    generalize upd H4 p (.tup [.ref g1, .ref g2]) = H5
    intro hp5 hd5 hg5 hk5 s15
    refine ⟨p, rfl, ⟨_, .inl (.inl hp5)⟩, for_tup (K := K) (a := p) (xs := [.ref g1, .ref g2]) (fun i σ H' => (∃ x2 x4, σ = [some (.int z), some (.ref d), x2, none, x4]) ∧ Same H H' ∧ H' d = some (.dK kvs) ∧ H' p = some (.tup [.ref g1, .ref g2]) ∧ (i < 1 → GivenOk z xs kvs H' g1) ∧ (i < 2 → GivenOk z xs kvs H' g2)) ⟨⟨_, _, rfl⟩, s15, hd5, hp5, fun _ => ⟨xs, kvs, hg5, ok, rfl, fun _ _ h => h⟩, fun _ => ⟨zs, ks0, hk5, ok2, zl, fun _ _ h => hs0.after h⟩⟩ (fun _ _ _ _ h => .inl (.inl h.2.2.2.1)) ?_ ?_⟩
    · rintro i v σ HA hv ⟨⟨x2, x4, rfl⟩, sA, hdA, hpA, okA1, okA2⟩
      obtain ⟨g, rfl, gd, gp, ngH, ⟨xs', ks', hgA, okg, lg, sg⟩, gnext⟩ : ∃ g, v = .ref g ∧ g ≠ d ∧ g ≠ p ∧ H g = none ∧ GivenOk z xs kvs HA g ∧ (i + 1 < 2 → g2 ≠ g ∧ GivenOk z xs kvs HA g2) := by
        rcases i with _ | _ | i
        · cases hv
          exact ⟨g1, rfl, g1d, g1p, ng1, okA1 (by decide), fun _ => ⟨g2g1, okA2 (by decide)⟩⟩
        · cases hv
          exact ⟨g2, rfl, g2d, g2p, ng2H, okA2 (by decide), fun h => absurd h (by decide)⟩
        · cases hv
      refine ⟨.int z, rfl, .ref g, rfl, fun x dx nx ndx nex => ?_⟩
      have gx1 : g ≠ x := ne_of_none hgA nx
      have gx2 : g ≠ dx := ne_of_none hgA ndx
      refine ⟨x, dx, g, z, xs', ks', rfl, upd_same, z1, z32, by rw [upd_ne gx1, upd_ne gx2]; exact hgA, okg, by omega, fun e ys kvs' HB ne hs hmap keep => ⟨rfl, ?_⟩⟩
      have sB := Same.made nx ndx keep
      have eg : e ≠ g := by
        have h1 : (upd (upd HA dx (.own x)) x (.ins CC dx [])) g = some (.dK ks') := by rw [upd_ne gx1, upd_ne gx2]; exact hgA
        exact (ne_of_none h1 ne).symm
      have hgB := sB _ _ hgA
      have hdB := sB _ _ hdA
      have hpB := sB _ _ hpA
      have fewg : ks'.length = xs.length := by rw [← lg]; exact (keys_len okg.keys).symm
      clear keep
      obtain ⟨xs2, okP, memP, lenP⟩ := okg.put (y := "1") (v := .str "zz") (by decide +kernel) (Nat.le_trans (by decide +kernel : ("1" : Str).length ≤ 1) z1) (show isTgt (.str "zz") = true by decide +kernel)
      refine ⟨.ref g, rfl, g, _, rfl, DPut.k (k := .inr "1") hgB (big_lt (by omega)), ?_⟩
      have bC := But.upd (H := HB) (p := g) (o := .dK (putK ks' (.inr "1") (.str "zz")))
      have hgC := upd_same (H := HB) (a := g) (o := .dK (putK ks' (.inr "1") (.str "zz")))
      refine ⟨.ref g, rfl, g, rfl, (.inl ⟨_, .inl hgC⟩), .ref g, rfl, g, _, xs2, rfl, .inl hgC, okP.keys, by omega, fun ys2 l2 pm2 up2 nl2 => ?_⟩
      have m1 : ("1" : Str) ∈ ys2 := pm2.mem_iff.mpr ((memP _).mpr (.inl rfl))
      obtain ⟨y0, yr, rfl⟩ : ∃ y0 yr, ys2 = y0 :: yr := by
        cases ys2 with
        | nil => exact (List.not_mem_nil m1).elim
        | cons a r => exact ⟨a, r, rfl⟩
      obtain ⟨v0, hv0⟩ := Option.isSome_iff_exists.mp (valV_mem.mpr ((inr_mem okP.keys y0).mpr (pm2.mem_iff.mp List.mem_cons_self)))
      have s7 := same_upd (o := .lst ((y0 :: yr).map V.str)) nl2
      refine ⟨l2, (y0 :: yr).map V.str, 0, .str y0, rfl, rfl, SqL.of upd_same, atI_nat (j := 0) rfl, _, .inr y0, v0, s7 _ _ hgC, rfl, hv0, ?_⟩
      have bD : But g HB (upd (upd (upd HB g (.dK (putK ks' (.inr "1") (.str "zz")))) l2 (.lst ((y0 :: yr).map V.str))) g (.dK (dropK (putK ks' (.inr "1") (.str "zz")) (.inr y0)))) := (bC.trans (But.of_same s7)).trans But.upd
      revert bD
      generalize upd (upd (upd HB g (.dK (putK ks' (.inr "1") (.str "zz")))) l2 (.lst ((y0 :: yr).map V.str))) g (.dK (dropK (putK ks' (.inr "1") (.str "zz")) (.inr y0))) = HD
      intro bD
      have hdD := bD _ _ gd.symm hdB
      have hpD := bD _ _ gp.symm hpB
      have xg : x ≠ g := gx1.symm
      have hmD := hmap.but bD xg eg
      have sHD : Same H HD := fun b o eb => bD _ _ (ne_of_none eb ngH) (sB _ _ (sA _ _ eb))
      refine ⟨.ref x, rfl, .int z, rfl, .ref d, rfl, x, e, d, z, xs, ys, kvs, kvs', rfl, hmD, hdD, ok, sg _ _ hs, z32, by omega, fun HE sE => ⟨_, rfl, iteF ?_⟩⟩
      refine ⟨⟨_, _, rfl⟩, sHD.trans sE, sE _ _ hdD, sE _ _ hpD, fun h => absurd h (by omega), fun h => ?_⟩
      obtain ⟨n2, xs3, ks3, h3, r3⟩ := gnext h
      exact ⟨xs3, ks3, sE _ _ (bD _ _ n2 (sB _ _ h3)), r3⟩
    · rintro σ HA ⟨⟨x2, x4, rfl⟩, sA, _⟩
      exact q _ sA
end

theorem Sorted.rowsS {w : Nat} {vok : V → Prop} {as xs ys : List Str} {kvs ks : List (Key × V)} (h : Sorted as kvs ks ys) (ok : RowsOk w vok xs kvs) (nd : as.Nodup) (sub : ∀ y ∈ as, y ∈ xs) : RowsOk w vok ys ks := by
  have ynd : ys.Nodup := h.perm.nodup_iff.mpr nd
  have hs : ∀ y ∈ ys, y ∈ xs := fun y hy => sub y (h.perm.mem_iff.mp hy)
  refine ⟨h.keys, ⟨ynd, fun x hx => ok.pfx.bits x (hs x hx), fun x hx => ok.pfx.len x (hs x hx)⟩, fun kv hk => ?_⟩
  have hm : kv.1 ∈ ys.map Sum.inr := by
    rw [← h.keys]
    exact List.mem_map.mpr ⟨kv, hk, rfl⟩
  obtain ⟨y, hy, e⟩ := List.mem_map.mp hm
  have hx := h.perm.mem_iff.mp hy
  have kn : (ks.map (·.1)).Nodup := by
    rw [h.keys]
    exact ynd.map Sum.inr (fun a b h e => h (Sum.inr.inj e))
  have v1 := valV_some kn (k := kv.1) (v := kv.2) hk
  rw [← e, h.val y hx] at v1
  unfold valV at v1
  obtain ⟨p, hp, ep⟩ := Option.map_eq_some_iff.mp v1
  rw [← ep]
  exact ok.val p (List.mem_of_find?_eq_some hp)
theorem Sorted.next {as ys xs2 zs : List Str} {kvs ks ls : List (Key × V)} {y : Str} {v : V} (h : Sorted as kvs ks ys) (h2 : Sorted xs2 (putK ks (.inr y) v) ls zs) (nd2 : xs2.Nodup) (nd : (as ++ [y]).Nodup) (mem : ∀ z, z ∈ xs2 ↔ z = y ∨ z ∈ ys) (hv : valV kvs (.inr y) = some v) : Sorted (as ++ [y]) kvs ls zs := by
  have p2 : xs2.Perm (as ++ [y]) := (List.perm_ext_iff_of_nodup nd2 nd).mpr fun z => by
    rw [mem z, List.mem_append, List.mem_singleton, h.perm.mem_iff, or_comm]
  refine ⟨h2.keys, h2.perm.trans p2, h2.up, fun u hu => ?_⟩
  rw [h2.val u (p2.mem_iff.mpr hu), valV_put]
  by_cases e : u = y
  · rw [e, if_pos rfl, hv]
  · rw [if_neg fun q => e (Sum.inr.inj q)]
    exact h.val u ((List.mem_append.mp hu).elim id fun q => absurd (List.mem_singleton.mp q) e)
theorem valV_off {y u : Key} (ne : u ≠ y) : ∀ kvs : List (Key × V), valV (kvs.filter fun kv => decide (kv.1 ≠ y)) u = valV kvs u
  | [] => rfl
  | p :: r => by
    have ih := valV_off ne r
    unfold valV at ih ⊢
    by_cases h : p.1 = y
    · rw [List.filter_cons, if_neg (by rw [decide_eq_true_iff]; exact fun q => q h), ih, List.find?_cons]
      rw [show decide (p.1 = u) = false from decide_eq_false fun q => ne (q.symm.trans h)]
    · rw [List.filter_cons, if_pos (decide_eq_true h), List.find?_cons, List.find?_cons]
      split
      · rfl
      · exact ih
theorem Sorted.less {rest ys zs : List Str} {kvs ks ls : List (Key × V)} {y : Str} (h : Sorted (y :: rest) kvs ks ys) (nd : (y :: rest).Nodup) (h2 : Sorted (ys.filter fun z => decide (z ≠ y)) (ks.filter fun kv => decide (kv.1 ≠ .inr y)) ls zs) : Sorted rest kvs ls zs := by
  have ny := (List.nodup_cons.mp nd).1
  have p2 : (ys.filter fun z => decide (z ≠ y)).Perm rest := by
    have := h.perm.filter (fun z => decide (z ≠ y))
    have e : (y :: rest).filter (fun z => decide (z ≠ y)) = rest := by
      rw [List.filter_cons, if_neg (by rw [decide_eq_true_iff]; exact fun q => q rfl)]
      exact List.filter_eq_self.mpr fun z hz => decide_eq_true fun q => ny (q ▸ hz)
    rwa [e] at this
  refine ⟨h2.keys, h2.perm.trans p2, h2.up, fun u hu => ?_⟩
  have ne : u ≠ y := fun q => ny (q ▸ hu)
  rw [h2.val u (p2.mem_iff.mpr hu), valV_off (fun q => ne (Sum.inr.inj q))]
  exact h.val u (List.mem_cons_of_mem _ hu)
theorem Sorted.none_left {kvs ks : List (Key × V)} {ys : List Str} (h : Sorted [] kvs ks ys) : ks = [] := by
  have e : ys = [] := List.perm_nil.mp h.perm
  have := h.keys
  rw [e] at this
  exact List.map_eq_nil_iff.mp this
theorem rows_nil (z : Nat) : RowsOk z isTgtV [] [] := ⟨rfl, ⟨List.nodup_nil, fun _ h => absurd h List.not_mem_nil, fun _ h => absurd h List.not_mem_nil⟩, fun _ h => absurd h List.not_mem_nil⟩
theorem tx_mem {es : List (Str × Str)} {e : Str × Str} (h : e ∈ es) : ((.inr e.1 : Key), V.str e.2) ∈ txK es := List.mem_map.mpr ⟨e, h, rfl⟩
theorem tx_fst {w : Nat} {xs : List Str} {es : List (Str × Str)} (ok : RowsOk w isTgtV xs (txK es)) : es.map (·.1) = xs := by
  have e := ok.keys
  unfold txK at e
  rw [List.map_map] at e
  exact (List.map_inj_right (fun a b h => Sum.inr.inj h)).mp (by rw [List.map_map]; exact e)
/-- some of the rows -/
theorem rows_some {w : Nat} {xs : List Str} {es ls : List (Str × Str)} (ok : RowsOk w isTgtV xs (txK es)) (sub : ∀ e ∈ ls, e ∈ es) (nd : (ls.map (·.1)).Nodup) : RowsOk w isTgtV (ls.map (·.1)) (txK ls) := by
  have f := tx_fst ok
  have hs : ∀ y ∈ ls.map (·.1), y ∈ xs := fun y hy => by
    obtain ⟨e, he, rfl⟩ := List.mem_map.mp hy
    rw [← f]
    exact List.mem_map.mpr ⟨e, sub e he, rfl⟩
  refine ⟨by unfold txK; rw [List.map_map, List.map_map]; rfl, ⟨nd, fun x hx => ok.pfx.bits x (hs x hx), fun x hx => ok.pfx.len x (hs x hx)⟩, fun kv hk => ?_⟩
  obtain ⟨e, he, rfl⟩ := List.mem_map.mp hk
  exact ok.val _ (tx_mem (sub e he))
theorem Sorted.re {w : Nat} {as bs : List (Str × Str)} {ks : List (Key × V)} {ys : List Str} (okA : RowsOk w isTgtV (as.map (·.1)) (txK as)) (okB : RowsOk w isTgtV (bs.map (·.1)) (txK bs)) (p : as.Perm bs) (h : Sorted (as.map (·.1)) (txK as) ks ys) : Sorted (bs.map (·.1)) (txK bs) ks ys :=
  ⟨h.keys, h.perm.trans (p.map _), h.up, fun y hy => by
    obtain ⟨e, he, rfl⟩ := List.mem_map.mp hy
    rw [h.val e.1 (List.mem_map.mpr ⟨e, p.mem_iff.mpr he, rfl⟩), valV_some okA.acc.nd (tx_mem (p.mem_iff.mpr he)), valV_some okB.acc.nd (tx_mem he)]⟩
/-- a table, and the dict of its rows -/
def ShowsAt (C : Addr) (z : Nat) (H : Hp) (x d : Addr) : Prop := ∃ (e : Addr) (xs ys : List Str) (kvs ks : List (Key × V)), MapAt C H x e z ks ∧ H d = some (.dK kvs) ∧ RowsOk z isTgtV xs kvs ∧ Sorted xs kvs ks ys ∧ xs.length ≤ 40
theorem ShowsAt.same {C : Addr} {z : Nat} {H H' : Hp} {x d : Addr} (s : Same H H') (h : ShowsAt C z H x d) : ShowsAt C z H' x d := by
  obtain ⟨e, xs, ys, kvs, ks, h1, h2, r⟩ := h
  exact ⟨e, xs, ys, kvs, ks, h1.same s, s _ _ h2, r⟩

theorem MapAt.off {C : Addr} {H : Hp} {x e d : Addr} {w : Nat} {kvs : List (Key × V)} {o o' : HO} (h : MapAt C H x e w kvs) (hd : H d = some o) (no : ∀ C dx fs, o ≠ .ins C dx fs) (ne : e ≠ d) : MapAt C (upd H d o') x e w kvs := by
  obtain ⟨⟨dx, h1⟩, h2⟩ := h
  exact ⟨⟨dx, by rw [upd_ne (fun q => by rw [q, hd] at h1; exact no _ _ _ (Option.some.inj h1))]; exact h1⟩, by rw [upd_ne ne]; exact h2⟩

theorem mergeK_nl {kv0 : List (Key × V)} (nd : (kv0.map (·.1)).Nodup) : mergeK [] kv0 = kv0 := (mergeK_nd kv0 [] (by rw [List.nil_append]; exact nd)).trans (List.nil_append _)
/-- three pairs of a list of pairs -/
structure Three (H : Hp) (l : Addr) (ts : List Addr) (t0 t1 t2 : Addr) (e0 e1 e2 : Str × Str) : Prop where
  at_ : H l = some (.lst ((t0 :: t1 :: t2 :: ts).map V.ref))
  h0 : H t0 = some (.tup [.str e0.1, .str e0.2])
  h1 : H t1 = some (.tup [.str e1.1, .str e1.2])
  h2 : H t2 = some (.tup [.str e2.1, .str e2.2])
theorem Three.same {H H' : Hp} {l : Addr} {ts : List Addr} {t0 t1 t2 : Addr} {e0 e1 e2 : Str × Str} (s : Same H H') (h : Three H l ts t0 t1 t2 e0 e1 e2) : Three H' l ts t0 t1 t2 e0 e1 e2 := ⟨s _ _ h.at_, s _ _ h.h0, s _ _ h.h1, s _ _ h.h2⟩
/-- a table of these rows -/
def TabOf (C : Addr) (z : Nat) (H : Hp) (x : Addr) (es : List (Str × Str)) : Prop := ∃ (e : Addr) (ks : List (Key × V)) (ys : List Str), MapAt C H x e z ks ∧ Sorted (es.map (·.1)) (txK es) ks ys
theorem TabOf.same {C : Addr} {z : Nat} {H H' : Hp} {x : Addr} {es : List (Str × Str)} (s : Same H H') (h : TabOf C z H x es) : TabOf C z H' x es := by
  obtain ⟨e, ks, ys, h1, h2⟩ := h
  exact ⟨e, ks, ys, h1.same s, h2⟩
theorem TabOf.but {C : Addr} {z : Nat} {H : Hp} {x l : Addr} {es : List (Str × Str)} {vs : List V} {o : HO} (hl : H l = some (.lst vs)) (h : TabOf C z H x es) : TabOf C z (upd H l o) x es := by
  obtain ⟨e, ks, ys, h1, h2⟩ := h
  exact ⟨e, ks, ys, h1.off hl (fun _ _ _ q => by cases q) (ne_of h1.dc hl (fun q => by cases q)), h2⟩
theorem Three.but {H : Hp} {l m : Addr} {ts : List Addr} {t0 t1 t2 : Addr} {e0 e1 e2 : Str × Str} {vs : List V} {o : HO} (hm : H m = some (.lst vs)) (ne : l ≠ m) (h : Three H l ts t0 t1 t2 e0 e1 e2) : Three (upd H m o) l ts t0 t1 t2 e0 e1 e2 :=
  ⟨by rw [upd_ne ne]; exact h.at_, by rw [upd_ne (ne_of h.h0 hm (fun q => by cases q))]; exact h.h0, by rw [upd_ne (ne_of h.h1 hm (fun q => by cases q))]; exact h.h1, by rw [upd_ne (ne_of h.h2 hm (fun q => by cases q))]; exact h.h2⟩

theorem of_made {K : PySem.W.Frag} {C : Addr} {z : Nat} {ts : List Addr} {es : List (Str × Str)} {H : Hp} {Q : VK} {E : XK} (pr : Paired (fun t (e : Str × Str) => H t = some (.tup [.str e.1, .str e.2])) ts es) (ok : RowsOk z isTgtV (es.map (·.1)) (txK es)) (z1 : 1 ≤ z) (z32 : z ≤ 32) (few : es.length ≤ 40)
    (q : ∀ x H', H x = none → Same H H' → TabOf C z H' x es → Q (.ref x) H') : starSp 2 (spOfI K C) (.ref C :: .int z :: ts.map V.ref) H Q E :=
  ⟨[.ref C, .int z], ts.map V.ref, rfl, rfl, by rw [List.length_map, pr.length]; exact Nat.le_of_lt (small1000 (by omega)), fun p np => ⟨p, z, ts, es, es.map (·.1), rfl, upd_same, pr.mono fun t e h => SqT.of (same_upd np _ _ h), ok, z1, z32, by rw [List.length_map]; exact few,
    fun x e ys ks H' nx s hs hm => q x H' (upd_free nx).2 ((same_upd np).trans s) ⟨e, ks, ys, hm, hs⟩⟩⟩

theorem cut_nat (xs : List V) (i j : Nat) (hi : i ≤ j) (hj : j ≤ xs.length) : cutV xs (some (i : Int)) (some (j : Int)) = (xs.drop i).take (j - i) := by
  unfold cutV
  rw [HT.sIx_nat, HT.sIx_nat, Nat.min_eq_left hj, Nat.min_eq_left (Nat.le_trans hi hj)]
theorem cut_to (xs : List V) (j : Nat) (hj : j ≤ xs.length) : cutV xs none (some (j : Int)) = xs.take j := by
  unfold cutV
  rw [HT.sIx_nat, HT.sIx_none, Nat.min_eq_left hj, List.drop_zero, Nat.sub_zero]
theorem tx_pr {K : PySem.W.Frag} {ts : List Addr} {es : List (Str × Str)} {H : Hp} (pr : Paired (fun t (e : Str × Str) => H t = some (.tup [.str e.1, .str e.2])) ts es) : Paired (fun p (kv : Key × V) => SqT K H p [kV kv.1, kv.2]) ts (txK es) :=
  prd_map (R := fun p (kv : Key × V) => SqT K H p [kV kv.1, kv.2]) _ (pr.mono fun t e h => SqT.of h)
theorem tx_mk {es : List (Str × Str)} (nd : (es.map (·.1)).Nodup) : mergeK [] (txK es) = txK es := by
  refine mergeK_nl ?_
  rw [show (txK es).map (·.1) = (es.map (·.1)).map Sum.inr from by unfold txK; rw [List.map_map, List.map_map]; rfl]
  exact nd.map Sum.inr (fun a b h e => h (Sum.inr.inj e))

/-! ### the last tables -/
def halves : List Int := [16, 8, 4, 2, 1]
def bitK (k : Nat) (h : Int) : Nat := (atI (sg "01") ((k : Int) / h % 2)).getD 0
def keyK (k : Nat) : Str := Txt.join "" (halves.map fun h => (⟨#[bitK k h]⟩ : Str))
def valK (k : Nat) : Str := cutS "abcdefghijklmnopqrstuvwxyz" (some (k : Int)) (some ((k : Int) + 3))
def tab26 : List (Str × Str) := (List.range 26).map fun k => (keyK k, valK k)
theorem bit26 : ∀ k : Fin 26, ∀ h ∈ halves, CDiv 0 h ∧ (atI (sg "01") (((k : Nat) : Int) / h % 2)) = some (bitK k h) := by
  have : ∀ k : Fin 26, ∀ h ∈ halves, (0 < h ∧ h < 1073741824) ∧ (atI (sg "01") (((k : Nat) : Int) / h % 2)) = some (bitK k h) := by decide +kernel
  exact this
theorem sum26 : ∀ k : Fin 26, ((halves.map fun h => (⟨#[bitK k h]⟩ : Str)).map (·.length)).sum + (halves.map fun h => (⟨#[bitK k h]⟩ : Str)).length * ("" : Str).length ≤ 16777216 := by decide +kernel
theorem ok26 : RowsOk 5 isTgtV (tab26.map (·.1)) (txK tab26) := by
  have v : ∀ e ∈ tab26, isTgt (.str e.2) = true := by decide +kernel
  refine ⟨by unfold txK; rw [List.map_map, List.map_map]; rfl, ⟨by decide +kernel, by decide +kernel, by decide +kernel⟩, fun kv hk => ?_⟩
  obtain ⟨e, he, rfl⟩ := List.mem_map.mp hk
  exact v e he
theorem vals26 : (tab26.map (·.2)).Nodup := by decide +kernel
theorem at25 : (("11001", "z") : Str × Str) ∈ tab26 := by decide +kernel
theorem long25 : IsLong (tab26.map (·.1)) "11001" (some "11001") := by
  have h1 : ("11001" : Str) ∈ tab26.map (·.1) := by decide +kernel
  have h2 : Pre "11001" "11001" := by decide +kernel
  have h3 : ∀ z ∈ tab26.map (·.1), Pre z "11001" → z.length ≤ ("11001" : Str).length := by decide +kernel
  exact ⟨h1, h2, h3⟩
def tab7 : List (Str × Str) := [("", "a"), ("0", "b"), ("1", "c"), ("00", "d"), ("01", "e"), ("10", "f"), ("11", "g")]
theorem ok7 : RowsOk 3 isTgtV (tab7.map (·.1)) (txK tab7) := by
  have v : ∀ e ∈ tab7, isTgt (.str e.2) = true := by decide +kernel
  refine ⟨by unfold txK; rw [List.map_map, List.map_map]; rfl, ⟨by decide +kernel, by decide +kernel, by decide +kernel⟩, fun kv hk => ?_⟩
  obtain ⟨e, he, rfl⟩ := List.mem_map.mp hk
  exact v e he
theorem vals7 : (tab7.map (·.2)).Nodup := by decide +kernel
theorem up7 : sortedS (tab7.map (·.2)) = true := by decide +kernel
theorem shaped_sm {xs : List Str} (h : ∀ x ∈ xs, Sm 100 x) : SeqAt.shaped (.list (xs.map PyData.str)) = true := by
  unfold SeqAt.shaped
  rw [Bool.and_eq_true]
  refine ⟨?_, decide_eq_true ?_⟩
  · simp only [PyData.canLay0]
    refine lay_all fun d hd => ?_
    obtain ⟨x, hx, rfl⟩ := List.mem_map.mp hd
    exact lay_sm (h x hx)
  · have := depthAll_le (L := 0) (ds := xs.map PyData.str) fun d hd => by
      obtain ⟨x, _, rfl⟩ := List.mem_map.mp hd
      simp only [PyData.depth]
      decide
    simp only [PyData.depth]
    omega
theorem vals_sm {w : Nat} {xs : List Str} {es : List (Str × Str)} (ok : RowsOk w isTgtV xs (txK es)) (w32 : w ≤ 32) : ∀ v ∈ es.map (·.2), Sm 100 v := fun v hv => by
  obtain ⟨e, he, rfl⟩ := List.mem_map.mp hv
  exact (tx_sm ok w32 e he).2

def spLaw (K : PySem.W.Frag) : Sp := fun vs H Q _ => ∃ (a : Addr) (ns : List Int), vs = [.ref a] ∧ SqL K H a (ns.map V.int) ∧ ns.length ≤ 63 ∧ ∀ H', Q (.bl true) H'
abbrev sL : Stmt := top 28
section
variable {P : Program} {w : World} {K : PySem.W.Frag} {mg : Str → Option Value} {base : Heap}
abbrev NL : List Str := ["script", "pen", "turn", "size", "lines", "step", "back", "prefix", "pairs", "made", "due", "k", "letters", "given", "half", "wide", "many"]
theorem scL : FnScope NL ["script"] (defScope sL) := ⟨rfl, rfl, rfl, by decide +kernel, rfl, by decide +kernel, by decide +kernel⟩
set_option maxHeartbeats 8000000 in
theorem ok_L {f fP fS fY fT fVw fWr fRi fOf pOf fEq fLn fCo fLu fTa pTa CC : Addr} {fd fdP fdS fdY fdT fdVw fdWr fdRi fdEq fdLn fdCo fdLu fdTa : FuncData} {k : Nat} (F : Fun K "law" "law" sL f fd)
    (GP : FnOk P w K mg base CX0 k fP fdP ["script"] (spPen K))
    (FP : Fun K "_law_pen" "_law_pen" sP fP fdP) (bP : Binds K fdP ["script"] []) (gP : mg "_law_pen" = some (.ref fP))
    (m_range : mg "range" = none)
    (GS : FnOk P w K mg base CX0 k fS fdS ["pen"] spSize)
    (FS : Fun K "_law_size" "_law_size" sS fS fdS) (bS : Binds K fdS ["pen"] []) (gS : mg "_law_size" = some (.ref fS))
    (GY : FnOk P w K mg base CX0 k fY fdY ["pen", "size", "most"] (spLinesM isTgtV))
    (FY : Fun K "_law_lines" "_law_lines" sY fY fdY) (bY : Binds K fdY ["pen", "size", "most"] []) (gY : mg "_law_lines" = some (.ref fY))
    (GT : FnOk P w K mg base CX0 k fT fdT ["self", "width", "rows"] (spInit K CC isTgtV))
    (MC : Mk K CC fT) (gC : mg "Table" = some (.ref CC))
    (bT : Binds K fdT ["self", "width", "rows"] [])
    (clC : Cls K CC)
    (GVw : FnOk P w K mg base CX0 k fVw fdVw ["self", "prefix", "value"] (spWith CC isTgtV))
    (mtVw : Meth K CC "with_row" fVw) (bVw : Binds K fdVw ["self", "prefix", "value"] [])
    (GWr : FnOk P w K mg base CX0 k fWr fdWr ["self", "prefix"] (spWithout CC isTgtV))
    (mtWr : Meth K CC "without" fWr) (bWr : Binds K fdWr ["self", "prefix"] [])
    (GRi : FnG P w K mg base k fRi fdRi ["some", "size", "lines"] (spRight CC))
    (FRi : Fun K "_law_right" "_law_right" sRi fRi fdRi) (bRi : Binds K fdRi ["some", "size", "lines"] []) (gRi : mg "_law_right" = some (.ref fRi))
    (gC : mg "Table" = some (.ref CC))
    (RCC : ClX.CRead K CC (.type "type"))
    (GOf : FnR P w K mg base CX0 k fOf ((starSp 2 ((spOfI K CC)))))
    (cmOf : ClX.CMet K CC (.type "type") "of" pOf fOf)
    (GEq : FnOk P w K mg base CX0 k fEq fdEq ["self", "other"] (spEqM CC))
    (OCC : ObjC K CC) (aEq : PySem.W.findIn K (.ref CC) "__eq__" = some (some (.ref fEq))) (iEq : PySem.W.isFn K (.ref fEq) = true) (bEq : Binds K fdEq ["self", "other"] [])
    (GLn : FnOk P w K mg base CX0 k fLn fdLn ["self"] (spLenM CC))
    (aLn : PySem.W.findIn K (.ref CC) "__len__" = some (some (.ref fLn))) (iLn : PySem.W.isFn K (.ref fLn) = true) (bLn : Binds K fdLn ["self"] [])
    (m_len : mg "len" = none)
    (GCo : FnG P w K mg base k fCo fdCo ["size", "lines"] spCopies)
    (FCo : Fun K "_law_copies" "_law_copies" sCo fCo fdCo) (bCo : Binds K fdCo ["size", "lines"] []) (gCo : mg "_law_copies" = some (.ref fCo))
    (m_list : mg "list" = none)
    (m_dict : mg "dict" = none)
    (m_all : mg "all" = none)
    (GLu : FnOk P w K mg base CX0 k fLu fdLu ["self", "address"] (spLook K CC))
    (mtLu : Meth K CC "lookup" fLu) (bLu : Binds K fdLu ["self", "address"] [])
    (GTa : FnOk P w K mg base CX0 k fTa fdTa ["self"] (spTargets CC))
    (PTa : PropOf K CC "targets" pTa fTa) (bTa : Binds K fdTa ["self"] [])
    (m_sorted : mg "sorted" = none)
    : FnG P w K mg base (k + 2) f fd ["script"] (spLaw K) := by
  refine okG F scL (fun vs H Q E h => ?_) (fun cdv A outer s H vs Q g hr h => ?_)
  · obtain ⟨a, ns, rfl, _⟩ := h
    rfl
  · obtain ⟨a, ns, rfl, hS, hlen, q⟩ := h
    have nd := scL.nd
    have hu := hr.units
    have hu1 := hu_of hr
    have hr1 := hr.mono (Nat.le_succ k)
    refine ⟨_, pss_cons (ps_set (i := 1) nd rfl (.inl rfl) (pe_call GP hr1 (by rfl) gP FP.kp bP .nil pass0 (pa_cons (pv 0) pa_nil)))
      (pss_cons (ps_for PassesOwn.never rfl (pi_range1 (by rfl) m_range (pa_cons pe_int pa_nil)) (pg_name (i := 2) nd rfl (.inl rfl))
        (pss_cons (ps_set (i := 3) nd rfl (.inr rfl) (pe_call GS hr1 (by rfl) gS FS.kp bS .nil pass0 (pa_cons (pv 1) pa_nil)))
        (pss_cons (ps_set (i := 4) nd rfl (.inl rfl) (pe_call GY hr1 (by rfl) gY FY.kp bY .nil pass0 (pa_cons (pv 1) (pa_cons (pv 3) (pa_cons pe_int pa_nil)))))
        (C8.pss_cut (ps_par (i := 5) (j := 6) (by rfl) nd rfl rfl (by decide) rfl rfl (pa_cons (pe_make MC GT hr (by rfl) gC bT .nil pass0 (pa_cons (pv 3) (pa_cons pe_dnewK pa_nil))) (pa_cons (pe_make MC GT hr (by rfl) gC bT .nil pass0 (pa_cons (pv 3) (pa_cons (pv 4) pa_nil))) pa_nil)) (by rfl))
        (C8.pss_cut (ps_lock (ps_for PassesOwn.never rfl (pi_keys (pv 4)) (pg_name (i := 7) nd rfl (.inl rfl))
          (pss_one (ps_set (i := 5) nd rfl (.inl rfl) (pe_meth (pv 5) clC mtVw GVw hr1 bVw .nil pass0 (pa_cons (pv 7) (pa_cons (pe_dget hu1 (pv 4) (pv 7) (fun _ _ => rfl)) pa_nil)))))))
        (C8.pss_cut (ps_lock (ps_for PassesOwn.never rfl (pi_keys (pv 4)) (pg_name (i := 7) nd rfl (.inl rfl))
          (pss_one (ps_set (i := 6) nd rfl (.inl rfl) (pe_meth (pv 6) clC mtWr GWr hr1 bWr .nil pass0 (pa_cons (pv 7) pa_nil))))))
        (C8.pss_cut (ps_if (PW.pt (pw_or (pt_not (pt_val (pe_callG GRi g hr1 (by rfl) gRi FRi.kp bRi (pa_cons (pe_make MC GT hr (by rfl) gC bT .nil pass0 (pa_cons (pv 3) (pa_cons (pv 4) pa_nil))) (pa_cons (pv 3) (pa_cons (pv 4) pa_nil)))))) (pw_or1 (pt_not (pt_val (pe_callG GRi g hr1 (by rfl) gRi FRi.kp bRi (pa_cons (pv 5) (pa_cons (pv 3) (pa_cons (pv 4) pa_nil)))))))))
          (pss_one (ps_ret pe_bl)) pss_nil)
        (C8.pss_cut (ps_if (PW.pt (pw_or (pt_cmpR (op_neI GEq hr OCC aEq iEq bEq) (pv 5) (pe_make MC GT hr (by rfl) gC bT .nil pass0 (pa_cons (pv 3) (pa_cons (pv 4) pa_nil))) (nomark _)) (pw_or (pt_cmpR op_ne (pe_callB (call_lenI GLn hr aLn iLn bLn) (by rfl) m_len (by decide +kernel) (pa_cons (pv 6) pa_nil)) pe_int (nomark _)) (pw_or1 (pt_cmpR (op_neI GEq hr OCC aEq iEq bEq) (pv 6) (ClX.pe_cmeth (pe_glob (v := .ref CC) rfl gC rfl) RCC cmOf GOf hr1 pass0 (pa_cons (pv 3) pa_nil)) (nomark _))))))
          (pss_one (ps_ret pe_bl)) pss_nil)
        (C8.pss_cut (ps_if (pt_not (pt_val (pe_callG GCo g hr1 (by rfl) gCo FCo.kp bCo (pa_cons (pv 3) (pa_cons (pv 4) pa_nil)))))
          (pss_one (ps_ret pe_bl)) pss_nil)
        (pss_cons (ps_set (i := 8) nd rfl (.inl rfl) (LiI.pe_listItems rfl (pv 4) (by rfl) m_list (by decide +kernel)))
        (pss_one (ps_if (pt_cmpR op_gt (pe_callB call_len_seq (by rfl) m_len (by decide +kernel) (pa_cons (pv 8) pa_nil)) pe_int (nomark _))
          (C8.pss_cut (ps_set (i := 9) nd rfl (.inr rfl) (pe_lst (pa_cons (ClX.pe_cmeth (pe_glob (v := .ref CC) rfl gC rfl) RCC cmOf GOf hr1 pass0 (pa_cons (pv 3) (pa_cons (pe_ix ix_list (pv 8) pe_int (fun _ _ => rfl)) pa_nil))) (pa_cons (ClX.pe_cmeth (pe_glob (v := .ref CC) rfl gC rfl) RCC cmOf GOf hr1 pass0 (pa_cons (pv 3) (pa_cons (pe_ix ix_list (pv 8) pe_int (fun _ _ => rfl)) (pa_cons (pe_ix ix_list (pv 8) pe_int (fun _ _ => rfl)) pa_nil)))) pa_nil))))
          (C8.pss_cut (ps_expr (pe_bm PySem.F.plainAttrs_list PySem.F.slot_list_append PySem.F.type_list_append mt_append (pv 9) (pa_cons (ClX.pe_cmeth (pe_glob (v := .ref CC) rfl gC rfl) RCC cmOf GOf hr1 pass0 (pa_cons (pv 3) (pa_cons (pe_ix ix_list (pv 8) pe_int (fun _ _ => rfl)) (pa_cons (pe_ix ix_list (pv 8) pe_int (fun _ _ => rfl)) (pa_cons (pe_ix ix_list (pv 8) pe_int (fun _ _ => rfl)) pa_nil))))) pa_nil)))
          (C8.pss_cut (ps_set (i := 10) nd rfl (.inr rfl) (pe_lst (pa_cons (pe_callTy (call_dictPn rfl) (by rfl) m_dict (by decide +kernel) (pa_cons (pe_slice sl_list (pv 8) (po_some pe_int) (po_some pe_int)) pa_nil)) (pa_cons (pe_callTy (call_dictPn rfl) (by rfl) m_dict (by decide +kernel) (pa_cons (pe_lst (pa_cons (pe_ix ix_list (pv 8) pe_int (fun _ _ => rfl)) (pa_cons (pe_ix ix_list (pv 8) pe_int (fun _ _ => rfl)) pa_nil))) pa_nil)) (pa_cons (pe_callTy (call_dictPn rfl) (by rfl) m_dict (by decide +kernel) (pa_cons (pe_slice sl_list (pv 8) po_none (po_some pe_int)) pa_nil)) pa_nil)))))
          (pss_one (ps_if (pt_not (pt_val (pe_callB (cr_all rfl) (by rfl) m_all (by decide +kernel) (pa_cons (pe_lc (own := [("k", 11)]) (g := gName 11) (tt := tYes) rfl nd (pi_range1 (by rfl) m_range (pa_cons pe_int pa_nil)) (blkOk_by (N := NL) (sc := defScope sL) (by decide +kernel)) (fun _ _ _ _ _ => pg_name (i := 11) nd rfl (.inl rfl)) (fun _ _ _ _ _ => pts_nil) (fun _ _ _ _ _ => (pe_callG GRi g hr1 (by rfl) gRi FRi.kp bRi (pa_cons (pe_ix (r := rIxL K) ix_list (pv 9) (pv 11) (fun _ _ => rfl)) (pa_cons (pv 3) (pa_cons (pe_ix (r := rIxL K) ix_list (pv 10) (pv 11) (fun _ _ => rfl)) pa_nil)))))) pa_nil))))
            (pss_one (ps_ret pe_bl)) pss_nil))))) pss_nil))))))))))))
      (pss_cons (ps_set (i := 12) nd rfl (.inr rfl) pe_str)
      (pss_cons (ps_set (i := 13) nd rfl (.inl rfl) pe_dnewK)
      (C8.pss_cut (ps_for PassesOwn.never rfl (pi_range1 (by rfl) m_range (pa_cons pe_int pa_nil)) (pg_name (i := 11) nd rfl (.inr rfl))
        (pss_one (ps_dput hu1 (pv 13) (pe_join pe_str (pe_lc (own := [("half", 14)]) (g := gName 14) (tt := tYes) rfl nd (pi_tup (pe_tup (pa_cons pe_int (pa_cons pe_int (pa_cons pe_int (pa_cons pe_int (pa_cons pe_int pa_nil))))))) (blkOk_by (N := NL) (sc := defScope sL) (by decide +kernel)) (fun _ _ _ _ _ => pg_name (i := 14) nd rfl (.inl rfl)) (fun _ _ _ _ _ => pts_nil) (fun _ _ _ _ _ => (pe_ix (r := rIxS) ix_str pe_str (pe_op op_mod (pe_op op_fdiv (pv 11) (pv 14)) pe_int) (fun _ _ => rfl))))) (pe_slice sl_str (pv 12) (po_some (pv 11)) (po_some (pe_op op_add (pv 11) pe_int))) rfl)))
      (pss_cons (ps_set (i := 15) nd rfl (.inl rfl) (pe_make MC GT hr (by rfl) gC bT .nil pass0 (pa_cons pe_int (pa_cons (pv 13) pa_nil))))
      (pss_cons (ps_if (PW.pt (pw_or (pt_cmpR (op_neD hu) (pe_prop (pv 15) clC PTa GTa hr bTa .nil pass0 rfl) (pe_callB cr_sortedS (by rfl) m_sorted (by decide +kernel) (pa_cons (pe_lc (own := [("k", 11)]) (g := gName 11) (tt := tYes) rfl nd (pi_range1 (by rfl) m_range (pa_cons pe_int pa_nil)) (blkOk_by (N := NL) (sc := defScope sL) (by decide +kernel)) (fun _ _ _ _ _ => pg_name (i := 11) nd rfl (.inl rfl)) (fun _ _ _ _ _ => pts_nil) (fun _ _ _ _ _ => (pe_slice sl_str (pv 12) (po_some (pv 11)) (po_some (pe_op op_add (pv 11) pe_int))))) pa_nil)) (nomark _)) (pw_or1 (pt_cmpR op_ne (pe_meth (pv 15) clC mtLu GLu hr1 bLu .nil pass0 (pa_cons pe_str pa_nil)) pe_str (nomark _)))))
        (pss_one (ps_ret pe_bl)) pss_nil)
      (pss_cons (ps_set (i := 16) nd rfl (.inl rfl) (ClX.pe_cmeth (pe_glob (v := .ref CC) rfl gC rfl) RCC cmOf GOf hr1 pass0 (pa_cons pe_int (pa_cons (pe_tup (pa_cons pe_str (pa_cons pe_str pa_nil))) (pa_cons (pe_tup (pa_cons pe_str (pa_cons pe_str pa_nil))) (pa_cons (pe_tup (pa_cons pe_str (pa_cons pe_str pa_nil))) (pa_cons (pe_tup (pa_cons pe_str (pa_cons pe_str pa_nil))) (pa_cons (pe_tup (pa_cons pe_str (pa_cons pe_str pa_nil))) (pa_cons (pe_tup (pa_cons pe_str (pa_cons pe_str pa_nil))) (pa_cons (pe_tup (pa_cons pe_str (pa_cons pe_str pa_nil))) pa_nil))))))))))
      (pss_one (ps_ret (pe_and (pe_cmpR (op_eqD hu) (pe_prop (pv 16) clC PTa GTa hr bTa .nil pass0 rfl) (pe_lst (pa_cons pe_str (pa_cons pe_str (pa_cons pe_str (pa_cons pe_str (pa_cons pe_str (pa_cons pe_str (pa_cons pe_str pa_nil)))))))) (nomark _)) (pe_one (pe_cmpR op_eq (pe_callB (call_lenI GLn hr aLn iLn bLn) (by rfl) m_len (by decide +kernel) (pa_cons (pv 16) pa_nil)) pe_int (nomark _))))))))))))), ?_⟩
    refine ⟨.ref a, rfl, a, ns, rfl, hS, hlen, fun H0 p c0 sm0 np nc hp => ?_⟩
    refine ⟨4, rfl, by decide, by decide, for_range (n := 4) (fun i σ H' => (∃ x2 x3 x4 x5 x6 x7 x8 x9 x10, σ = [some (.ref a), some (.ref p), x2, x3, x4, x5, x6, x7, x8, x9, x10, none, none, none, none, none, none]) ∧ ∃ m, m.length ≤ 1 ∧ Pen H' p c0 (2000 * i) m) ⟨⟨_, _, _, _, _, _, _, _, _, rfl⟩, [], by decide, hp⟩ ?_ ?_⟩
    · rintro i σ H1 hi ⟨⟨x2, x3, x4, x5, x6, x7, x8, x9, x10, rfl⟩, m, hm, hp1⟩
      refine ⟨.ref p, rfl, p, c0, 2000 * i, m, rfl, hp1, by show 2000 * i + 100 ≤ 1000000000000; omega, hm, fun z m' H2 b2 p2 hm' z1 z32 => ?_⟩
      refine ⟨.ref p, rfl, .int z, rfl, p, c0, _, z, 7, m', rfl, p2, by show 2000 * i + 1 + 1000 ≤ 1000000000000; omega, z32, by decide, fun d xs kvs H3 b3 nd3 hd ok few p3 => ?_⟩
      have dp : d ≠ p := p2.ne_p nd3
      have znd := ok.pfx.nd
      have kl : kvs.length = xs.length := (keys_len ok.keys).symm
      obtain ⟨es, rfl⟩ := tx_of ok
      have les : es.length = xs.length := by rw [← kl]; exact (List.length_map _).symm
      clear b2 p2 b3 nd3 hp1
      refine ⟨fun σ H' => ∃ st est bk eb ys kb, σ = [some (.ref a), some (.ref p), some (.int (0 + i)), some (.int z), some (.ref d), some (.ref st), some (.ref bk), x7, x8, x9, x10, none, none, none, none, none, none] ∧ Same H3 H' ∧ MapAt CC H' st est z [] ∧ MapAt CC H' bk eb z kb ∧ Sorted xs (txK es) kb ys ∧ est ≠ d ∧ eb ≠ d, ?_, ?_⟩
      · refine ⟨.int z, rfl, fun E1 nE1 => fun g dg ng ndg neg => ?_⟩
        have sE := same_upd (o := .dK []) nE1
        have sM : Same (upd H3 E1 (.dK [])) (upd (upd (upd H3 E1 (.dK [])) dg (.own g)) g (.ins CC dg [])) := fun b o e => by rw [upd_ne (ne_of_none e ng), upd_ne (ne_of_none e ndg)]; exact e
        refine ⟨g, dg, E1, z, [], [], rfl, upd_same, z1, z32, sM _ _ upd_same, rows_nil z, by decide, fun eg ysg ksg H7 neg' hsg hmg keepg => ⟨rfl, ?_⟩⟩
        have s7 : Same H3 H7 := sE.trans (Same.made ng ndg keepg)
        have egd : eg ≠ d := fun q => by
          have := (upd_free (upd_free neg').2).2
          rw [q, sE _ _ hd] at this
          cases this
        obtain rfl := hsg.none_left
        clear sM keepg ng ndg neg neg' sE nE1 hsg
        have hd7 := s7 _ _ hd
        refine ⟨.int z, rfl, .ref d, rfl, fun bk db nb ndb neb => ?_⟩
        have sM : Same H7 (upd (upd H7 db (.own bk)) bk (.ins CC db [])) := fun b o e => by rw [upd_ne (ne_of_none e nb), upd_ne (ne_of_none e ndb)]; exact e
        refine ⟨bk, db, d, z, xs, txK es, rfl, upd_same, z1, z32, sM _ _ hd7, ok, by omega, fun eb ysb kb H8 neb' hsb hmb keepb => ⟨rfl, ?_⟩⟩
        have s8 : Same H7 H8 := Same.made nb ndb keepb
        have ebd : eb ≠ d := fun q => by
          have := (upd_free (upd_free neb').2).2
          rw [q, hd7] at this
          cases this
        exact ⟨_, _, rfl, g, eg, bk, eb, ysb, kb, rfl, s7.trans s8, hmg.same s8, hmb, hsb, egd, ebd⟩
      rintro σ H8 ⟨st, est, bk, eb, ysb, kb, rfl, s38, hst8, hbk8, hsb, estd, ebd⟩
      have hd8 := s38 _ _ hd
      have noD : ∀ C dx fs, HO.dK (txK es) ≠ .ins C dx fs := fun _ _ _ q => by cases q
      have noF : ∀ (od : Obj) C dx fs, HO.frz od (.dK (txK es)) ≠ .ins C dx fs := fun _ _ _ _ q => by cases q
      refine ⟨fun σ H' => ∃ x7 st est ks ys, σ = [some (.ref a), some (.ref p), some (.int (0 + i)), some (.int z), some (.ref d), some (.ref st), some (.ref bk), x7, x8, x9, x10, none, none, none, none, none, none] ∧ Same H3 H' ∧ MapAt CC H' st est z ks ∧ Sorted xs (txK es) ks ys ∧ MapAt CC H' bk eb z kb ∧ est ≠ d, ?_, ?_⟩
      · refine ⟨d, .dK (txK es), hd8, trivial, fun od => ⟨.ref d, rfl, d, od, rfl, .inl ⟨txK es, upd_same, ?_⟩⟩⟩
        have hstL := hst8.off (o' := .frz od (.dK (txK es))) hd8 noD estd
        have hbkL := hbk8.off (o' := .frz od (.dK (txK es))) hd8 noD ebd
        have hdL := upd_same (H := H8) (a := d) (o := .frz od (.dK (txK es)))
        have kp : ∀ b o, b ≠ d → H8 b = some o → (upd H8 d (.frz od (.dK (txK es)))) b = some o := fun b o nb e => by rw [upd_ne nb]; exact e
        revert hstL hbkL hdL kp
        generalize upd H8 d (.frz od (.dK (txK es))) = HL
        intro hstL hbkL hdL kp
        refine for_it walk_keys (fun j σ H' => (∃ x7 st est ks ys, σ = [some (.ref a), some (.ref p), some (.int (0 + i)), some (.int z), some (.ref d), some (.ref st), some (.ref bk), x7, x8, x9, x10, none, none, none, none, none, none] ∧ MapAt CC H' st est z ks ∧ Sorted (xs.take j) (txK es) ks ys) ∧ Same HL H') ⟨⟨_, st, est, [], [], rfl, hstL, ⟨rfl, List.Perm.refl _, rfl, fun _ h => absurd h List.not_mem_nil⟩⟩, Same.refl _⟩ (fun _ _ _ _ h => h.2 _ _ hdL) ?_ ?_
        · rintro j v σ HA HB hj ⟨⟨x7, st, est, ks, ys, rfl, hst, hs⟩, sA⟩ ⟨rfl, k, v', hkv, rfl⟩
          obtain ⟨y, hy, rfl⟩ := key_at ok.keys hkv
          have hym : y ∈ xs := List.mem_of_getElem? hy
          have hv : valV (txK es) (.inr y) = some v' := valV_some ok.acc.nd (List.mem_of_getElem? hkv)
          have hvt : isTgtV v' := ok.val _ (List.mem_of_getElem? hkv)
          have tk : xs.take (j + 1) = xs.take j ++ [y] := by rw [List.take_add_one, hy]; rfl
          have ndt : (xs.take j ++ [y]).Nodup := by rw [← tk]; exact (List.take_sublist _ _).nodup znd
          have okS := hs.rowsS ok ((List.take_sublist j xs).nodup znd) fun u hu => (List.take_sublist j xs).subset hu
          have lys : ys.length ≤ 7 := by rw [hs.perm.length_eq, List.length_take]; omega
          obtain ⟨⟨dst, hsto⟩, _⟩ := id hst
          refine ⟨.ref st, rfl, st, dst, _, rfl, hsto, flds_no _ _ (by decide +kernel) (by decide +kernel), .str y, rfl, .ref d, rfl, .str y, rfl, d, v', rfl, .inl ⟨txK es, .inr y, .inr ⟨od, sA _ _ hdL⟩, rfl, hv.symm⟩, ?_⟩
          refine ⟨st, est, z, ys, ks, y, v', rfl, hst, okS, z1, z32, ok.pfx.bits y hym, ok.pfx.len y hym, hvt, by omega, fun xs2 ok2 mem2 len2 st2 est2 ys2 ks2 HC nst2 sC hs2 hm2 => ?_⟩
          refine ⟨⟨_, st2, est2, ks2, ys2, rfl, hm2, ?_⟩, sA.trans sC⟩
          rw [tk]
          exact hs.next hs2 ok2.pfx.nd ndt mem2 hv
        · rintro σ HA ⟨⟨x7, st, est, ks, ys, rfl, hst, hs⟩, sA⟩
          rw [kl, List.take_length] at hs
          have hdA := sA _ _ hdL
          have estd : est ≠ d := ne_of hst.dc hdA (fun q => by cases q)
          refine ⟨hdA, _, st, est, ks, ys, rfl, fun b o e => ?_, hst.off hdA (noF od) estd, hs, (hbkL.same sA).off hdA (noF od) ebd, estd⟩
          by_cases hb : b = d
          · rw [hb, upd_same, ← hd, ← hb, e]
          · rw [upd_ne hb]
            exact sA _ _ (kp _ _ hb (s38 _ _ e))
      rintro σ H9 ⟨x7, st, est, kst, yst, rfl, s39, hst9, hss, hbk9, estd⟩
      have hd9 := s39 _ _ hd
      refine ⟨fun σ H' => ∃ x7 bk eb, σ = [some (.ref a), some (.ref p), some (.int (0 + i)), some (.int z), some (.ref d), some (.ref st), some (.ref bk), x7, x8, x9, x10, none, none, none, none, none, none] ∧ Same H3 H' ∧ MapAt CC H' st est z kst ∧ MapAt CC H' bk eb z [], ?_, ?_⟩
      · refine ⟨d, .dK (txK es), hd9, trivial, fun od => ⟨.ref d, rfl, d, od, rfl, .inl ⟨txK es, upd_same, ?_⟩⟩⟩
        have hstL := hst9.off (o' := .frz od (.dK (txK es))) hd9 noD estd
        have hbkL := hbk9.off (o' := .frz od (.dK (txK es))) hd9 noD ebd
        have hdL := upd_same (H := H9) (a := d) (o := .frz od (.dK (txK es)))
        have kp : ∀ b o, b ≠ d → H9 b = some o → (upd H9 d (.frz od (.dK (txK es)))) b = some o := fun b o nb e => by rw [upd_ne nb]; exact e
        revert hstL hbkL hdL kp
        generalize upd H9 d (.frz od (.dK (txK es))) = HL
        intro hstL hbkL hdL kp
        refine for_it walk_keys (fun j σ H' => (∃ x7 bk eb ks ys, σ = [some (.ref a), some (.ref p), some (.int (0 + i)), some (.int z), some (.ref d), some (.ref st), some (.ref bk), x7, x8, x9, x10, none, none, none, none, none, none] ∧ MapAt CC H' bk eb z ks ∧ Sorted (xs.drop j) (txK es) ks ys) ∧ Same HL H') ⟨⟨_, bk, eb, kb, ysb, rfl, hbkL, hsb⟩, Same.refl _⟩ (fun _ _ _ _ h => h.2 _ _ hdL) ?_ ?_
        · rintro j v σ HA HB hj ⟨⟨x7, bk, eb, ks, ys, rfl, hbk, hs⟩, sA⟩ ⟨rfl, k, v', hkv, rfl⟩
          obtain ⟨y, hy, rfl⟩ := key_at ok.keys hkv
          have hjx : j < xs.length := (List.getElem?_eq_some_iff.mp hy).1
          have hyj : xs[j] = y := (List.getElem?_eq_some_iff.mp hy).2
          have dr : xs.drop j = y :: xs.drop (j + 1) := by rw [List.drop_eq_getElem_cons hjx, hyj]
          have ndd : (y :: xs.drop (j + 1)).Nodup := by rw [← dr]; exact (List.drop_sublist _ _).nodup znd
          have okS := hs.rowsS ok ((List.drop_sublist j xs).nodup znd) fun u hu => (List.drop_sublist j xs).subset hu
          have lys : ys.length ≤ 7 := by rw [hs.perm.length_eq, List.length_drop]; omega
          rw [dr] at hs
          have hyy : y ∈ ys := hs.perm.mem_iff.mpr List.mem_cons_self
          obtain ⟨⟨dbk, hbko⟩, _⟩ := id hbk
          refine ⟨.ref bk, rfl, bk, dbk, _, rfl, hbko, flds_no _ _ (by decide +kernel) (by decide +kernel), .str y, rfl, ?_⟩
          refine ⟨bk, eb, z, ys, ks, y, rfl, hbk, okS, z1, z32, hyy, by omega, fun okF bk2 eb2 ys2 ks2 HC nbk2 sC hs2 hm2 => ?_⟩
          exact ⟨⟨_, bk2, eb2, ks2, ys2, rfl, hm2, hs.less ndd hs2⟩, sA.trans sC⟩
        · rintro σ HA ⟨⟨x7, bk, eb, ks, ys, rfl, hbk, hs⟩, sA⟩
          rw [kl, List.drop_length] at hs
          obtain rfl := hs.none_left
          have hdA := sA _ _ hdL
          have ebd : eb ≠ d := ne_of hbk.dc hdA (fun q => by cases q)
          refine ⟨hdA, _, bk, eb, rfl, fun b o e => ?_, (hstL.same sA).off hdA (noF od) estd, hbk.off hdA (noF od) ebd⟩
          by_cases hb : b = d
          · rw [hb, upd_same, ← hd, ← hb, e]
          · rw [upd_ne hb]
            exact sA _ _ (kp _ _ hb (s39 _ _ e))
      clear hst8 hbk8 hsb hst9 hbk9 hd8 hd9 s38 s39 ebd estd x7
      rintro σ H4 ⟨x7, bk, eb, rfl, s34, hst4, hbk4⟩
      have hd4 := s34 _ _ hd
      have knd : (kst.map (·.1)).Nodup := (hss.rows ok).acc.nd
      have kfl : ∀ kv ∈ kst, flatB kv.2 = true := fun kv hk => by
        obtain ⟨t, e, _⟩ := tgt_sm ((hss.rows ok).val kv hk)
        rw [e]
        rfl
      refine ⟨fun σ H' => σ = [some (.ref a), some (.ref p), some (.int (0 + i)), some (.int z), some (.ref d), some (.ref st), some (.ref bk), x7, x8, x9, x10, none, none, none, none, none, none] ∧ Same H4 H', ?_, ?_⟩
      · refine ⟨.int z, rfl, .ref d, rfl, fun f df nf ndf nef => ?_⟩
        have sM : Same H4 (upd (upd H4 df (.own f)) f (.ins CC df [])) := fun b o e => by rw [upd_ne (ne_of_none e nf), upd_ne (ne_of_none e ndf)]; exact e
        refine ⟨f, df, d, z, xs, txK es, rfl, upd_same, z1, z32, sM _ _ hd4, ok, by omega, fun ef ysf kf HA nef' hsf hmf keepf => ⟨rfl, ?_⟩⟩
        have sA : Same H4 HA := Same.made nf ndf keepf
        refine ⟨.int z, rfl, .ref d, rfl, f, ef, d, z, xs, ysf, txK es, kf, rfl, hmf, sA _ _ hd4, ok, hsf, z32, by omega, fun HB sB => ⟨_, rfl, iteF ?_⟩⟩
        have sAB := sA.trans sB
        exact ⟨.ref st, rfl, .int z, rfl, .ref d, rfl, st, est, d, z, xs, yst, txK es, kst, rfl, hst4.same sAB, sAB _ _ hd4, ok, hss, z32, by omega, fun HC sC => ⟨_, rfl, iteF ⟨rfl, sAB.trans sC⟩⟩⟩
      rintro σ H5 ⟨rfl, s5⟩
      have s35 := s34.trans s5
      have hd5 := s5 _ _ hd4
      have hst5 := hst4.same s5
      have hbk5 := hbk4.same s5
      clear hd4 hst4 hbk4 s34 s5
      refine ⟨fun σ H' => σ = [some (.ref a), some (.ref p), some (.int (0 + i)), some (.int z), some (.ref d), some (.ref st), some (.ref bk), x7, x8, x9, x10, none, none, none, none, none, none] ∧ Same H5 H', ?_, ?_⟩
      · refine ⟨.ref st, rfl, .int z, rfl, .ref d, rfl, fun f df nf ndf nef => ?_⟩
        have sM : Same H5 (upd (upd H5 df (.own f)) f (.ins CC df [])) := fun b o e => by rw [upd_ne (ne_of_none e nf), upd_ne (ne_of_none e ndf)]; exact e
        refine ⟨f, df, d, z, xs, txK es, rfl, upd_same, z1, z32, sM _ _ hd5, ok, by omega, fun ef ysf kf HA nef' hsf hmf keepf => ⟨rfl, ?_⟩⟩
        have sA : Same H5 HA := Same.made nf ndf keepf
        obtain rfl : kf = kst := hsf.uniq znd hss
        have h1 := hst5.same sA
        obtain ⟨⟨d1, ho1⟩, _⟩ := id h1
        obtain ⟨⟨d2, ho2⟩, _⟩ := id hmf
        refine ⟨st, f, d1, d2, _, _, rfl, rfl, ho1, ho2, st, f, est, ef, z, kf, rfl, h1, hmf, knd, kfl, true, rfl, _, rfl, iteF ?_⟩
        have hbkA := hbk5.same sA
        obtain ⟨⟨db, hob⟩, _⟩ := id hbkA
        refine ⟨.ref bk, rfl, bk, db, _, rfl, hob, bk, eb, z, [], rfl, hbkA, 0, rfl, by decide, rfl, _, rfl, iteNS rfl ?_⟩
        refine ⟨.ref bk, rfl, rfl, .int z, rfl, [.ref CC, .int z], [], rfl, rfl, Nat.zero_le _, fun tp ntp => ?_⟩
        have st1 := same_upd (o := .tup []) ntp
        refine ⟨tp, z, [], [], [], rfl, upd_same, .nil, rows_nil z, z1, z32, Nat.zero_le _, fun f2 ef2 ys2 k2 HB nf2 sB hs2 hm2 => ?_⟩
        obtain rfl := hs2.none_left
        have hbkB := (hbkA.same st1).same sB
        obtain ⟨⟨db2, hob2⟩, _⟩ := id hbkB
        obtain ⟨⟨df2, hof2⟩, _⟩ := id hm2
        exact ⟨bk, f2, db2, df2, _, _, rfl, rfl, hob2, hof2, bk, f2, eb, ef2, z, [], rfl, hbkB, hm2, List.nodup_nil, fun _ h => absurd h List.not_mem_nil, true, rfl, _, rfl, iteF ⟨rfl, (sA.trans st1).trans sB⟩⟩
      rintro σ H6 ⟨rfl, s6⟩
      have s36 := s35.trans s6
      have hd6 := s6 _ _ hd5
      clear hd5 hst5 hbk5 s35 s6
      refine ⟨fun σ H' => σ = [some (.ref a), some (.ref p), some (.int (0 + i)), some (.int z), some (.ref d), some (.ref st), some (.ref bk), x7, x8, x9, x10, none, none, none, none, none, none] ∧ Same H6 H', ?_, ?_⟩
      · exact ⟨.int z, rfl, .ref d, rfl, d, z, xs, txK es, rfl, hd6, ok, z1, z32, by omega, fun HA sA => ⟨_, rfl, iteF ⟨rfl, sA⟩⟩⟩
      rintro σ H7 ⟨rfl, s7⟩
      have s37 := s36.trans s7
      have hd7 := s7 _ _ hd6
      clear hd6 s36 s7
      refine ⟨.ref d, rfl, d, txK es, rfl, hd7, fun H8 pl ts s8 npl nts nin hpl pr => ?_⟩
      have s38 := s37.trans s8
      have done : ∀ (H' : Hp) (x8 x9 x10 : Option V), Same H3 H' → (∃ m, m.length ≤ 1 ∧ Pen H' p c0 (2000 * (i + 1)) m) := fun H' _ _ _ s => ⟨m', hm', (p3.keep s).mono (by omega)⟩
      have lts : ts.length = es.length := pr.length.trans (List.length_map _)
      clear hd7 s37 nin npl nts s8
      show gName 8 (V.ref pl) [some (.ref a), some (.ref p), some (.int (0 + i)), some (.int z), some (.ref d), some (.ref st), some (.ref bk), x7, x8, x9, x10, none, none, none, none, none, none] H8 _
      refine ⟨.ref pl, rfl, pl, _, rfl, .inl (SqL.of hpl), _, _, rfl, rfl, _, rfl, ?_⟩
      rw [List.length_map]
      by_cases big : 2 < ts.length
      · rw [decide_eq_true (by omega)]
        refine iteT ?_
        obtain ⟨t0, t1, t2, tr, rfl⟩ : ∃ t0 t1 t2 tr, ts = t0 :: t1 :: t2 :: tr := by
          match ts, big with
          | t0 :: t1 :: t2 :: tr, _ => exact ⟨t0, t1, t2, tr, rfl⟩
        obtain ⟨e0, e1, e2, er, rfl⟩ : ∃ e0 e1 e2 er, es = e0 :: e1 :: e2 :: er := by
          match es, lts with
          | e0 :: e1 :: e2 :: er, _ => exact ⟨e0, e1, e2, er, rfl⟩
        obtain ⟨g0, g1, g2⟩ : H8 t0 = some (.tup [.str e0.1, .str e0.2]) ∧ H8 t1 = some (.tup [.str e1.1, .str e1.2]) ∧ H8 t2 = some (.tup [.str e2.1, .str e2.2]) := by
          cases pr with
          | cons h0 r => cases r with
            | cons h1 r => cases r with
              | cons h2 r => exact ⟨h0, h1, h2⟩
        have th : Three H8 pl tr t0 t1 t2 e0 e1 e2 := ⟨hpl, g0, g1, g2⟩
        have fst := tx_fst ok
        have n3 : e0.1 ≠ e1.1 ∧ e0.1 ≠ e2.1 ∧ e1.1 ≠ e2.1 := by
          rw [← fst] at znd
          obtain ⟨a1, a2⟩ := List.nodup_cons.mp znd
          obtain ⟨a3, a4⟩ := List.nodup_cons.mp a2
          exact ⟨fun q => a1 (by show e0.1 ∈ _; rw [q]; exact List.mem_cons_self), fun q => a1 (by show e0.1 ∈ _; rw [q]; exact List.mem_cons_of_mem _ List.mem_cons_self), fun q => a3 (by show e1.1 ∈ _; rw [q]; exact List.mem_cons_self)⟩
        obtain ⟨n01, n02, n12⟩ := n3
        have m0 : e0 ∈ e0 :: e1 :: e2 :: er := List.mem_cons_self
        have m1 : e1 ∈ e0 :: e1 :: e2 :: er := List.mem_cons_of_mem _ List.mem_cons_self
        have m2 : e2 ∈ e0 :: e1 :: e2 :: er := List.mem_cons_of_mem _ (List.mem_cons_of_mem _ List.mem_cons_self)
        have okA := rows_some (ls := [e1]) ok (fun e he => by rw [List.mem_singleton.mp he]; exact m1) (List.nodup_cons.mpr ⟨List.not_mem_nil, List.nodup_nil⟩)
        have okB := rows_some (ls := [e2, e0]) ok (fun e he => by
          rcases List.mem_cons.mp he with rfl | he
          · exact m2
          · rw [List.mem_singleton.mp he]; exact m0) (List.nodup_cons.mpr ⟨fun q => n02 (List.mem_singleton.mp q).symm, List.nodup_cons.mpr ⟨List.not_mem_nil, List.nodup_nil⟩⟩)
        have okC := rows_some (ls := [e1, e2, e0]) ok (fun e he => by
          rcases List.mem_cons.mp he with rfl | he
          · exact m1
          rcases List.mem_cons.mp he with rfl | he
          · exact m2
          · rw [List.mem_singleton.mp he]; exact m0) (List.nodup_cons.mpr ⟨fun q => by
            rcases List.mem_cons.mp q with q | q
            · exact n12 q
            · exact n01 (List.mem_singleton.mp q).symm, List.nodup_cons.mpr ⟨fun q => n02 (List.mem_singleton.mp q).symm, List.nodup_cons.mpr ⟨List.not_mem_nil, List.nodup_nil⟩⟩⟩)
        have okB2 := rows_some (ls := [e0, e2]) ok (fun e he => by
          rcases List.mem_cons.mp he with rfl | he
          · exact m0
          · rw [List.mem_singleton.mp he]; exact m2) (List.nodup_cons.mpr ⟨fun q => n02 (List.mem_singleton.mp q), List.nodup_cons.mpr ⟨List.not_mem_nil, List.nodup_nil⟩⟩)
        have okC2 := rows_some (ls := [e0, e1, e2]) ok (fun e he => by
          rcases List.mem_cons.mp he with rfl | he
          · exact m0
          rcases List.mem_cons.mp he with rfl | he
          · exact m1
          · rw [List.mem_singleton.mp he]; exact m2) (List.nodup_cons.mpr ⟨fun q => by
            rcases List.mem_cons.mp q with q | q
            · exact n01 q
            · exact n02 (List.mem_singleton.mp q), List.nodup_cons.mpr ⟨fun q => n12 (List.mem_singleton.mp q), List.nodup_cons.mpr ⟨List.not_mem_nil, List.nodup_nil⟩⟩⟩)
        clear g0 g1 g2 hpl pr
        refine ⟨fun σ H' => ∃ M w0 w1, σ = [some (.ref a), some (.ref p), some (.int (0 + i)), some (.int z), some (.ref d), some (.ref st), some (.ref bk), x7, some (.ref pl), some (.ref M), x10, none, none, none, none, none, none] ∧ Same H8 H' ∧ H8 M = none ∧ H' M = some (.lst [.ref w0, .ref w1]) ∧ TabOf CC z H' w0 [e1] ∧ TabOf CC z H' w1 [e2, e0], ?_, ?_⟩
        · refine ⟨rfl, .int z, rfl, .ref pl, rfl, pl, _, 1, .ref t1, rfl, rfl, SqL.of th.at_, atI_nat (j := 1) rfl, ?_⟩
          refine of_made (ts := [t1]) (es := [e1]) (.cons th.h1 .nil) okA z1 z32 (by show 1 ≤ 40; decide) fun w0 HA nw0 sA tb0 => ?_
          have thA := th.same sA
          refine ⟨rfl, .int z, rfl, .ref pl, rfl, pl, _, 2, .ref t2, rfl, rfl, SqL.of thA.at_, atI_nat (j := 2) rfl, .ref pl, rfl, pl, _, 0, .ref t0, rfl, rfl, SqL.of thA.at_, atI_nat (j := 0) rfl, ?_⟩
          refine of_made (ts := [t2, t0]) (es := [e2, e0]) (.cons thA.h2 (.cons thA.h0 .nil)) okB z1 z32 (by show 2 ≤ 40; decide) fun w1 HB nw1 sB tb1 => ?_
          refine ⟨by show 2 ≤ sizeLine; decide, fun M nM => ?_⟩
          have sM := same_upd (o := .lst [.ref w0, .ref w1]) nM
          exact ⟨M, w0, w1, rfl, sA.trans (sB.trans sM), sA.free (sB.free nM), upd_same, (tb0.same sB).same sM, tb1.same sM⟩
        rintro σ H9 ⟨M, w0, w1, rfl, s9, nM8, hM, tb0, tb1⟩
        have plM : pl ≠ M := ne_of_none th.at_ nM8
        refine ⟨fun σ H' => ∃ w2, σ = [some (.ref a), some (.ref p), some (.int (0 + i)), some (.int z), some (.ref d), some (.ref st), some (.ref bk), x7, some (.ref pl), some (.ref M), x10, none, none, none, none, none, none] ∧ Same H8 H' ∧ H' M = some (.lst [.ref w0, .ref w1, .ref w2]) ∧ TabOf CC z H' w0 [e1] ∧ TabOf CC z H' w1 [e2, e0] ∧ TabOf CC z H' w2 [e1, e2, e0], ?_, ?_⟩
        · have th9 := th.same s9
          refine ⟨.ref M, rfl, .inl ⟨rfl, _, SqL.of hM⟩, ?_⟩
          refine ⟨rfl, .int z, rfl, .ref pl, rfl, pl, _, 1, .ref t1, rfl, rfl, SqL.of th9.at_, atI_nat (j := 1) rfl, .ref pl, rfl, pl, _, 2, .ref t2, rfl, rfl, SqL.of th9.at_, atI_nat (j := 2) rfl, .ref pl, rfl, pl, _, 0, .ref t0, rfl, rfl, SqL.of th9.at_, atI_nat (j := 0) rfl, ?_⟩
          refine of_made (ts := [t1, t2, t0]) (es := [e1, e2, e0]) (.cons th9.h1 (.cons th9.h2 (.cons th9.h0 .nil))) okC z1 z32 (by show 3 ≤ 40; decide) fun w2 HB nw2 sB tb2 => ?_
          have hMB := sB _ _ hM
          refine ⟨M, _, .ref w2, rfl, rfl, hMB, by show 2 < sizeLine; decide, ?_⟩
          refine ⟨w2, rfl, fun b o eb => ?_, upd_same, (tb0.same sB).but hMB, (tb1.same sB).but hMB, tb2.but hMB⟩
          rw [upd_ne (ne_of_none eb nM8)]
          exact sB _ _ (s9 _ _ eb)
        clear hM tb0 tb1 s9
        rintro σ H9 ⟨w2, rfl, s9, hM, tb0, tb1, tb2⟩
        refine ⟨fun σ H' => ∃ D d0 d1 d2, σ = [some (.ref a), some (.ref p), some (.int (0 + i)), some (.int z), some (.ref d), some (.ref st), some (.ref bk), x7, some (.ref pl), some (.ref M), some (.ref D), none, none, none, none, none, none] ∧ Same H9 H' ∧ H' D = some (.lst [.ref d0, .ref d1, .ref d2]) ∧ H' d0 = some (.dK (txK [e1])) ∧ H' d1 = some (.dK (txK [e0, e2])) ∧ H' d2 = some (.dK (txK [e0, e1, e2])), ?_, ?_⟩
        · have th9 := th.same s9
          refine ⟨.ref pl, rfl, 1, rfl, 2, rfl, pl, _, rfl, SqL.of th9.at_, fun S1 nS1 => ?_⟩
          rw [show cutV ((t0 :: t1 :: t2 :: tr).map V.ref) (some 1) (some 2) = [.ref t1] from cut_nat _ 1 2 (by decide) (by show 2 ≤ (tr.map V.ref).length + 3; omega)]
          have t1s := same_upd (o := .lst [.ref t1]) nS1
          have thA := th9.same t1s
          refine ⟨_, [t1], txK [e1], rfl, SqL.of upd_same, tx_pr (.cons thA.h1 .nil), fun d0 nd0 => ?_⟩
          rw [tx_mk okA.pfx.nd]
          have t2s := t1s.trans (same_upd (o := .dK (txK [e1])) nd0)
          have thB := th9.same t2s
          have hd0 := upd_same (H := upd H9 S1 (.lst [.ref t1])) (a := d0) (o := .dK (txK [e1]))
          revert t2s thB hd0
          generalize upd (upd H9 S1 (.lst [.ref t1])) d0 (.dK (txK [e1])) = HB
          intro t2s thB hd0
          refine ⟨.ref pl, rfl, pl, _, 0, .ref t0, rfl, rfl, SqL.of thB.at_, atI_nat (j := 0) rfl, .ref pl, rfl, pl, _, 2, .ref t2, rfl, rfl, SqL.of thB.at_, atI_nat (j := 2) rfl, by show 2 ≤ sizeLine; decide, fun S2 nS2 => ?_⟩
          have t3s := same_upd (o := .lst [.ref t0, .ref t2]) nS2
          have thC := thB.same t3s
          refine ⟨_, [t0, t2], txK [e0, e2], rfl, SqL.of upd_same, tx_pr (.cons thC.h0 (.cons thC.h2 .nil)), fun d1 nd1 => ?_⟩
          rw [tx_mk okB2.pfx.nd]
          have t4s := t3s.trans (same_upd (o := .dK (txK [e0, e2])) nd1)
          have thD := thB.same t4s
          have hd1 := upd_same (H := upd HB S2 (.lst [.ref t0, .ref t2])) (a := d1) (o := .dK (txK [e0, e2]))
          revert t4s thD hd1
          generalize upd (upd HB S2 (.lst [.ref t0, .ref t2])) d1 (.dK (txK [e0, e2])) = HD
          intro t4s thD hd1
          refine ⟨.ref pl, rfl, 3, rfl, pl, _, rfl, SqL.of thD.at_, fun S3 nS3 => ?_⟩
          rw [show cutV ((t0 :: t1 :: t2 :: tr).map V.ref) none (some 3) = [.ref t0, .ref t1, .ref t2] from cut_to _ 3 (by show 3 ≤ (tr.map V.ref).length + 3; omega)]
          have t5s := same_upd (o := .lst [.ref t0, .ref t1, .ref t2]) nS3
          have thE := thD.same t5s
          refine ⟨_, [t0, t1, t2], txK [e0, e1, e2], rfl, SqL.of upd_same, tx_pr (.cons thE.h0 (.cons thE.h1 (.cons thE.h2 .nil))), fun d2 nd2 => ?_⟩
          rw [tx_mk okC2.pfx.nd]
          have t6s := t5s.trans (same_upd (o := .dK (txK [e0, e1, e2])) nd2)
          have hd2 := upd_same (H := upd HD S3 (.lst [.ref t0, .ref t1, .ref t2])) (a := d2) (o := .dK (txK [e0, e1, e2]))
          revert t6s hd2
          generalize upd (upd HD S3 (.lst [.ref t0, .ref t1, .ref t2])) d2 (.dK (txK [e0, e1, e2])) = HF
          intro t6s hd2
          refine ⟨by show 3 ≤ sizeLine; decide, fun D nD => ?_⟩
          have t7s := same_upd (o := .lst [.ref d0, .ref d1, .ref d2]) nD
          exact ⟨D, d0, d1, d2, rfl, t2s.trans (t4s.trans (t6s.trans t7s)), upd_same, t7s _ _ (t6s _ _ (t4s _ _ hd0)), t7s _ _ (t6s _ _ hd1), t7s _ _ hd2⟩
        rintro σ H10 ⟨D, d0, d1, d2, rfl, s10, hD, hd0, hd1, hd2⟩
        have hM10 := s10 _ _ hM
        obtain ⟨f0, k0, y0, mp0, so0⟩ := tb0.same s10
        obtain ⟨f1, k1, y1, mp1, so1⟩ := tb1.same s10
        obtain ⟨f2, k2, y2, mp2, so2⟩ := tb2.same s10
        have all3 : ∀ j, j < 3 → ∃ x dd, [V.ref w0, .ref w1, .ref w2][j]? = some (.ref x) ∧ [V.ref d0, .ref d1, .ref d2][j]? = some (.ref dd) ∧ ShowsAt CC z H10 x dd := fun j hj => by
          rcases j with _ | _ | _ | j
          · exact ⟨w0, d0, rfl, rfl, f0, _, _, _, _, mp0, hd0, okA, so0, by show 1 ≤ 40; decide⟩
          · exact ⟨w1, d1, rfl, rfl, f1, _, _, _, _, mp1, hd1, okB2, so1.re okB okB2 (.swap _ _ _), by show 2 ≤ 40; decide⟩
          · exact ⟨w2, d2, rfl, rfl, f2, _, _, _, _, mp2, hd2, okC2, so2.re okC okC2 (by exact (List.perm_append_comm (l₁ := [e1, e2]) (l₂ := [e0]))), by show 3 ≤ 40; decide⟩
          · omega
        have s310 : Same H3 H10 := s38.trans (s9.trans s10)
        clear mp0 mp1 mp2 so0 so1 so2 hd0 hd1 hd2 tb0 tb1 tb2 hM s9 s10
        refine ⟨3, rfl, by decide, by decide, fun Lr nLr => lc_range (n := 3) (fun j H' => H' Lr = some (.lst ((List.replicate j true).map V.bl)) ∧ Same H10 H') ⟨upd_same, same_upd nLr⟩ ?_ ?_⟩
        · rintro j HA hj ⟨hL, sA⟩
          have ej : (0 : Int) + (j : Nat) = (j : Int) := Int.zero_add _
          rw [ej]
          obtain ⟨x, dd, hx, hdd, sh⟩ := all3 j hj
          obtain ⟨e, xs', ys', kvs', ks', mp, hk, ok', so, few'⟩ := sh.same sA
          refine ⟨rfl, yes_if ?_⟩
          refine ⟨.ref M, rfl, .int j, rfl, M, _, j, .ref x, rfl, rfl, SqL.of (sA _ _ hM10), atI_nat hx, .int z, rfl, .ref D, rfl, .int j, rfl, D, _, j, .ref dd, rfl, rfl, SqL.of (sA _ _ hD), atI_nat hdd, ?_⟩
          refine ⟨x, e, dd, z, xs', ys', kvs', ks', rfl, mp, hk, ok', so, z32, few', fun HB sB => ?_⟩
          refine ⟨_, sB _ _ hL, big_lt (by rw [List.length_map, List.length_replicate]; omega), ?_, fun b o eb => ?_⟩
          · rw [upd_same, List.replicate_succ', List.map_append]
            rfl
          · rw [upd_ne (ne_of_none eb nLr)]
            exact sB _ _ (sA _ _ eb)
        · rintro HA ⟨hL, sA⟩
          exact ⟨Lr, _, rfl, SqL.of hL, _, rfl, iteF ⟨⟨_, _, _, _, _, _, _, _, _, rfl⟩, m', hm', (p3.keep (s310.trans sA)).mono (by omega)⟩⟩
      · rw [decide_eq_false (by omega)]
        exact iteF ⟨⟨_, _, _, _, _, _, _, _, _, rfl⟩, m', hm', (p3.keep s38).mono (by omega)⟩
    · rintro σ H1 ⟨⟨x2, x3, x4, x5, x6, x7, x8, x9, x10, rfl⟩, _⟩
      clear hp nc np sm0 hlen hS
      refine fun G nG => ?_
      have hG := upd_same (H := H1) (a := G) (o := .dK [])
      revert hG
      generalize upd H1 G (.dK []) = H2
      intro hG
      show gName 13 (V.ref G) [some (.ref a), some (.ref p), x2, x3, x4, x5, x6, x7, x8, x9, x10, none, some (.str "abcdefghijklmnopqrstuvwxyz"), none, none, none, none] H2 _
      refine ⟨fun σ H' => ∃ x11, σ = [some (.ref a), some (.ref p), x2, x3, x4, x5, x6, x7, x8, x9, x10, x11, some (.str "abcdefghijklmnopqrstuvwxyz"), some (.ref G), none, none, none] ∧ H' G = some (.dK (txK tab26)), ?_, ?_⟩
      · refine ⟨26, rfl, by decide, by decide, for_range (n := 26) (fun k σ H' => (∃ x11, σ = [some (.ref a), some (.ref p), x2, x3, x4, x5, x6, x7, x8, x9, x10, x11, some (.str "abcdefghijklmnopqrstuvwxyz"), some (.ref G), none, none, none]) ∧ H' G = some (.dK (txK (tab26.take k)))) ⟨⟨_, rfl⟩, hG⟩ ?_ ?_⟩
        · rintro k σ HA hk ⟨⟨x11, rfl⟩, hGA⟩
          have ek : (0 : Int) + (k : Nat) = (k : Int) := Int.zero_add _
          rw [ek]
          show gName 11 (V.int k) [some (.ref a), some (.ref p), x2, x3, x4, x5, x6, x7, x8, x9, x10, x11, some (.str "abcdefghijklmnopqrstuvwxyz"), some (.ref G), none, none, none] HA _
          refine ⟨.str "abcdefghijklmnopqrstuvwxyz", rfl, .int k, rfl, k, rfl, .int k, rfl, k, 3, rfl, rfl, _, rfl, "abcdefghijklmnopqrstuvwxyz", rfl, by decide +kernel, .ref G, rfl, ⟨_, rfl⟩, ?_⟩
          refine ⟨by show 5 ≤ sizeLine; decide, fun tp ntp => ?_⟩
          have s1 := same_upd (o := .tup (halves.map V.int)) ntp
          have htp := upd_same (H := HA) (a := tp) (o := .tup (halves.map V.int))
          refine ⟨tp, rfl, ⟨_, .inl (.inl htp)⟩, fun D nD => ?_⟩
          have nDt : D ≠ tp := (ne_of_none htp nD).symm
          refine lc_it (walk_tup (K := K) (a := tp) (xs := halves.map V.int)) (fun j H' => H' D = some (.lst (((halves.take j).map fun h => (⟨#[bitK k h]⟩ : Str)).map V.str)) ∧ Same (upd HA tp (.tup (halves.map V.int))) H') ⟨upd_same, same_upd nD⟩ (fun _ _ _ h => .inl (.inl (h.2 _ _ htp))) ?_ ?_
          · rintro j v HB HC hj ⟨hD, sB⟩ ⟨rfl, hv⟩
            rw [List.getElem?_map] at hv
            obtain ⟨h, hh, rfl⟩ := Option.map_eq_some_iff.mp hv
            obtain ⟨hc, hb⟩ := bit26 ⟨k, hk⟩ h (List.mem_of_getElem? hh)
            refine ⟨rfl, yes_if ?_⟩
            refine ⟨.int k, rfl, .int h, rfl, k, h, rfl, rfl, hc, _, 2, rfl, rfl, by show (0 : Int) < 2; decide, "01", _, bitK k h, rfl, rfl, by decide +kernel, hb, _, hD, ?_, ?_, fun b o eb => ?_⟩
            · exact big_lt (by rw [List.length_map, List.length_map, List.length_take]; show min j 5 ≤ _; omega)
            · rw [upd_same, List.take_add_one, hh, List.map_append, List.map_append]
              rfl
            · rw [upd_ne (ne_of_none eb nD)]
              exact sB _ _ eb
          · rintro HB ⟨hD, sB⟩
            have hGB := sB _ _ (s1 _ _ hGA)
            refine ⟨"", D, halves.map (fun h => (⟨#[bitK k h]⟩ : Str)), rfl, rfl, .inl (SqL.of hD), sum26 ⟨k, hk⟩, ?_⟩
            have fewT : (txK (tab26.take k)).length < sizeLine := big_lt (by unfold txK; rw [List.length_map, List.length_take]; omega)
            refine ⟨G, _, rfl, DPut.k (k := .inr (keyK k)) hGB fewT, ⟨_, rfl⟩, ?_⟩
            have hk2 : tab26[k]? = some (keyK k, valK k) := by
              unfold tab26
              rw [List.getElem?_map, List.getElem?_range hk]
              rfl
            have knd : (tab26.map (·.1)).Nodup := ok26.pfx.nd
            have fresh : (.inr (keyK k) : Key) ∉ (txK (tab26.take k)).map (·.1) := by
              unfold txK
              rw [List.map_map, List.mem_map]
              rintro ⟨e2, h2, q2⟩
              have q3 : e2.1 = keyK k := Sum.inr.inj q2
              obtain ⟨j, hj, ej⟩ := List.mem_take_iff_getElem.mp h2
              have l26 : tab26.length = 26 := by decide +kernel
              have hk3 : tab26[k]'(by omega) = (keyK k, valK k) := (List.getElem?_eq_some_iff.mp hk2).2
              have e5 : (tab26.map (·.1))[j]'(by rw [List.length_map]; omega) = (tab26.map (·.1))[k]'(by rw [List.length_map]; omega) := by
                rw [List.getElem_map, List.getElem_map, ej, hk3, q3]
              have := (List.getElem_inj knd).mp e5
              omega
            rw [upd_same]
            have e9 := putK_end (kvs := txK (tab26.take k)) (k := .inr (keyK k)) (v := .str (valK k)) fresh
            refine (congrArg (fun l => some (HO.dK l)) e9).trans ?_
            rw [List.take_add_one, hk2]
            unfold txK
            rw [List.map_append]
            rfl
        · rintro σ HA ⟨⟨x11, rfl⟩, hGA⟩
          refine ⟨x11, rfl, ?_⟩
          rw [List.take_of_length_le (by decide +kernel)] at hGA
          exact hGA
      rintro σ H3 ⟨x11, rfl, hG3⟩
      refine ⟨.ref G, rfl, fun x dx nx ndx nex => ?_⟩
      have dx1 : G ≠ x := ne_of_none hG3 nx
      have dx2 : G ≠ dx := ne_of_none hG3 ndx
      refine ⟨x, dx, G, 5, tab26.map (·.1), txK tab26, rfl, upd_same, by decide, by decide, by rw [upd_ne dx1, upd_ne dx2]; exact hG3, ok26, by decide +kernel, fun e ys ks H4 ne hs hm keep => ⟨rfl, ?_⟩⟩
      clear keep
      have okS := hs.rows ok26
      obtain ⟨fs, rfl⟩ := tx_of okS
      obtain ⟨⟨dx', hx'⟩, he⟩ := id hm
      have lfs : fs.length = 26 := by
        have h1 := (keys_len okS.keys).trans (List.length_map _)
        have h2 := hs.perm.length_eq
        have h3 : (tab26.map (·.1)).length = 26 := by decide +kernel
        omega
      show gName 15 (V.ref x) [some (.ref a), some (.ref p), x2, x3, x4, x5, x6, x7, x8, x9, x10, x11, some (.str "abcdefghijklmnopqrstuvwxyz"), some (.ref G), none, none, none] H4 _
      refine ⟨.ref x, rfl, x, dx', _, rfl, hx', x, e, 5, fs.map (·.2), txK fs, rfl, hm, vals_tx fs, by rw [List.length_map]; omega, fun tp ts HB sB ntp htp knd kmem kup => ?_⟩
      refine ⟨26, rfl, by decide, by decide, fun D nD => lc_range (n := 26) (fun j H' => H' D = some (.lst (((List.range j).map valK).map V.str)) ∧ Same HB H') ⟨upd_same, same_upd nD⟩ ?_ ?_⟩
      · rintro j HA hj ⟨hD, sA⟩
        have ej : (0 : Int) + (j : Nat) = (j : Int) := Int.zero_add _
        rw [ej]
        refine ⟨rfl, yes_if ?_⟩
        refine ⟨.str "abcdefghijklmnopqrstuvwxyz", rfl, .int j, rfl, j, rfl, .int j, rfl, j, 3, rfl, rfl, _, rfl, "abcdefghijklmnopqrstuvwxyz", rfl, by decide +kernel, _, hD, ?_, ?_, fun b o eb => ?_⟩
        · exact big_lt (by rw [List.length_map, List.length_map, List.length_range]; omega)
        · rw [upd_same, List.range_succ, List.map_append, List.map_append]
          rfl
        · rw [upd_ne (ne_of_none eb nD)]
          exact sA _ _ eb
      rintro HA ⟨hD, sA⟩
      refine ⟨D, (List.range 26).map valK, rfl, SqL.of hD, by decide +kernel, fun zs l pm up nl => ?_⟩
      have t26 : (List.range 26).map valK = tab26.map (·.2) := by unfold tab26; rw [List.map_map]; rfl
      rw [t26] at pm
      have et : ts = zs := up_uniq ((List.perm_ext_iff_of_nodup knd (pm.nodup_iff.mpr vals26)).mpr fun v => (kmem v).trans ((same_vals ok26 hs v).trans (pm.mem_iff (a := v)).symm)) kup up
      subst et
      have sl := same_upd (o := .lst (ts.map V.str)) nl
      have htp2 := sl _ _ (sA _ _ htp)
      have shp := shaped_sm (xs := ts) fun v hv => vals_sm okS (by decide) v ((kmem v).mp hv)
      refine ⟨.list (ts.map PyData.str), .list (ts.map PyData.str), .lst (SqL.of htp2) (dpAll_strs _), .lst (SqL.of upd_same) (dpAll_strs _), shp, shp, ?_⟩
      rw [SeqAt.eqv_refl _ (SeqAt.canLay_of_shaped shp)]
      refine ⟨_, rfl, iteF ?_⟩
      have s4 : Same H4 _ := sB.trans (sA.trans sl)
      have hm5 := hm.same s4
      have hx5 := s4 _ _ hx'
      clear hm hx' he htp htp2 hD sA sB sl nD nl ntp pm up kup kmem knd
      revert hm5 hx5
      generalize upd HA l (.lst (ts.map V.str)) = H5
      intro hm5 hx5
      refine ⟨.ref x, rfl, x, dx', _, rfl, hx5, flds_no _ _ (by decide +kernel) (by decide +kernel), x, e, 5, ys, txK fs, "11001", rfl, hm5, hs.keys, by decide +kernel, by decide +kernel, by decide, fun r hr => ?_⟩
      obtain rfl : r = some ("11001" : Str) := hr.uniq (fun t => hs.perm.mem_iff) long25
      have lv : leadV (txK fs) (some ("11001" : Str)) = .str "z" := by
        show (valV (txK fs) (.inr "11001")).getD .non = .str "z"
        rw [hs.val "11001" long25.1, valV_some ok26.acc.nd (tx_mem at25)]
        rfl
      rw [lv]
      refine ⟨rfl, _, rfl, iteNS rfl ?_⟩
      refine ⟨rfl, by show 2 ≤ sizeLine; decide, fun t0 n0 => ⟨by show 2 ≤ sizeLine; decide, fun t1 n1 => ⟨by show 2 ≤ sizeLine; decide, fun t2 n2 => ⟨by show 2 ≤ sizeLine; decide, fun t3 n3 => ⟨by show 2 ≤ sizeLine; decide, fun t4 n4 => ⟨by show 2 ≤ sizeLine; decide, fun t5 n5 => ⟨by show 2 ≤ sizeLine; decide, fun t6 n6 => ?_⟩⟩⟩⟩⟩⟩⟩
      have u1 := same_upd (o := .tup [.str "0", .str "b"]) n1
      have u2 := same_upd (o := .tup [.str "1", .str "c"]) n2
      have u3 := same_upd (o := .tup [.str "00", .str "d"]) n3
      have u4 := same_upd (o := .tup [.str "01", .str "e"]) n4
      have u5 := same_upd (o := .tup [.str "10", .str "f"]) n5
      have u6 := same_upd (o := .tup [.str "11", .str "g"]) n6
      refine of_made (z := 3) (ts := [t0, t1, t2, t3, t4, t5, t6]) (es := tab7) (.cons (u6 _ _ (u5 _ _ (u4 _ _ (u3 _ _ (u2 _ _ (u1 _ _ upd_same)))))) (.cons (u6 _ _ (u5 _ _ (u4 _ _ (u3 _ _ (u2 _ _ upd_same))))) (.cons (u6 _ _ (u5 _ _ (u4 _ _ (u3 _ _ upd_same)))) (.cons (u6 _ _ (u5 _ _ (u4 _ _ upd_same))) (.cons (u6 _ _ (u5 _ _ upd_same)) (.cons (u6 _ _ upd_same) (.cons upd_same .nil))))))) ok7 (by decide) (by decide) (by decide) fun y H6 ny s6 tb => ?_
      obtain ⟨em, km, ym, hm6, so⟩ := tb
      have okM := so.rows ok7
      obtain ⟨gs, rfl⟩ := tx_of okM
      obtain ⟨⟨dy, hy6⟩, _⟩ := id hm6
      have lgs : gs.length = 7 := by
        have h1 := (keys_len okM.keys).trans (List.length_map _)
        have h2 := so.perm.length_eq
        have h3 : (tab7.map (·.1)).length = 7 := by decide +kernel
        omega
      show gName 16 (V.ref y) [some (.ref a), some (.ref p), x2, x3, x4, x5, x6, x7, x8, x9, x10, x11, some (.str "abcdefghijklmnopqrstuvwxyz"), some (.ref G), none, some (.ref x), none] H6 _
      refine ⟨.ref y, rfl, y, dy, _, rfl, hy6, y, em, 3, gs.map (·.2), txK gs, rfl, hm6, vals_tx gs, by rw [List.length_map]; omega, fun tq us HB sB ntq htq und umem uup => ?_⟩
      have eu : us = tab7.map (·.2) := up_uniq ((List.perm_ext_iff_of_nodup und vals7).mpr fun v => (umem v).trans (same_vals ok7 so v)) uup up7
      subst eu
      refine ⟨by show 7 ≤ sizeLine; decide, fun l2 nl2 => ?_⟩
      have sl := same_upd (o := .lst ((tab7.map (·.2)).map V.str)) nl2
      have shq := shaped_sm (xs := tab7.map (·.2)) (vals_sm ok7 (by decide))
      refine ⟨.list ((tab7.map (·.2)).map PyData.str), .list ((tab7.map (·.2)).map PyData.str), .lst (SqL.of (sl _ _ htq)) (dpAll_strs (tab7.map (·.2))), .lst (xs := (tab7.map (·.2)).map V.str) (SqL.of upd_same) (dpAll_strs (tab7.map (·.2))), shq, shq, ?_⟩
      rw [SeqAt.eqv_refl _ (SeqAt.canLay_of_shaped shq)]
      refine ⟨_, rfl, iteT ?_⟩
      have hm7 := (hm6.same sB).same sl
      obtain ⟨⟨dz, hy7⟩, _⟩ := id hm7
      refine ⟨.ref y, rfl, y, dz, _, rfl, hy7, y, em, 3, txK gs, rfl, hm7, 7, ?_, by decide, rfl, q _⟩
      rw [show (txK gs).length = 7 from (List.length_map _).trans lgs]
end
abbrev sLaw : Stmt := sL
theorem all_mk {l : PySem.W.OpenLaw} {w : World} {K : PySem.W.Frag} {h : Heap} {mg : Str → Option Value} {fa fP fN fDr fB fS fX fH fI fA fWo fV fY fRi fCo fL fK fU fLn fWk fLo fLu fVw fWr fEq fG fR fPw fTa fMd fOf CD CC fT cdaT ccT pG pR pPw pTa pMd pOf : Addr} (X : K.In h) (G : h.Ns mainGlobals mg) (hfa : mg "law" = some (.ref fa))
    {odP anP odN anN odDr anDr odB anB odS anS odX anX odH anH odI anI odA anA odWo anWo odV anV odY anY odRi anRi odCo anCo odL anL odK anK odU anU odLn anLn odWk anWk odLo anLo odLu anLu odVw anVw odWr anWr odEq anEq odG anG odR anR odPw anPw odTa anTa odMd anMd odOf anOf : Option Addr} {slP slN slDr slB slS slX slH slI slA slWo slV slY slRi slCo slL slK slU slLn slWk slLo slLu slVw slWr slEq slG slR slPw slTa slMd slOf : Array (Option Value)} {ocP dcP pmP cdP ctP kVP ocN dcN pmN cdN ctN kVN ocDr dcDr pmDr cdDr ctDr kVDr ocB dcB pmB cdB ctB kVB ocS dcS pmS cdS ctS kVS ocX dcX pmX cdX ctX kVX ocH dcH pmH cdH ctH kVH ocI dcI pmI cdI ctI kVI ocA dcA pmA cdA ctA kVA ocWo dcWo pmWo cdWo ctWo kVWo ocV dcV pmV cdV ctV kVV ocY dcY pmY cdY ctY kVY ocRi dcRi pmRi cdRi ctRi kVRi ocCo dcCo pmCo cdCo ctCo kVCo ocL dcL pmL cdL ctL kVL ocK dcK pmK cdK ctK kVK ocU dcU pmU cdU ctU kVU ocLn dcLn pmLn cdLn ctLn kVLn ocWk dcWk pmWk cdWk ctWk kVWk ocLo dcLo pmLo cdLo ctLo kVLo ocLu dcLu pmLu cdLu ctLu kVLu ocVw dcVw pmVw cdVw ctVw kVVw ocWr dcWr pmWr cdWr ctWr kVWr ocEq dcEq pmEq cdEq ctEq kVEq ocG dcG pmG cdG ctG kVG ocR dcR pmR cdR ctR kVR ocPw dcPw pmPw cdPw ctPw kVPw ocTa dcTa pmTa cdTa ctTa kVTa ocMd dcMd pmMd cdMd ctMd kVMd ocOf dcOf pmOf cdOf ctOf kVOf : Value} {tkZ tkE tkO : Tok}
    {ocT kVT dcT pmT ctT ckT lkT : Value} {odT anT cddT ldT : Option Addr} {slT csT lsT : Array (Option Value)} {vsT : Array Value} {fiT : Str} {tfT : Tok}
    {rsG : List Value}
    {rsR : List Value}
    {rsPw : List Value}
    {rsTa : List Value}
    {rsMd : List Value}
    {rsOf : List Value}
    (aP : PySem.W.nsIn K mainGlobals "_law_pen" = some (some (.ref fP)))
    (lP : K.lookup fP = some ⟨ocP, odP, .func (PySem.W.fnOf "_law_pen" "_law_pen" (defArgs sP) (defBody sP) (defScope sP) .none kVP dcP pmP anP cdP ctP), slP⟩)
    (cP : PySem.W.codeIn K cdP "_law_pen" = true) (kP : PySem.W.keepIn K (.ref fP) = true)
    (aN : PySem.W.nsIn K mainGlobals "_law_next" = some (some (.ref fN)))
    (lN : K.lookup fN = some ⟨ocN, odN, .func (PySem.W.fnOf "_law_next" "_law_next" (defArgs sN) (defBody sN) (defScope sN) .none kVN dcN pmN anN cdN ctN), slN⟩)
    (cN : PySem.W.codeIn K cdN "_law_next" = true) (kN : PySem.W.keepIn K (.ref fN) = true)
    (aDr : PySem.W.nsIn K mainGlobals "_law_draw" = some (some (.ref fDr)))
    (lDr : K.lookup fDr = some ⟨ocDr, odDr, .func (PySem.W.fnOf "_law_draw" "_law_draw" (defArgs sDr) (defBody sDr) (defScope sDr) .none kVDr dcDr pmDr anDr cdDr ctDr), slDr⟩)
    (cDr : PySem.W.codeIn K cdDr "_law_draw" = true) (kDr : PySem.W.keepIn K (.ref fDr) = true)
    (aB : PySem.W.nsIn K mainGlobals "_law_bits" = some (some (.ref fB)))
    (lB : K.lookup fB = some ⟨ocB, odB, .func (PySem.W.fnOf "_law_bits" "_law_bits" (defArgs sB) (defBody sB) (defScope sB) .none kVB dcB pmB anB cdB ctB), slB⟩)
    (cB : PySem.W.codeIn K cdB "_law_bits" = true) (kB : PySem.W.keepIn K (.ref fB) = true)
    (aS : PySem.W.nsIn K mainGlobals "_law_size" = some (some (.ref fS)))
    (lS : K.lookup fS = some ⟨ocS, odS, .func (PySem.W.fnOf "_law_size" "_law_size" (defArgs sS) (defBody sS) (defScope sS) .none kVS dcS pmS anS cdS ctS), slS⟩)
    (cS : PySem.W.codeIn K cdS "_law_size" = true) (kS : PySem.W.keepIn K (.ref fS) = true)
    (aX : PySem.W.nsIn K mainGlobals "_law_prefixes" = some (some (.ref fX)))
    (lX : K.lookup fX = some ⟨ocX, odX, .func (PySem.W.fnOf "_law_prefixes" "_law_prefixes" (defArgs sX) (defBody sX) (defScope sX) .none kVX dcX pmX anX cdX ctX), slX⟩)
    (cX : PySem.W.codeIn K cdX "_law_prefixes" = true) (kX : PySem.W.keepIn K (.ref fX) = true)
    (aH : PySem.W.nsIn K mainGlobals "has_only" = some (some (.ref fH)))
    (lH : K.lookup fH = some ⟨ocH, odH, .func (PySem.W.fnOf "has_only" "has_only" (defArgs sH) (defBody sH) (defScope sH) .none kVH dcH pmH anH cdH ctH), slH⟩)
    (cH : PySem.W.codeIn K cdH "has_only" = true) (kH : PySem.W.keepIn K (.ref fH) = true)
    (aI : PySem.W.nsIn K mainGlobals "is_prefix" = some (some (.ref fI)))
    (lI : K.lookup fI = some ⟨ocI, odI, .func (PySem.W.fnOf "is_prefix" "is_prefix" (defArgs sI) (defBody sI) (defScope sI) .none kVI dcI pmI anI cdI ctI), slI⟩)
    (cI : PySem.W.codeIn K cdI "is_prefix" = true) (kI : PySem.W.keepIn K (.ref fI) = true)
    (aA : PySem.W.nsIn K mainGlobals "is_address" = some (some (.ref fA)))
    (lA : K.lookup fA = some ⟨ocA, odA, .func (PySem.W.fnOf "is_address" "is_address" (defArgs sA) (defBody sA) (defScope sA) .none kVA dcA pmA anA cdA ctA), slA⟩)
    (cA : PySem.W.codeIn K cdA "is_address" = true) (kA : PySem.W.keepIn K (.ref fA) = true)
    (aWo : PySem.W.nsIn K mainGlobals "is_whole" = some (some (.ref fWo)))
    (lWo : K.lookup fWo = some ⟨ocWo, odWo, .func (PySem.W.fnOf "is_whole" "is_whole" (defArgs sWo) (defBody sWo) (defScope sWo) .none kVWo dcWo pmWo anWo cdWo ctWo), slWo⟩)
    (cWo : PySem.W.codeIn K cdWo "is_whole" = true) (kWo : PySem.W.keepIn K (.ref fWo) = true)
    (aV : PySem.W.nsIn K mainGlobals "is_width" = some (some (.ref fV)))
    (lV : K.lookup fV = some ⟨ocV, odV, .func (PySem.W.fnOf "is_width" "is_width" (defArgs sV) (defBody sV) (defScope sV) .none kVV dcV pmV anV cdV ctV), slV⟩)
    (cV : PySem.W.codeIn K cdV "is_width" = true) (kV : PySem.W.keepIn K (.ref fV) = true)
    (aY : PySem.W.nsIn K mainGlobals "_law_lines" = some (some (.ref fY)))
    (lY : K.lookup fY = some ⟨ocY, odY, .func (PySem.W.fnOf "_law_lines" "_law_lines" (defArgs sY) (defBody sY) (defScope sY) .none kVY dcY pmY anY cdY ctY), slY⟩)
    (cY : PySem.W.codeIn K cdY "_law_lines" = true) (kY : PySem.W.keepIn K (.ref fY) = true)
    (aRi : PySem.W.nsIn K mainGlobals "_law_right" = some (some (.ref fRi)))
    (lRi : K.lookup fRi = some ⟨ocRi, odRi, .func (PySem.W.fnOf "_law_right" "_law_right" (defArgs sRi) (defBody sRi) (defScope sRi) .none kVRi dcRi pmRi anRi cdRi ctRi), slRi⟩)
    (cRi : PySem.W.codeIn K cdRi "_law_right" = true) (kRi : PySem.W.keepIn K (.ref fRi) = true)
    (aCo : PySem.W.nsIn K mainGlobals "_law_copies" = some (some (.ref fCo)))
    (lCo : K.lookup fCo = some ⟨ocCo, odCo, .func (PySem.W.fnOf "_law_copies" "_law_copies" (defArgs sCo) (defBody sCo) (defScope sCo) .none kVCo dcCo pmCo anCo cdCo ctCo), slCo⟩)
    (cCo : PySem.W.codeIn K cdCo "_law_copies" = true) (kCo : PySem.W.keepIn K (.ref fCo) = true)
    (aL : PySem.W.nsIn K mainGlobals "law" = some (some (.ref fL)))
    (lL : K.lookup fL = some ⟨ocL, odL, .func (PySem.W.fnOf "law" "law" (defArgs sL) (defBody sL) (defScope sL) .none kVL dcL pmL anL cdL ctL), slL⟩)
    (cL : PySem.W.codeIn K cdL "law" = true) (kL : PySem.W.keepIn K (.ref fL) = true)
    (aD : PySem.W.nsIn K mainGlobals "PrefixMap" = some (some (.ref CD))) (pgD : PySem.W.plainGet K CD Str.empty = true) (hdD : PySem.W.hasDictIn K CD = true) (poD : PySem.W.plainOver K CD = true) (saD : PySem.W.findIn K (.ref CD) "__setattr__" = some (some (.builtin "object.__setattr__"))) (mkD : PySem.W.makesIn K CD = true) (kcD : PySem.W.keepIn K (.ref CD) = true)
    (aC : PySem.W.nsIn K mainGlobals "Table" = some (some (.ref CC))) (pgC : PySem.W.plainGet K CC Str.empty = true) (hdC : PySem.W.hasDictIn K CC = true) (poC : PySem.W.plainOver K CC = true) (saC : PySem.W.findIn K (.ref CC) "__setattr__" = some (some (.builtin "object.__setattr__"))) (mkC : PySem.W.makesIn K CC = true) (kcC : PySem.W.keepIn K (.ref CC) = true)
    (nC_width : PySem.W.findIn K (.ref CC) "_width" = some none)
    (nC_rows : PySem.W.findIn K (.ref CC) "_rows" = some none)
    (aK : PySem.W.findIn K (.ref CC) "_checked" = some (some (.ref fK))) (iK : PySem.W.isFn K (.ref fK) = true)
    (lK : K.lookup fK = some ⟨ocK, odK, .func (PySem.W.fnOf "_checked" "Table._checked" (defArgs sK) (defBody sK) (defScope sK) .none kVK dcK pmK anK cdK ctK), slK⟩)
    (cK : PySem.W.codeIn K cdK "Table._checked" = true) (kK : PySem.W.keepIn K (.ref fK) = true)
    (aU : PySem.W.findIn K (.ref CD) "__init__" = some (some (.ref fU))) (iU : PySem.W.isFn K (.ref fU) = true)
    (lU : K.lookup fU = some ⟨ocU, odU, .func (PySem.W.fnOf "__init__" "PrefixMap.__init__" (defArgs sU) (defBody sU) (defScope sU) .none kVU dcU pmU anU cdU ctU), slU⟩)
    (cU : PySem.W.codeIn K cdU "PrefixMap.__init__" = true) (kU : PySem.W.keepIn K (.ref fU) = true)
    (aLn : PySem.W.findIn K (.ref CC) "__len__" = some (some (.ref fLn))) (iLn : PySem.W.isFn K (.ref fLn) = true)
    (lLn : K.lookup fLn = some ⟨ocLn, odLn, .func (PySem.W.fnOf "__len__" "PrefixMap.__len__" (defArgs sLn) (defBody sLn) (defScope sLn) .none kVLn dcLn pmLn anLn cdLn ctLn), slLn⟩)
    (cLn : PySem.W.codeIn K cdLn "PrefixMap.__len__" = true) (kLn : PySem.W.keepIn K (.ref fLn) = true)
    (aWk : PySem.W.findIn K (.ref CC) "walk" = some (some (.ref fWk))) (iWk : PySem.W.isFn K (.ref fWk) = true)
    (lWk : K.lookup fWk = some ⟨ocWk, odWk, .func (PySem.W.fnOf "walk" "PrefixMap.walk" (defArgs sWk) (defBody sWk) (defScope sWk) .none kVWk dcWk pmWk anWk cdWk ctWk), slWk⟩)
    (cWk : PySem.W.codeIn K cdWk "PrefixMap.walk" = true) (kWk : PySem.W.keepIn K (.ref fWk) = true)
    (aLo : PySem.W.findIn K (.ref CC) "longest" = some (some (.ref fLo))) (iLo : PySem.W.isFn K (.ref fLo) = true)
    (lLo : K.lookup fLo = some ⟨ocLo, odLo, .func (PySem.W.fnOf "longest" "PrefixMap.longest" (defArgs sLo) (defBody sLo) (defScope sLo) .none kVLo dcLo pmLo anLo cdLo ctLo), slLo⟩)
    (cLo : PySem.W.codeIn K cdLo "PrefixMap.longest" = true) (kLo : PySem.W.keepIn K (.ref fLo) = true)
    (aLu : PySem.W.findIn K (.ref CC) "lookup" = some (some (.ref fLu))) (iLu : PySem.W.isFn K (.ref fLu) = true)
    (lLu : K.lookup fLu = some ⟨ocLu, odLu, .func (PySem.W.fnOf "lookup" "Table.lookup" (defArgs sLu) (defBody sLu) (defScope sLu) .none kVLu dcLu pmLu anLu cdLu ctLu), slLu⟩)
    (cLu : PySem.W.codeIn K cdLu "Table.lookup" = true) (kLu : PySem.W.keepIn K (.ref fLu) = true)
    (aVw : PySem.W.findIn K (.ref CC) "with_row" = some (some (.ref fVw))) (iVw : PySem.W.isFn K (.ref fVw) = true)
    (lVw : K.lookup fVw = some ⟨ocVw, odVw, .func (PySem.W.fnOf "with_row" "PrefixMap.with_row" (defArgs sVw) (defBody sVw) (defScope sVw) .none kVVw dcVw pmVw anVw cdVw ctVw), slVw⟩)
    (cVw : PySem.W.codeIn K cdVw "PrefixMap.with_row" = true) (kVw : PySem.W.keepIn K (.ref fVw) = true)
    (aWr : PySem.W.findIn K (.ref CC) "without" = some (some (.ref fWr))) (iWr : PySem.W.isFn K (.ref fWr) = true)
    (lWr : K.lookup fWr = some ⟨ocWr, odWr, .func (PySem.W.fnOf "without" "PrefixMap.without" (defArgs sWr) (defBody sWr) (defScope sWr) .none kVWr dcWr pmWr anWr cdWr ctWr), slWr⟩)
    (cWr : PySem.W.codeIn K cdWr "PrefixMap.without" = true) (kWr : PySem.W.keepIn K (.ref fWr) = true)
    (aEq : PySem.W.findIn K (.ref CC) "__eq__" = some (some (.ref fEq))) (iEq : PySem.W.isFn K (.ref fEq) = true)
    (lEq : K.lookup fEq = some ⟨ocEq, odEq, .func (PySem.W.fnOf "__eq__" "PrefixMap.__eq__" (defArgs sEq) (defBody sEq) (defScope sEq) .none kVEq dcEq pmEq anEq cdEq ctEq), slEq⟩)
    (cEq : PySem.W.codeIn K cdEq "PrefixMap.__eq__" = true) (kEq : PySem.W.keepIn K (.ref fEq) = true)
    (aT : PySem.W.findIn K (.ref CC) "__init__" = some (some (.ref fT))) (iT : PySem.W.isFn K (.ref fT) = true)
    (lT : K.lookup fT = some ⟨ocT, odT, .func (PySem.W.ksFn "__init__" "Table.__init__" (defArgs sT) (defBody sT) (defScope sT) .none kVT dcT pmT anT (.ref cdaT) ctT ccT), slT⟩)
    (cT : PySem.W.codeIn K (.ref cdaT) "Table.__init__" = true) (kT : PySem.W.keepIn K (.ref fT) = true) (qT : K.lookup cdaT = some ⟨ckT, cddT, .fields vsT, csT⟩) (xT : vsT[2]? = some (.str fiT tfT)) (uT : K.lookup ccT = some ⟨lkT, ldT, .cell (some (.ref CC)), lsT⟩)
    (hcT : PySem.W.isClsIn K CC = true) (hsT : PySem.W.mroIn K CC (.ref CC) = some true) (hmT : PySem.W.ks_superIn K CC CC "__init__" = some (some (.ref fU))) (hnT : PySem.W.fnIn K fU = true) (hpT : PySem.W.nsIn K cStatics "thirdparty.any" = some none)
    (hfT : ((l.prog.main.file : Str) == fiT) = true) (htT : (l.prog.main.scope.names.lookup ("super" : Str)).isSome = false)
    (aG : PySem.W.findIn K (.ref CC) "is_target" = some (some (.ref pG))) (tyG : PySem.W.typeIn K (.ref pG) = some (.type "staticmethod")) (ggG : PySem.W.specialIn K (.ref pG) "__get__" = some (some (.builtin "staticmethod.__get__"))) (tkG : PySem.W.takesIn K (.ref pG) = some false) (rcG : PySem.W.recIn K pG "staticmethod" = some (.ref fG :: rsG))
    (lG : K.lookup fG = some ⟨ocG, odG, .func (PySem.W.fnOf "is_target" "Table.is_target" (defArgs sG) (defBody sG) (defScope sG) .none kVG dcG pmG anG cdG ctG), slG⟩)
    (cG : PySem.W.codeIn K cdG "Table.is_target" = true) (kG : PySem.W.keepIn K (.ref fG) = true)
    (aR : PySem.W.findIn K (.ref CC) "rows" = some (some (.ref pR))) (ggR : PySem.W.specialIn K (.ref pR) "__get__" = some (some (.builtin "property.__get__"))) (tkR : PySem.W.takesIn K (.ref pR) = some true) (rcR : PySem.W.recIn K pR "property" = some (.ref fR :: rsR))
    (lR : K.lookup fR = some ⟨ocR, odR, .func (PySem.W.fnOf "rows" "PrefixMap.rows" (defArgs sR) (defBody sR) (defScope sR) .none kVR dcR pmR anR cdR ctR), slR⟩)
    (cR : PySem.W.codeIn K cdR "PrefixMap.rows" = true) (kR : PySem.W.keepIn K (.ref fR) = true)
    (aPw : PySem.W.findIn K (.ref CC) "width" = some (some (.ref pPw))) (ggPw : PySem.W.specialIn K (.ref pPw) "__get__" = some (some (.builtin "property.__get__"))) (tkPw : PySem.W.takesIn K (.ref pPw) = some true) (rcPw : PySem.W.recIn K pPw "property" = some (.ref fPw :: rsPw))
    (lPw : K.lookup fPw = some ⟨ocPw, odPw, .func (PySem.W.fnOf "width" "PrefixMap.width" (defArgs sPw) (defBody sPw) (defScope sPw) .none kVPw dcPw pmPw anPw cdPw ctPw), slPw⟩)
    (cPw : PySem.W.codeIn K cdPw "PrefixMap.width" = true) (kPw : PySem.W.keepIn K (.ref fPw) = true)
    (aTa : PySem.W.findIn K (.ref CC) "targets" = some (some (.ref pTa))) (ggTa : PySem.W.specialIn K (.ref pTa) "__get__" = some (some (.builtin "property.__get__"))) (tkTa : PySem.W.takesIn K (.ref pTa) = some true) (rcTa : PySem.W.recIn K pTa "property" = some (.ref fTa :: rsTa))
    (lTa : K.lookup fTa = some ⟨ocTa, odTa, .func (PySem.W.fnOf "targets" "Table.targets" (defArgs sTa) (defBody sTa) (defScope sTa) .none kVTa dcTa pmTa anTa cdTa ctTa), slTa⟩)
    (cTa : PySem.W.codeIn K cdTa "Table.targets" = true) (kTa : PySem.W.keepIn K (.ref fTa) = true)
    (aMd : PySem.W.findIn K (.ref CC) "_made" = some (some (.ref pMd))) (tyMd : PySem.W.typeIn K (.ref pMd) = some (.type "classmethod")) (ggMd : PySem.W.specialIn K (.ref pMd) "__get__" = some (some (.builtin "classmethod.__get__"))) (tkMd : PySem.W.takesIn K (.ref pMd) = some false) (rcMd : PySem.W.recIn K pMd "classmethod" = some (.ref fMd :: rsMd)) (hnMd : PySem.W.fnIn K fMd = true) (icMd : PySem.W.isClsIn K CC = true)
    (lMd : K.lookup fMd = some ⟨ocMd, odMd, .func (PySem.W.fnOf "_made" "PrefixMap._made" (defArgs sMd) (defBody sMd) (defScope sMd) .none kVMd dcMd pmMd anMd cdMd ctMd), slMd⟩)
    (cMd : PySem.W.codeIn K cdMd "PrefixMap._made" = true) (kMd : PySem.W.keepIn K (.ref fMd) = true)
    (rdC : PySem.W.readsIn K CC (.type "type") = true) (sgC : PySem.W.specialIn K (.ref CC) "__getattribute__" = some (some (.builtin "type.__getattribute__")))
    (atOf : PySem.W.findCls K (.ref CC) (.type "type") "of" = some (.get (.builtin "classmethod.__get__") (.ref pOf) .none (.ref CC))) (rcOf : PySem.W.recIn K pOf "classmethod" = some (.ref fOf :: rsOf)) (hnOf : PySem.W.fnIn K fOf = true)
    (lOf : K.lookup fOf = some ⟨ocOf, odOf, .func (PySem.W.fnOf "of" "Table.of" (defArgs sOf) (defBody sOf) (defScope sOf) .none kVOf dcOf pmOf anOf cdOf ctOf), slOf⟩)
    (cOf : PySem.W.codeIn K cdOf "Table.of" = true) (kOf : PySem.W.keepIn K (.ref fOf) = true)
    (q1 : PySem.W.findIn K (.ref CC) "__class__" = some (some (.builtin "object.__class__")))
    (q2 : PySem.W.specialIn K (.builtin "object.__class__") "__get__" = some (some (.builtin "getset_descriptor.__get__")))
    (q3 : PySem.W.takesIn K (.builtin "object.__class__") = some true)
    (q4 : PySem.W.mroIn K CC (.type "object") = some true)
    (q5 : PySem.W.findIn K (.ref CC) "__ne__" = some (some (.builtin "object.__ne__")))
    (q6 : PySem.W.isClsIn K CD = true)
    (q7 : PySem.W.typeIn K (.ref CD) = some (.type "type"))
    (q8 : PySem.W.mroIn K CC (.ref CD) = some true)
    (kiCC : PySem.W.kitOne K (.ref CC) (.ref CC) = some true)
    (vZ : PySem.W.nsIn K mainGlobals "WIDEST" = some (some (.int 32 tkZ)))
    (vE : PySem.W.nsIn K mainGlobals "LONGEST_TARGET" = some (some (.int 8 tkE)))
    (vO : PySem.W.nsIn K mainGlobals "LETTERS" = some (some (.str letters tkO)))
    (z0 : PySem.W.nsIn K mainGlobals "list" = some none)
    (z1 : PySem.W.nsIn K mainGlobals "len" = some none)
    (z2 : PySem.W.nsIn K mainGlobals "range" = some none)
    (z3 : PySem.W.nsIn K mainGlobals "min" = some none)
    (z4 : PySem.W.nsIn K mainGlobals "isinstance" = some none)
    (z5 : PySem.W.nsIn K mainGlobals "str" = some none)
    (z6 : PySem.W.nsIn K mainGlobals "int" = some none)
    (z7 : PySem.W.nsIn K mainGlobals "bool" = some none)
    (z8 : PySem.W.nsIn K mainGlobals "dict" = some none)
    (z9 : PySem.W.nsIn K mainGlobals "sorted" = some none)
    (z10 : PySem.W.nsIn K mainGlobals "super" = some none)
    (z11 : PySem.W.nsIn K mainGlobals "set" = some none)
    (z12 : PySem.W.nsIn K mainGlobals "type" = some none)
    (z13 : PySem.W.nsIn K mainGlobals "tuple" = some none)
    (z14 : PySem.W.nsIn K mainGlobals "repr" = some none)
    (z15 : PySem.W.nsIn K mainGlobals "all" = some none)
    : ∃ fd : FuncData, (∀ (s : Shared) (v : Value), BindsTo s fd ⟨[v], []⟩ [("script", v)]) ∧ ∀ base : Heap, K.In base → base.Ns mainGlobals mg → (∃ mm, base.Ns sysModules mm) → FnG l.prog w K mg base 11 fa fd ["script"] (spLaw K) := by
  have e := hfa.symm.trans (PySem.W.mg_of X G aL)
  cases e
  have FP := fun_mk (st := sP) lP cP kP
  have bP := FP.binds (ps := ["script"]) fun _ _ _ _ _ _ us hl => match us, hl with | [_], _ => rfl
  have gP := PySem.W.mg_of X G aP
  have FN := fun_mk (st := sN) lN cN kN
  have bN := FN.binds (ps := ["pen"]) fun _ _ _ _ _ _ us hl => match us, hl with | [_], _ => rfl
  have gN := PySem.W.mg_of X G aN
  have FDr := fun_mk (st := sDr) lDr cDr kDr
  have bDr := FDr.binds (ps := ["pen", "below"]) fun _ _ _ _ _ _ us hl => match us, hl with | [_, _], _ => rfl
  have gDr := PySem.W.mg_of X G aDr
  have FB := fun_mk (st := sB) lB cB kB
  have bB := FB.binds (ps := ["pen", "size"]) fun _ _ _ _ _ _ us hl => match us, hl with | [_, _], _ => rfl
  have gB := PySem.W.mg_of X G aB
  have FS := fun_mk (st := sS) lS cS kS
  have bS := FS.binds (ps := ["pen"]) fun _ _ _ _ _ _ us hl => match us, hl with | [_], _ => rfl
  have gS := PySem.W.mg_of X G aS
  have FX := fun_mk (st := sX) lX cX kX
  have bX := FX.binds (ps := ["pen", "size", "most"]) fun _ _ _ _ _ _ us hl => match us, hl with | [_, _, _], _ => rfl
  have gX := PySem.W.mg_of X G aX
  have FH := fun_mk (st := sH) lH cH kH
  have bH := FH.binds (ps := ["text", "signs"]) fun _ _ _ _ _ _ us hl => match us, hl with | [_, _], _ => rfl
  have gH := PySem.W.mg_of X G aH
  have FI := fun_mk (st := sI) lI cI kI
  have bI := FI.binds (ps := ["thing", "width"]) fun _ _ _ _ _ _ us hl => match us, hl with | [_, _], _ => rfl
  have gI := PySem.W.mg_of X G aI
  have FA := fun_mk (st := sA) lA cA kA
  have bA := FA.binds (ps := ["thing", "width"]) fun _ _ _ _ _ _ us hl => match us, hl with | [_, _], _ => rfl
  have gA := PySem.W.mg_of X G aA
  have FWo := fun_mk (st := sWo) lWo cWo kWo
  have bWo := FWo.binds (ps := ["thing"]) fun _ _ _ _ _ _ us hl => match us, hl with | [_], _ => rfl
  have gWo := PySem.W.mg_of X G aWo
  have FV := fun_mk (st := sV) lV cV kV
  have bV := FV.binds (ps := ["thing"]) fun _ _ _ _ _ _ us hl => match us, hl with | [_], _ => rfl
  have gV := PySem.W.mg_of X G aV
  have FY := fun_mk (st := sY) lY cY kY
  have bY := FY.binds (ps := ["pen", "size", "most"]) fun _ _ _ _ _ _ us hl => match us, hl with | [_, _, _], _ => rfl
  have gY := PySem.W.mg_of X G aY
  have FRi := fun_mk (st := sRi) lRi cRi kRi
  have bRi := FRi.binds (ps := ["some", "size", "lines"]) fun _ _ _ _ _ _ us hl => match us, hl with | [_, _, _], _ => rfl
  have gRi := PySem.W.mg_of X G aRi
  have FCo := fun_mk (st := sCo) lCo cCo kCo
  have bCo := FCo.binds (ps := ["size", "lines"]) fun _ _ _ _ _ _ us hl => match us, hl with | [_, _], _ => rfl
  have gCo := PySem.W.mg_of X G aCo
  have FL := fun_mk (st := sL) lL cL kL
  have clD : Cls K CD := ⟨pgD, hdD, poD, saD⟩
  have gD := PySem.W.mg_of X G aD
  have clC : Cls K CC := ⟨pgC, hdC, poC, saC⟩
  have gC := PySem.W.mg_of X G aC
  have FK := fun_mk (st := sK) lK cK kK
  have bK := FK.binds (ps := ["self", "value"]) fun _ _ _ _ _ _ us hl => match us, hl with | [_, _], _ => rfl
  have mtK : Meth K CC "_checked" fK := ⟨aK, iK, kK⟩
  have FU := fun_mk (st := sU) lU cU kU
  have bU := FU.binds (ps := ["self", "width", "rows"]) fun _ _ _ _ _ _ us hl => match us, hl with | [_, _, _], _ => rfl
  have MD : Mk K CD fU := ⟨mkD, aU, iU, kcD⟩
  have FLn := fun_mk (st := sLn) lLn cLn kLn
  have bLn := FLn.binds (ps := ["self"]) fun _ _ _ _ _ _ us hl => match us, hl with | [_], _ => rfl
  have mtLn : Meth K CC "__len__" fLn := ⟨aLn, iLn, kLn⟩
  have FWk := fun_mk (st := sWk) lWk cWk kWk
  have bWk := FWk.binds (ps := ["self"]) fun _ _ _ _ _ _ us hl => match us, hl with | [_], _ => rfl
  have mtWk : Meth K CC "walk" fWk := ⟨aWk, iWk, kWk⟩
  have FLo := fun_mk (st := sLo) lLo cLo kLo
  have bLo := FLo.binds (ps := ["self", "prefix"]) fun _ _ _ _ _ _ us hl => match us, hl with | [_, _], _ => rfl
  have mtLo : Meth K CC "longest" fLo := ⟨aLo, iLo, kLo⟩
  have FLu := fun_mk (st := sLu) lLu cLu kLu
  have bLu := FLu.binds (ps := ["self", "address"]) fun _ _ _ _ _ _ us hl => match us, hl with | [_, _], _ => rfl
  have mtLu : Meth K CC "lookup" fLu := ⟨aLu, iLu, kLu⟩
  have FVw := fun_mk (st := sVw) lVw cVw kVw
  have bVw := FVw.binds (ps := ["self", "prefix", "value"]) fun _ _ _ _ _ _ us hl => match us, hl with | [_, _, _], _ => rfl
  have mtVw : Meth K CC "with_row" fVw := ⟨aVw, iVw, kVw⟩
  have FWr := fun_mk (st := sWr) lWr cWr kWr
  have bWr := FWr.binds (ps := ["self", "prefix"]) fun _ _ _ _ _ _ us hl => match us, hl with | [_, _], _ => rfl
  have mtWr : Meth K CC "without" fWr := ⟨aWr, iWr, kWr⟩
  have FEq := fun_mk (st := sEq) lEq cEq kEq
  have bEq := FEq.binds (ps := ["self", "other"]) fun _ _ _ _ _ _ us hl => match us, hl with | [_, _], _ => rfl
  have mtEq : Meth K CC "__eq__" fEq := ⟨aEq, iEq, kEq⟩
  have FT : FunS K fiT "__init__" "Table.__init__" sT fT CC _ := ⟨⟨_, _, _, _, _, _, _, _, _, _, _, _, _, _, _, _, _, _, rfl, lT, cT, qT, xT, uT⟩, kT⟩
  have bT : L2.Binds K (PySem.W.ksFn "__init__" "Table.__init__" (defArgs sT) (defBody sT) (defScope sT) .none kVT dcT pmT anT (.ref cdaT) ctT ccT) ["self", "width", "rows"] [] := .all fun us hl => match us, hl with | [_, _, _], _ => rfl
  have MC : Mk K CC fT := ⟨mkC, aT, iT, kcC⟩
  have FG := fun_mk (st := sG) lG cG kG
  have bG := FG.binds (ps := ["thing"]) fun _ _ _ _ _ _ us hl => match us, hl with | [_], _ => rfl
  have SG : SMeth K CC "is_target" pG fG := ⟨aG, tyG, ggG, tkG, by decide +kernel, ⟨_, rcG⟩, kG⟩
  have FR := fun_mk (st := sR) lR cR kR
  have bR := FR.binds (ps := ["self"]) fun _ _ _ _ _ _ us hl => match us, hl with | [_], _ => rfl
  have PR : PropOf K CC "rows" pR fR := ⟨aR, ggR, tkR, ⟨_, rcR⟩⟩
  have FPw := fun_mk (st := sPw) lPw cPw kPw
  have bPw := FPw.binds (ps := ["self"]) fun _ _ _ _ _ _ us hl => match us, hl with | [_], _ => rfl
  have PPw : PropOf K CC "width" pPw fPw := ⟨aPw, ggPw, tkPw, ⟨_, rcPw⟩⟩
  have FTa := fun_mk (st := sTa) lTa cTa kTa
  have bTa := FTa.binds (ps := ["self"]) fun _ _ _ _ _ _ us hl => match us, hl with | [_], _ => rfl
  have PTa : PropOf K CC "targets" pTa fTa := ⟨aTa, ggTa, tkTa, ⟨_, rcTa⟩⟩
  have FMd := fun_mk (st := sMd) lMd cMd kMd
  have bMd := FMd.binds (ps := ["cls", "width", "rows"]) fun _ _ _ _ _ _ us hl => match us, hl with | [_, _, _], _ => rfl
  have CMd_ : ClX.CInst K CC "_made" pMd fMd := ⟨pgC, icMd, aMd, tyMd, ggMd, tkMd, by decide +kernel, ⟨_, rcMd⟩, hnMd⟩
  have RCC : ClX.CRead K CC (.type "type") := ⟨rdC, sgC⟩
  have FOf := fun_mk (st := sOf) lOf cOf kOf
  have cmOf : ClX.CMet K CC (.type "type") "of" pOf fOf := ⟨atOf, ⟨_, rcOf⟩, hnOf⟩
  have wZ := PySem.W.mg_of X G vZ
  have wE := PySem.W.mg_of X G vE
  have wO := PySem.W.mg_of X G vO
  have m_list := PySem.W.mg_none_of X G z0
  have m_len := PySem.W.mg_none_of X G z1
  have m_range := PySem.W.mg_none_of X G z2
  have m_min := PySem.W.mg_none_of X G z3
  have m_isinstance := PySem.W.mg_none_of X G z4
  have m_str := PySem.W.mg_none_of X G z5
  have m_int := PySem.W.mg_none_of X G z6
  have m_bool := PySem.W.mg_none_of X G z7
  have m_dict := PySem.W.mg_none_of X G z8
  have m_sorted := PySem.W.mg_none_of X G z9
  have m_super := PySem.W.mg_none_of X G z10
  have m_set := PySem.W.mg_none_of X G z11
  have m_type := PySem.W.mg_none_of X G z12
  have m_tuple := PySem.W.mg_none_of X G z13
  have m_repr := PySem.W.mg_none_of X G z14
  have m_all := PySem.W.mg_none_of X G z15
  refine ⟨PySem.W.fnOf "law" "law" (defArgs sLaw) (defBody sLaw) (defScope sLaw) .none kVL dcL pmL anL cdL ctL, fun s v => .of_eq rfl, fun base _ _ sys => ?_⟩
  have OCC : ObjC K CC := ⟨q1, q2, q3, q4, q5⟩
  have GP := (ok_pen (P := l.prog) (w := w) (base := base) (mg := mg) (k := 0) FP m_list)
  have GDr := (ok_draw (P := l.prog) (w := w) (base := base) (mg := mg) (k := 0) FDr FN bN gN m_len)
  have GB := (ok_bits (P := l.prog) (w := w) (base := base) (mg := mg) FB GDr FDr bDr gDr m_range)
  have GS := (ok_size (P := l.prog) (w := w) (base := base) (mg := mg) FS GDr FDr bDr gDr m_len)
  have GX := (ok_prefixes (P := l.prog) (w := w) (base := base) (mg := mg) FX (GDr.mono (by decide)) FDr bDr gDr GB FB bB gB m_range m_len m_min)
  have GI := (ok_pfx (P := l.prog) (w := w) (base := base) (mg := mg) (k := 0) FI FH bH gH m_isinstance m_str m_len)
  have GA := (ok_adr (P := l.prog) (w := w) (base := base) (mg := mg) FA GI FI bI gI m_len)
  have GWo := (ok_whole (P := l.prog) (w := w) (base := base) (mg := mg) (k := 0) FWo m_isinstance m_int m_bool)
  have GV := (ok_width (P := l.prog) (w := w) (base := base) (mg := mg) FV GWo FWo bWo gWo wZ)
  have GY := (ok_lines (P := l.prog) (w := w) (base := base) (mg := mg) FY (GDr.mono (by decide)) FDr bDr gDr GX FX bX gX m_dict)
  have GG := (ok_tgt (P := l.prog) (w := w) (base := base) (mg := mg) (k := 0) FG FH bH gH m_isinstance m_str m_len wE wO)
  have GK := (ok_tchk (P := l.prog) (w := w) (base := base) (mg := mg) (C := CC) FK (⟨clC, nC_width, nC_rows⟩ : ClsF K CC) SG GG bG)
  have GU := (ok_init (P := l.prog) (w := w) (base := base) (mg := mg) FU (⟨clC, nC_width, nC_rows⟩ : ClsF K CC) (GV.mono (by decide : _ ≤ 3)) FV bV gV (GI.mono (by decide : _ ≤ 3)) FI bI gI GK mtK bK m_isinstance m_dict m_sorted)
  have GT := (ok_tinit (P := l.prog) (w := w) (base := base) (mg := mg) FT GU bU hnT (beq_iff_eq.mp iU) (Option.isSome_iff_exists.mp hcT) hsT hmT hpT m_super hfT htT)
  have GR := (ok_rows (P := l.prog) (w := w) (base := base) (mg := mg) (k := 0) FR (⟨clC, nC_width, nC_rows⟩ : ClsF K CC) m_dict)
  have GPw := (ok_widthP (P := l.prog) (w := w) (base := base) (mg := mg) (k := 0) FPw (⟨clC, nC_width, nC_rows⟩ : ClsF K CC))
  have GTa := (ok_targets (P := l.prog) (w := w) (base := base) (mg := mg) (k := 0) FTa (⟨clC, nC_width, nC_rows⟩ : ClsF K CC) m_list m_set m_sorted)
  have GLn := (ok_lenM (P := l.prog) (w := w) (base := base) (mg := mg) (k := 0) FLn (⟨clC, nC_width, nC_rows⟩ : ClsF K CC) m_len)
  have GWk := (ok_walk (P := l.prog) (w := w) (base := base) (mg := mg) (k := 0) FWk (⟨clC, nC_width, nC_rows⟩ : ClsF K CC))
  have GLo := (ok_longest (P := l.prog) (w := w) (base := base) (mg := mg) FLo (⟨clC, nC_width, nC_rows⟩ : ClsF K CC) GI FI bI gI m_range m_len)
  have GLu := (ok_look (P := l.prog) (w := w) (base := base) (mg := mg) FLu (⟨clC, nC_width, nC_rows⟩ : ClsF K CC) GA FA bA gA (GLo.mono (by decide)) mtLo bLo)
  have GMd := (show FnR l.prog w K mg base CX0 _ fMd (spMade CC isTgtV) from ((ok_made (P := l.prog) (w := w) (base := base) (mg := mg) FMd MC GT bT).raw bMd .nil).imp fun vs H Q E h => by rw [List.append_nil]; exact h)
  have GVw := (ok_with (P := l.prog) (w := w) (base := base) (mg := mg) FVw (⟨clC, nC_width, nC_rows⟩ : ClsF K CC) (GI.mono (by decide)) FI bI gI CMd_ GMd)
  have GWr := (ok_without (P := l.prog) (w := w) (base := base) (mg := mg) FWr (⟨clC, nC_width, nC_rows⟩ : ClsF K CC) m_isinstance m_str CMd_ GMd)
  have GEq := (ok_eqm (P := l.prog) (w := w) (base := base) (mg := mg) (k := 0) FEq (⟨clC, nC_width, nC_rows⟩ : ClsF K CC) m_isinstance m_type gD (kit_own q6 q7 q8) mkC (⟨q1, q2, q3, q4, q5⟩ : ObjC K CC))
  have GOf := ok_Of (P := l.prog) (w := w) (base := base) (mg := mg) (k := 5) FOf m_len m_tuple m_isinstance m_str (GT.mono (by decide)) MC bT
  have GRi := ok_Ri (P := l.prog) (w := w) (base := base) (mg := mg) (k := 1) FRi (⟨q1, q2, q3, q4, q5⟩ : ObjC K CC) (kit_own q6 q7 q8) kiCC sys m_sorted m_dict m_range (GTa.mono (by decide)) PTa bTa clC m_repr m_list m_set (GPw.mono (by decide)) PPw bPw (GR.mono (by decide)) PR bR (GWk.mono (by decide)) mtWk bWk gD m_isinstance gC
  have GCo := ok_Co (P := l.prog) (w := w) (base := base) (mg := mg) (k := 5) FCo m_sorted m_dict (GT.mono (by decide)) MC gC bT (GRi.mono (by decide)) FRi bRi gRi
  exact (ok_L (P := l.prog) (w := w) (base := base) (mg := mg) (k := 9) FL (GP.mono (by decide)) FP bP gP m_range (GS.mono (by decide)) FS bS gS (GY.mono (by decide)) FY bY gY (GT.mono (by decide)) MC gC bT clC (GVw.mono (by decide)) mtVw bVw (GWr.mono (by decide)) mtWr bWr (GRi.mono (by decide)) FRi bRi gRi gC RCC (GOf.mono (by decide)) cmOf (GEq.mono (by decide)) OCC aEq iEq bEq (GLn.mono (by decide)) aLn iLn bLn m_len (GCo.mono (by decide)) FCo bCo gCo m_list m_dict m_all (GLu.mono (by decide)) mtLu bLu (GTa.mono (by decide)) PTa bTa m_sorted).mono (by decide)
end Kt
open PySem PySem.W PyProof.Rows
set_option maxRecDepth 100000 in
set_option maxHeartbeats 0 in
theorem PySem.Challenge.cw_keptroutes_k07_tables_made_holds : PySem.Challenge.rw_keptroutes_k07_tables_made.Holds := by
  refine Kt.head0 ?_
  k_fill
  refine Kt.walkG (l := PySem.Challenge.rw_keptroutes_k07_tables_made) (n := 63) (k := 11) (x := "script") (sp := fun w => Kt.spLaw _) rfl (by decide) rfl ?him ⟨rfl, by decide, by decide⟩ (fun w h Y => PySem.W.kIn_of Y) ?F (fun _ _ a ns hl hS => ⟨a, ns, rfl, hS, hl, fun _ => rfl⟩)
  case him => rfl
  case F =>
    intro w mg fa h KX G hmg
    refine' Kt.all_mk KX G hmg ?aP ?lP ?cP ?kP ?aN ?lN ?cN ?kN ?aDr ?lDr ?cDr ?kDr ?aB ?lB ?cB ?kB ?aS ?lS ?cS ?kS ?aX ?lX ?cX ?kX ?aH ?lH ?cH ?kH ?aI ?lI ?cI ?kI ?aA ?lA ?cA ?kA ?aWo ?lWo ?cWo ?kWo ?aV ?lV ?cV ?kV ?aY ?lY ?cY ?kY ?aRi ?lRi ?cRi ?kRi ?aCo ?lCo ?cCo ?kCo ?aL ?lL ?cL ?kL ?aD ?pgD ?hdD ?poD ?saD ?mkD ?kcD ?aC ?pgC ?hdC ?poC ?saC ?mkC ?kcC ?nC_width ?nC_rows ?aK ?iK ?lK ?cK ?kK ?aU ?iU ?lU ?cU ?kU ?aLn ?iLn ?lLn ?cLn ?kLn ?aWk ?iWk ?lWk ?cWk ?kWk ?aLo ?iLo ?lLo ?cLo ?kLo ?aLu ?iLu ?lLu ?cLu ?kLu ?aVw ?iVw ?lVw ?cVw ?kVw ?aWr ?iWr ?lWr ?cWr ?kWr ?aEq ?iEq ?lEq ?cEq ?kEq ?aT ?iT ?lT ?cT ?kT ?qT ?xT ?uT ?hcT ?hsT ?hmT ?hnT ?hpT ?hfT ?htT ?aG ?tyG ?ggG ?tkG ?rcG ?lG ?cG ?kG ?aR ?ggR ?tkR ?rcR ?lR ?cR ?kR ?aPw ?ggPw ?tkPw ?rcPw ?lPw ?cPw ?kPw ?aTa ?ggTa ?tkTa ?rcTa ?lTa ?cTa ?kTa ?aMd ?tyMd ?ggMd ?tkMd ?rcMd ?hnMd ?icMd ?lMd ?cMd ?kMd ?rdC ?sgC ?atOf ?rcOf ?hnOf ?lOf ?cOf ?kOf ?q1 ?q2 ?q3 ?q4 ?q5 ?q6 ?q7 ?q8 ?kiCC ?vZ ?vE ?vO ?z0 ?z1 ?z2 ?z3 ?z4 ?z5 ?z6 ?z7 ?z8 ?z9 ?z10 ?z11 ?z12 ?z13 ?z14 ?z15
    (case aP => k_is); (case lP => k_is); (case cP => k_is); (case kP => k_is); (case aN => k_is); (case lN => k_is); (case cN => k_is); (case kN => k_is); (case aDr => k_is); (case lDr => k_is); (case cDr => k_is); (case kDr => k_is); (case aB => k_is); (case lB => k_is); (case cB => k_is); (case kB => k_is); (case aS => k_is); (case lS => k_is); (case cS => k_is); (case kS => k_is); (case aX => k_is); (case lX => k_is); (case cX => k_is); (case kX => k_is); (case aH => k_is); (case lH => k_is); (case cH => k_is); (case kH => k_is); (case aI => k_is); (case lI => k_is); (case cI => k_is); (case kI => k_is); (case aA => k_is); (case lA => k_is); (case cA => k_is); (case kA => k_is); (case aWo => k_is); (case lWo => k_is); (case cWo => k_is); (case kWo => k_is); (case aV => k_is); (case lV => k_is); (case cV => k_is); (case kV => k_is); (case aY => k_is); (case lY => k_is); (case cY => k_is); (case kY => k_is); (case aRi => k_is); (case lRi => k_is); (case cRi => k_is); (case kRi => k_is); (case aCo => k_is); (case lCo => k_is); (case cCo => k_is); (case kCo => k_is); (case aL => k_is); (case lL => k_is); (case cL => k_is); (case kL => k_is); (case aD => k_is); (case pgD => k_is); (case hdD => k_is); (case poD => k_is); (case saD => k_is); (case mkD => k_is); (case kcD => k_is); (case aC => k_is); (case pgC => k_is); (case hdC => k_is); (case poC => k_is); (case saC => k_is); (case mkC => k_is); (case kcC => k_is); (case nC_width => k_is); (case nC_rows => k_is); (case aK => k_is); (case iK => k_is); (case lK => k_is); (case cK => k_is); (case kK => k_is); (case aU => k_is); (case iU => k_is); (case lU => k_is); (case cU => k_is); (case kU => k_is); (case aLn => k_is); (case iLn => k_is); (case lLn => k_is); (case cLn => k_is); (case kLn => k_is); (case aWk => k_is); (case iWk => k_is); (case lWk => k_is); (case cWk => k_is); (case kWk => k_is); (case aLo => k_is); (case iLo => k_is); (case lLo => k_is); (case cLo => k_is); (case kLo => k_is); (case aLu => k_is); (case iLu => k_is); (case lLu => k_is); (case cLu => k_is); (case kLu => k_is); (case aVw => k_is); (case iVw => k_is); (case lVw => k_is); (case cVw => k_is); (case kVw => k_is); (case aWr => k_is); (case iWr => k_is); (case lWr => k_is); (case cWr => k_is); (case kWr => k_is); (case aEq => k_is); (case iEq => k_is); (case lEq => k_is); (case cEq => k_is); (case kEq => k_is); (case aT => k_is); (case iT => k_is); (case lT => k_is); (case cT => k_is); (case kT => k_is); (case qT => k_is); (case xT => first | k_is | rfl | decide +kernel); (case uT => k_is); (case hcT => k_is); (case hsT => k_is); (case hmT => ks_is); (case hnT => k_is); (case hpT => k_is); (case hfT => first | k_is | rfl | decide +kernel); (case htT => first | k_is | rfl | decide +kernel); (case aG => k_is); (case tyG => k_is); (case ggG => k_is); (case tkG => k_is); (case rcG => k_is); (case lG => k_is); (case cG => k_is); (case kG => k_is); (case aR => k_is); (case ggR => k_is); (case tkR => k_is); (case rcR => k_is); (case lR => k_is); (case cR => k_is); (case kR => k_is); (case aPw => k_is); (case ggPw => k_is); (case tkPw => k_is); (case rcPw => k_is); (case lPw => k_is); (case cPw => k_is); (case kPw => k_is); (case aTa => k_is); (case ggTa => k_is); (case tkTa => k_is); (case rcTa => k_is); (case lTa => k_is); (case cTa => k_is); (case kTa => k_is); (case aMd => k_is); (case tyMd => k_is); (case ggMd => k_is); (case tkMd => k_is); (case rcMd => k_is); (case hnMd => k_is); (case icMd => k_is); (case lMd => k_is); (case cMd => k_is); (case kMd => k_is); (case rdC => k_is); (case sgC => k_is); (case atOf => k_is); (case rcOf => k_is); (case hnOf => k_is); (case lOf => k_is); (case cOf => k_is); (case kOf => k_is); (case q1 => k_is); (case q2 => k_is); (case q3 => k_is); (case q4 => k_is); (case q5 => k_is); (case q6 => k_is); (case q7 => k_is); (case q8 => k_is); (case kiCC => kit_is); (case vZ => k_is); (case vE => k_is); (case vO => k_is); (case z0 => k_is); (case z1 => k_is); (case z2 => k_is); (case z3 => k_is); (case z4 => k_is); (case z5 => k_is); (case z6 => k_is); (case z7 => k_is); (case z8 => k_is); (case z9 => k_is); (case z10 => k_is); (case z11 => k_is); (case z12 => k_is); (case z13 => k_is); (case z14 => k_is); (case z15 => k_is)

import PyProof.Rows.All
import Wide.All
import OpenK.AllK
import Wide.FinOn
import HandS.ForMost
import HandS.Codes
import HandS.IsInst
import HandS.StrMore
import HandS.DictComp
import HandS.Walk
import HandS.Style
import HandS.Conv
import PyProof.ReprRoads
import HandS.Strs
import HandS.SetFor
import HandS.ClsMeth
import HandS.Property
import HandS.AnyAll
import PyProof.Rows.SortShellAny
import KE.RegKSuper
import PyProof.DictUpdate
import HandS.SetKeys
import HandS.MakeKwOnly
import HandS.GenList
import HandS.GenYield
import PySem.Challenge.RW_keptroutes_k23_prices_made
set_option Elab.async false
set_option linter.all false
set_option maxRecDepth 100000
set_option maxHeartbeats 4000000
namespace Kt
open PySem PySem.Spec PyProof.Rows L2
/-! ### defs that may call repr: no repr is under way around them -/
structure FnG (P : Program) (w : World) (K : PySem.W.Frag) (mg : Str → Option Value) (base : Heap) (k : Nat) (f : Addr) (fd : FuncData) (ps : List Str) (sp : Sp) : Prop where
  many : ∀ vs H Q E, sp vs H Q E → vs.length = ps.length
  go : ∀ (A : Around), A.guards = some [] → ∀ (outer : List Env) (s : Shared) (H : Hp) (args : Args) (us : List Value) (vs : List V) (Q : VK), Room k A → Env0 P w K mg base A outer s H →
    BindsTo s fd args (ps.zip us) → Vals vs us → sp vs H Q E0 → codeAny (model P w) A (.call (.ref f) args) (CR CX0 outer P w H s Q E0) s
theorem FnG.mono {P : Program} {w : World} {K : PySem.W.Frag} {mg : Str → Option Value} {base : Heap} {j k : Nat} {f : Addr} {fd : FuncData} {ps : List Str} {sp : Sp} (F : FnG P w K mg base j f fd ps sp) (h : j ≤ k) : FnG P w K mg base k f fd ps sp :=
  ⟨F.many, fun A g outer s H args us vs Q hr => F.go A g outer s H args us vs Q (hr.mono h)⟩
section
variable {P : Program} {w : World} {K : PySem.W.Frag} {mg : Str → Option Value} {base : Heap}
/-- a def's promise, from its body, where no repr is under way -/
theorem okG {x qual : Str} {st : Stmt} {f : Addr} {fd : FuncData} {N ps : List Str} {k : Nat} {sp : Sp} (F : Fun K x qual st f fd) (S : FnScope N ps (defScope st)) (many : ∀ vs H Q E, sp vs H Q E → vs.length = ps.length)
    (body : ∀ (cdv : Value) (A : Around) (outer : List Env) (s : Shared) (H : Hp) (vs : List V) (Q : VK), A.guards = some [] → Room k (A.deeper (envOfC qual (defScope st) s.heap.objs.size f cdv)) → sp vs H Q E0 →
      ∃ t, PSs (cxOf CX0 P w K mg base N qual (defScope st) f cdv A outer s H E0).nox (defBody st) t ∧ t { nx := fun _ H' => Q .non H', rt := Q } (start N vs) H) : FnG P w K mg base (k + 1) f fd ps sp := by
  obtain ⟨oc, od, kV, doc, pm, an, cdv, ct, osl, rfl, lk, hcd⟩ := F.ex
  refine ⟨many, fun A g outer s H args us vs Q room e0 bind rel want => ?_⟩
  have old : ∀ b o, base.get? b = some o → s.heap.get? b = some o := fun b o e => (e0.bs b o e).1
  have KX : K.In s.heap := e0.mod.kin.keeps old
  have lim : s.heap.NoLimit := e0.mod.nolimit.keeps old
  have kinds : ∀ y ∈ ps.zip us, (defScope st).names.lookup y.1 = some .local ∨ ((defScope st).names.lookup y.1 = some .cell ∧ ((cellsFrom (s.heap.objs.size + 1) (defScope st).names []).lookup y.1).isSome = true) := by
    rintro ⟨n, v⟩ hy
    rcases S.par n (List.of_mem_zip hy).1 with q | q
    · exact .inl q
    · exact .inr ⟨q, PySem.W.cellsFrom_some _ _ _ (.inl q)⟩
  refine codeAny_call_function room.depth (KX _ _ lk) rfl S.co S.gen rfl (PySem.W.codeRec_of KX hcd) (bind _ _ _ _ (wpAny_newFunctionEnv_cells S.kind kinds fun env he s1 x => ?_))
  subst he
  obtain ⟨t, ht, hq⟩ := body cdv A outer s H vs Q g (room.deeper _) want
  have I := inv_start (CX := CX0) (E := E0) S room.hd e0 (many _ _ _ _ want) rel x
  refine ⟨lim.keeps x.toInCall.keep, codeAny_func (wpAny_mono (ht.nox.run [] s1 (start N vs) H _ I hq) (fun fl s' hs => ?_) fun e s' hs => hs)⟩
  cases fl with
  | ret u =>
    obtain ⟨v, σ', H', J, rv, q⟩ := hs
    exact ⟨v, H', J.os, J.bare, J.base, J.hok, rv, q⟩
  | next =>
    obtain ⟨σ', H', J, q⟩ := hs
    exact ⟨V.non, H', J.os, J.bare, J.base, J.hok, rfl, q⟩
  | brk =>
    obtain ⟨_, _, _, q⟩ := hs
    exact q.elim
  | cont =>
    obtain ⟨_, _, _, q⟩ := hs
    exact q.elim
end
/-- f(a, ..) of such a def, within such a def -/
theorem pe_callG {X : Cx} {k : Nat} {f : Addr} {fd : FuncData} {ps : List Str} {sp : Sp} {x : Str} {p pos : Pos} {e : Expr} {es : List Expr} {t : TA} (F : FnG X.prog X.w X.K X.mg X.base k f fd ps sp) (g : X.A.guards = some []) (hr : Room k X.A) (hg : Gl X x) (hm : X.mg x = some (.ref f))
    (hk : PySem.W.keepIn X.K (.ref f) = true) (hb : Binds X.K fd ps []) (ha : PA X (e :: es) t) (hdb : (x == ("__debug__" : Str)) = false := by decide)
    (he : starEach (e :: es) X.env = (false, eval e X.env) :: starEach es X.env := by rfl) (hpl : (backTo pos (starEach es X.env)).any (·.1) = false := by rfl) : PE X (.Call (.Name x p) (e :: es) [] pos) (tCall sp [] E0 t) := by
  constructor
  intro pins s σ H Q I h
  refine wpAny_Call_Name_kw (ld_glob I hg hm (PySem.W.callWith_K (h₀ := X.base) I.ok.mod.kin hk (thn (ha.run pos pins s σ H _ I h) ?_) he hpl) hdb)
  rintro us s1 ⟨vs, H1, I1, r, q⟩
  refine ⟨I1.kIn, ?_⟩
  have r2 : Vals (vs ++ []) (us ++ []) := r.append .nil
  have hl : (us ++ []).length = ps.length := by rw [← r2.length]; exact F.many _ _ _ _ q
  refine wpAny_call (codeAny_mono (F.go X.A g X.stack s1 H1 ⟨us, []⟩ (us ++ []) (vs ++ []) Q hr I1.env0 (hb s1 us I1.kIn hl) r2 q) fun res s' hq => ?_)
  match res, hq with
  | .ok (.ret u), hq => exact I1.after hq
/-! ### the end of a law whose promise is of this kind -/
theorem law_callG {P : Program} {w : World} {K : PySem.W.Frag} {mg mb : Str → Option Value} {k : Nat} {fa a : Addr} {fd : FuncData} {x : Str} {sp : Sp} {s₁ : Shared} {vs : List Value} {ns : List Int}
    (KX : K.In s₁.heap) (hns : s₁.heap.Ns mainGlobals mg) (hb : s₁.heap.Ns builtinsNs mb) (hbb : ∀ x : Str, x ≠ "__name__" → mb x = bootBuiltins x) (hlim : s₁.heap.NoLimit) (hsys : ∃ mm, s₁.heap.Ns sysModules mm) (hg : s₁.gens = #[])
    (ha : s₁.heap.get? a = some { cls := .type "list", data := .seq vs.toArray }) (hi : IntsAre vs ns) (hl : ns.length ≤ sizeLine) (hr : Room k callerA)
    (F : ∀ base : Heap, K.In base → base.Ns mainGlobals mg → (∃ mm, base.Ns sysModules mm) → FnG P w K mg base k fa fd [x] sp) (hbind : ∀ (s : Shared) (u : Value), BindsTo s fd ⟨[u], []⟩ [(x, u)])
    (hsp : ∀ H : Hp, SqL K H a (ns.map V.int) → sp [.ref a] H (fun v _ => v = .bl true) E0) :
    codeAny (model P w) callerA (.call (.ref fa) ⟨[.ref a], []⟩) (fun r s' => r = .ok (.ret (.bool true)) ∧ OldK s₁.heap s'.heap ∧ s'.os = s₁.os ∧ AllBare s'.gens) s₁ := by
  have rv := vals_ints hi
  have lenV := hi.length
  have main : ∀ H : Hp, SqL K H a (ns.map V.int) → HOk P w H s₁.heap → (∀ b, H b ≠ none → b = a ∧ K.lookup a = none ∧ ∃ u, H b = some (.frz { cls := .type "list", data := .seq vs.toArray } u)) →
      codeAny (model P w) callerA (.call (.ref fa) ⟨[.ref a], []⟩) (fun r s' => r = .ok (.ret (.bool true)) ∧ OldK s₁.heap s'.heap ∧ s'.os = s₁.os ∧ AllBare s'.gens) s₁ := by
    intro H hS ok only
    have free : ∀ {b : Addr} {o : Obj}, s₁.heap.get? b = some o → (H b ≠ none → False) → (hidT s₁.heap H).get? b = some o := fun {b o} e n => hidT_get e (by
      cases q : H b with
      | none => rfl
      | some u => exact (n (by rw [q]; exact fun z => nomatch z)).elim)
    have dct : ∀ {b : Addr} {m : Str → Option Value}, s₁.heap.Ns b m → (hidT s₁.heap H).Ns b m := by
      rintro b m ⟨o, es, ep, e, d, r⟩
      refine ⟨o, es, ep, free e fun n => ?_, d, r⟩
      obtain ⟨rfl, _, _⟩ := only b n
      rw [ha] at e
      cases e
      cases d
    have kin : K.In (hidT s₁.heap H) := fun b o e => free (KX b o e) fun n => by
      obtain ⟨rfl, z, _⟩ := only b n
      rw [z] at e
      cases e
    have mod : Mod K mg (hidT s₁.heap H) := ⟨kin, dct hns, ⟨mb, dct hb, hbb⟩, by obtain ⟨mc, h1, h2⟩ := hlim; exact ⟨mc, dct h1, h2⟩⟩
    have sys : ∃ mm, (hidT s₁.heap H).Ns sysModules mm := by obtain ⟨mm, h⟩ := hsys; exact ⟨mm, dct h⟩
    have env : Env0 P w K mg (hidT s₁.heap H) callerA [] s₁ H := ⟨rfl, mod, fun _ _ => of_hidT, Nat.le_of_eq (hidT_size _ _), trivial, fun _ hb => absurd hb List.not_mem_nil, ok, .of_eq hg⟩
    refine codeAny_mono ((F _ kin (dct hns) sys).go callerA rfl [] s₁ H ⟨[.ref a], []⟩ [.ref a] [.ref a] _ hr env (hbind s₁ (.ref a)) (.cons rfl .nil) (hsp H hS)) fun r s' h => ?_
    match r, h with
    | .ok (.ret u), ⟨v, H', os, bare, un, ok', rel, q⟩ =>
      subst q
      cases (show u = Value.bool true from rel)
      refine ⟨rfl, OldK.of_keep fun b o e => ?_, os, bare⟩
      cases q : H b with
      | none => exact un.keep b o e q (fun z => nomatch z) fun z => nomatch z
      | some u =>
        obtain ⟨rfl, _, u', z⟩ := only b (by rw [q]; exact fun z => nomatch z)
        rw [ha] at e
        cases e
        exact (ok' b _ (un.frzs b _ _ z)).1
  cases hk : K.lookup a with
  | some o =>
    have e := KX a o hk
    rw [ha] at e
    cases e
    exact main (fun _ => none) (.inr ⟨_, vs.toArray, _, hk, rfl, rfl, rfl, by rw [List.size_toArray, lenV]; exact hl, rv⟩) (fun b u z => nomatch (show (none : Option HO) = some u from z)) fun b z => absurd rfl z
  | none =>
    refine main (fun b => if b = a then some (.frz { cls := .type "list", data := .seq vs.toArray } (.lst (ns.map V.int))) else none) (.inl (.inr ⟨_, if_pos rfl⟩)) (fun b u z => ?_) fun b z => ?_
    · by_cases q : b = a
      · dsimp only at z
        rw [if_pos q] at z
        cases z
        rw [q]
        exact ⟨ha, by rw [List.length_map]; exact hl, vs, _, rv, ha⟩
      · dsimp only at z
        rw [if_neg q] at z
        cases z
    · by_cases q : b = a
      · exact ⟨q, hk, _, if_pos q⟩
      · exact absurd (if_neg q) z
theorem walkG {l : PySem.W.OpenLaw} {n k : Nat} {q : Program} {loose : List Str} {XP : (Str → Option Value) → Heap → Prop} {YP : World → Heap → Prop} {d : DefRec} {K : Params → PySem.W.Frag} {sp : World → Sp} {x : Str} (hn : l.most = some n) (hn2 : n ≤ sizeLine) (hdf : d.params.defaults = [])
    (him : importsNone q = true) (hr : Room k callerA) (hY : ∀ (w : World) (h : Heap), YP w h → (K w.params).In h)
    (F : ∀ (w : World) (mg : Str → Option Value) (fa : Addr) (h : Heap), (K w.params).In h → h.Ns mainGlobals mg → mg d.name = some (.ref fa) →
      ∃ fd : FuncData, (∀ (s : Shared) (u : Value), BindsTo s fd ⟨[u], []⟩ [(x, u)]) ∧ ∀ base : Heap, (K w.params).In base → base.Ns mainGlobals mg → (∃ mm, base.Ns sysModules mm) → FnG l.prog w (K w.params) mg base k fa fd [x] (sp w))
    (hsp : ∀ (w : World) (H : Hp) (a : Addr) (ns : List Int), ns.length ≤ n → SqL (K w.params) H a (ns.map V.int) → sp w [.ref a] H (fun v _ => v = .bl true) E0) : PySem.W.WalkO q loose XP YP l.row.toRowW d [] (fun f vs => PySem.call f vs) :=
  Att.attach_call hn hdf fun w _ _ mg _ fa _ _ _ _ a _ ns G Y _ _ _ hmg hobj hints hlen hg => by
    have KX := hY w _ Y
    obtain ⟨fd, hb, hF⟩ := F w mg fa _ KX G.T.g hmg
    obtain ⟨mm, hm, _⟩ := (G.T.seer him).mods
    exact law_callG KX G.T.g G.T.b G.T.builtins G.T.nolimit ⟨mm, hm⟩ hg hobj hints (Nat.le_trans hlen hn2) hr hF hb fun H hS => hsp w H a ns hlen hS
/-! ### repr of data: none, bools, ints, texts, lists, tuples, dicts by ints and texts -/
def keyD : Key → PyData
  | .inl i => .int i
  | .inr x => .str x
mutual
/-- in the heap H the value is this data -/
inductive Dr (K : PySem.W.Frag) (H : Hp) (N : Addr → Prop) : V → PyData → Prop
  | non : Dr K H N .non .none
  | bl (b : Bool) : Dr K H N (.bl b) (.bool b)
  | int (i : Int) : Dr K H N (.int i) (.int i)
  | str (x : Str) : Dr K H N (.str x) (.str x)
  | lst {a : Addr} {xs : List V} {ds : List PyData} (n : N a) (h : SqL K H a xs) (all : DrAll K H N xs ds) : Dr K H N (.ref a) (.list ds)
  | tup {a : Addr} {xs : List V} {ds : List PyData} (n : N a) (h : SqT K H a xs) (all : DrAll K H N xs ds) : Dr K H N (.ref a) (.tuple ds)
  | dic {a : Addr} {kvs : List (Key × V)} {ds : List (PyData × PyData)} (n : N a) (h : Rd H a (.dK kvs)) (all : DrKv K H N kvs ds) : Dr K H N (.ref a) (.dict ds)
inductive DrAll (K : PySem.W.Frag) (H : Hp) (N : Addr → Prop) : List V → List PyData → Prop
  | nil : DrAll K H N [] []
  | cons {v : V} {vs : List V} {d : PyData} {ds : List PyData} (h : Dr K H N v d) (t : DrAll K H N vs ds) : DrAll K H N (v :: vs) (d :: ds)
inductive DrKv (K : PySem.W.Frag) (H : Hp) (N : Addr → Prop) : List (Key × V) → List (PyData × PyData) → Prop
  | nil : DrKv K H N [] []
  | cons {k : Key} {v : V} {kvs : List (Key × V)} {d : PyData} {ds : List (PyData × PyData)} (h : Dr K H N v d) (t : DrKv K H N kvs ds) : DrKv K H N ((k, v) :: kvs) ((keyD k, d) :: ds)
end
mutual
theorem Dr.move {K : PySem.W.Frag} {H H' : Hp} {N N' : Addr → Prop} (k : ∀ a o, N a → H a = some o → H' a = some o) (m : ∀ a, N a → N' a) : ∀ {v : V} {d : PyData}, Dr K H N v d → Dr K H' N' v d
  | _, _, .non => .non
  | _, _, .bl b => .bl b
  | _, _, .int i => .int i
  | _, _, .str x => .str x
  | _, _, .lst (a := a) n h all => .lst (m _ n) (by
    rcases h with (h | ⟨o, h⟩) | h
    · exact .inl (.inl (k _ _ n h))
    · exact .inl (.inr ⟨o, k _ _ n h⟩)
    · exact .inr h) (all.move k m)
  | _, _, .tup n h all => .tup (m _ n) (by
    rcases h with (h | ⟨o, h⟩) | h
    · exact .inl (.inl (k _ _ n h))
    · exact .inl (.inr ⟨o, k _ _ n h⟩)
    · exact .inr h) (all.move k m)
  | _, _, .dic n h all => .dic (m _ n) (by
    rcases h with h | ⟨o, h⟩
    · exact .inl (k _ _ n h)
    · exact .inr ⟨o, k _ _ n h⟩) (all.move k m)
theorem DrAll.move {K : PySem.W.Frag} {H H' : Hp} {N N' : Addr → Prop} (k : ∀ a o, N a → H a = some o → H' a = some o) (m : ∀ a, N a → N' a) : ∀ {vs : List V} {ds : List PyData}, DrAll K H N vs ds → DrAll K H' N' vs ds
  | _, _, .nil => .nil
  | _, _, .cons h t => .cons (h.move k m) (t.move k m)
theorem DrKv.move {K : PySem.W.Frag} {H H' : Hp} {N N' : Addr → Prop} (k : ∀ a o, N a → H a = some o → H' a = some o) (m : ∀ a, N a → N' a) : ∀ {kvs : List (Key × V)} {ds : List (PyData × PyData)}, DrKv K H N kvs ds → DrKv K H' N' kvs ds
  | _, _, .nil => .nil
  | _, _, .cons h t => .cons (h.move k m) (t.move k m)
end
theorem DrAll.len {K : PySem.W.Frag} {H : Hp} {N : Addr → Prop} : ∀ {vs : List V} {ds : List PyData}, DrAll K H N vs ds → vs.length = ds.length
  | _, _, .nil => rfl
  | _, _, .cons _ t => congrArg (· + 1) t.len
theorem DrAll.snoc {K : PySem.W.Frag} {H : Hp} {N : Addr → Prop} {v : V} {d : PyData} (h : Dr K H N v d) : ∀ {vs : List V} {ds : List PyData}, DrAll K H N vs ds → DrAll K H N (vs ++ [v]) (ds ++ [d])
  | _, _, .nil => .cons h .nil
  | _, _, .cons h1 t => .cons h1 (t.snoc h)
theorem DrAll.get {K : PySem.W.Frag} {H : Hp} {N : Addr → Prop} : ∀ {vs : List V} {ds : List PyData} {i : Nat} {v : V}, DrAll K H N vs ds → vs[i]? = some v → ∃ d, ds[i]? = some d ∧ Dr K H N v d
  | _, _, _, _, .nil, e => by simp at e
  | _, _, 0, _, .cons h _, e => ⟨_, rfl, by
    have e' := Option.some.inj e
    rw [← e']
    exact h⟩
  | _, _, i + 1, v, .cons _ t, e => t.get (i := i) (v := v) e
theorem read_key {h : Heap} {k : Key} {u : Value} (e : keyIs k u = true) : Reads h u (keyD k) [] := by
  rcases keyIs_shape e with ⟨i, t, rfl, rfl⟩ | ⟨x, t, rfl, rfl⟩
  · exact .int i t
  · exact .str x t
section
variable {X : Cx} {pins : List (Addr × Obj)} {σ : L2.St} {H : Hp} {s : Shared} {N : Addr → Prop}
theorem no_sys_list (I : Inv X pins σ H s) (sys : ∃ mm, X.base.Ns sysModules mm) {a : Addr} {o : Obj} {its : Array Value} {n : Nat} (e : s.heap.get? a = some o) (d : o.data = .seq its n) : a ≠ sysModules := by
  rintro rfl
  obtain ⟨mm, o', es, ep, e', d', _⟩ := sys
  rw [I.bk _ _ e'] at e
  cases e
  rw [d] at d'
  cases d'
mutual
theorem Dr.reads (I : Inv X pins σ H s) (sys : ∃ mm, X.base.Ns sysModules mm) : ∀ (d : PyData) (v : V) (u : Value), Dr X.K H N v d → RelV v u → ∃ as, Reads s.heap u d as ∧ sysModules ∉ as
  | .none, _, _, h, r => by
    cases h
    cases r
    exact ⟨_, Reads.none, List.not_mem_nil⟩
  | .bool b, _, _, h, r => by
    cases h
    cases r
    exact ⟨_, Reads.bool b, List.not_mem_nil⟩
  | .int i, _, _, h, r => by
    cases h
    obtain ⟨t, rfl⟩ := r
    exact ⟨_, Reads.int i t, List.not_mem_nil⟩
  | .str x, _, _, h, r => by
    cases h
    obtain ⟨t, rfl⟩ := r
    exact ⟨_, Reads.str x t, List.not_mem_nil⟩
  | .list ds, _, _, h, r => by
    cases h with
    | lst _ hs ha =>
      cases r
      obtain ⟨its, rv, ⟨o, n, ho, hc, _, hd⟩, _⟩ := I.list hs
      obtain ⟨as, hr, hn⟩ := DrAll.reads I sys ds _ its ha rv
      exact ⟨_, Reads.list ho hc hd hr, fun m => (List.mem_cons.mp m).elim (fun e => no_sys_list I sys ho hd e.symm) hn⟩
  | .tuple ds, _, _, h, r => by
    cases h with
    | tup _ hs ha =>
      cases r
      obtain ⟨its, rv, ⟨o, ho, hc, n, hd⟩, _⟩ := I.tuple hs
      obtain ⟨as, hr, hn⟩ := DrAll.reads I sys ds _ its ha rv
      exact ⟨_, Reads.tuple ho hc hd hr, hn⟩
  | .dict ds, _, _, h, r => by
    cases h with
    | dic _ hs ha =>
      cases r
      obtain ⟨_, hsys, vs, rel, o, es, ep, ho, hc, hd, _, ps, _⟩ := dk_rd I.hok hs
      obtain ⟨as, bs, h1, h2, h3, h4⟩ := DrKv.reads I sys ds _ vs es.toList ha rel ps
      refine ⟨_, Reads.dict ho hc.1 hd h1 h2, fun m => ?_⟩
      rcases List.mem_append.mp m with m | m
      · rcases List.mem_cons.mp m with e | m
        · rw [← e] at hsys
          cases hsys
        · exact h3 m
      · exact h4 m
theorem DrAll.reads (I : Inv X pins σ H s) (sys : ∃ mm, X.base.Ns sysModules mm) : ∀ (ds : List PyData) (vs : List V) (us : List Value), DrAll X.K H N vs ds → Vals vs us → ∃ as, ReadsAll s.heap us ds as ∧ sysModules ∉ as
  | [], _, _, h, r => by
    cases h
    cases r
    exact ⟨_, ReadsAll.nil, List.not_mem_nil⟩
  | d :: ds, _, _, h, r => by
    cases h with
    | cons h1 h2 =>
      cases r with
      | cons r1 r2 =>
        obtain ⟨as, q1, n1⟩ := Dr.reads I sys d _ _ h1 r1
        obtain ⟨bs, q2, n2⟩ := DrAll.reads I sys ds _ _ h2 r2
        exact ⟨_, ReadsAll.cons q1 q2, fun m => (List.mem_append.mp m).elim n1 n2⟩
theorem DrKv.reads (I : Inv X pins σ H s) (sys : ∃ mm, X.base.Ns sysModules mm) : ∀ (ds : List (PyData × PyData)) (kvs : List (Key × V)) (vs : List (Key × Value)) (es : List DictEntry), DrKv X.K H N kvs ds → KV kvs vs → Pairs (mixKind X.prog X.w) es vs →
    ∃ as bs, ReadsAll s.heap (es.map (·.key)) (ds.map (·.1)) as ∧ ReadsAll s.heap (es.map (·.val)) (ds.map (·.2)) bs ∧ sysModules ∉ as ∧ sysModules ∉ bs
  | [], _, _, _, h, r, p => by
    cases h
    cases r
    cases p
    exact ⟨_, _, ReadsAll.nil, ReadsAll.nil, List.not_mem_nil, List.not_mem_nil⟩
  | (_, d) :: ds, _, _, _, h, r, p => by
    cases h with
    | cons h1 h2 =>
      cases r with
      | cons r1 r2 =>
        cases p with
        | cons p1 p2 p3 =>
          obtain ⟨e1, e2⟩ := r1
          obtain ⟨as, q1, n1⟩ := Dr.reads I sys d _ _ h1 e2
          obtain ⟨bs, cs, q2, q3, n2, n3⟩ := DrKv.reads I sys ds _ _ _ h2 r2 p3
          have e1' : _ = _ := e1
          rw [← e1'] at p1
          refine ⟨[] ++ bs, as ++ cs, ReadsAll.cons (read_key p1) q2, ReadsAll.cons (by show Reads _ (DictEntry.val _) d as; rw [p2]; exact q1) q3, by rw [List.nil_append]; exact n2, fun m => (List.mem_append.mp m).elim n1 n3⟩
end
end
/-- repr(x) -/
def rRepr (K : PySem.W.Frag) : List V → Hp → VK → Prop := fun xs H Q => ∃ (x : V) (d : PyData) (N : Addr → Prop), xs = [x] ∧ Dr K H N x d ∧ d.showable = true ∧ d.depth ≤ 60 ∧ d.shown.length ≤ sizeLine ∧ Q (.str d.shown) H
theorem call_repr {X : Cx} (g : X.A.guards = some []) (hu : X.A.units + 64 < cLine) (sys : ∃ mm, X.base.Ns sysModules mm) : CallR X (.builtin "repr") (rRepr X.K) := by
  intro pins s σ H xs us Q I r h
  obtain ⟨x, d, N, rfl, hd, hs, hz, hl, q⟩ := h
  obtain ⟨u, rfl, r1⟩ := vals1 r
  obtain ⟨as, hr, hn⟩ := Dr.reads I sys d x u hd r1
  have fin : ∀ (u : Tok) h' tk, (∀ b o, s.heap.get? b = some o → h'.get? b = some o) → EP X pins σ Q (.str d.shown u) { s with heap := h', toks := tk } := fun u h' tk hk => ⟨.str d.shown, H, I.kept hk, ⟨u, rfl⟩, q⟩
  cases hd with
  | non =>
    cases r1
    exact PySem.P.repr_of_none (fin _ s.heap _ fun _ _ e => e)
  | bl b =>
    cases r1
    cases b <;> exact PySem.P.repr_of_bool (fin _ s.heap _ fun _ _ e => e)
  | int i =>
    obtain ⟨t, rfl⟩ := r1
    exact PySem.P.repr_of_int (of_decide_eq_true (by simpa only [PyData.showable] using hs)) (fin _ s.heap _ fun _ _ e => e)
  | str z =>
    obtain ⟨t, rfl⟩ := r1
    exact PySem.P.repr_of_str (fin _ s.heap _ fun _ _ e => e) (by simpa only [PyData.shown] using hl)
  | lst _ h1 h2 =>
    cases r1
    exact repr_of_reads' (h₀ := s.heap) hr hs (fun _ => hn) g (by omega) (fun _ _ e => e) (fun h' u tk hk => fin u h' tk hk) hl
  | tup _ h1 h2 =>
    cases r1
    exact repr_of_reads' (h₀ := s.heap) hr hs (fun _ => hn) g (by omega) (fun _ _ e => e) (fun h' u tk hk => fin u h' tk hk) hl
  | dic _ h1 h2 =>
    cases r1
    exact repr_of_reads' (h₀ := s.heap) hr hs (fun _ => hn) g (by omega) (fun _ _ e => e) (fun h' u tk hk => fin u h' tk hk) hl
/-! ### texts -/
def onlyOf (y x : Str) : Bool := x.cps.toList.all fun c => y.cps.contains c
theorem takeWhile_full {α : Type} (p : α → Bool) : ∀ l : List α, decide ((l.takeWhile p).length = l.length) = l.all p
  | [] => rfl
  | a :: r => by
    have ih := takeWhile_full p r
    rw [List.takeWhile_cons, List.all_cons]
    cases ha : p a with
    | true =>
      rw [if_pos rfl, List.length_cons, List.length_cons, ← ih]
      simp
    | false =>
      rw [if_neg Bool.false_ne_true]
      simp
theorem empty_str : ("" : Str) = ⟨#[]⟩ := by decide +kernel
theorem str_ext {x y : Str} (h : x.cps.toList = y.cps.toList) : x = y := by
  cases x
  cases y
  congr 1
  exact Array.toList_inj.mp h
theorem lstrip_empty (x y : Str) : decide (V.str (Txt.lstripChars x y) = V.str "") = onlyOf y x := by
  have e : Txt.lstripChars x y = ⟨x.cps.extract (x.cps.toList.takeWhile y.cps.contains).length x.cps.size⟩ := stripBy_eq y.cps.contains true false x
  have h := takeWhile_full (fun c => y.cps.contains c) x.cps.toList
  unfold onlyOf
  rw [← h]
  apply decide_eq_decide.mpr
  have le : (x.cps.toList.takeWhile fun c => y.cps.contains c).length ≤ x.cps.toList.length := (List.takeWhile_sublist _).length_le
  constructor
  · intro q
    have q1 : Txt.lstripChars x y = "" := V.str.inj q
    rw [e, empty_str] at q1
    have q2 : (x.cps.extract (x.cps.toList.takeWhile y.cps.contains).length x.cps.size).size = 0 := by rw [Str.mk.inj q1]; rfl
    rw [Array.size_extract] at q2
    have q3 : x.cps.toList.length = x.cps.size := Array.length_toList
    have q4 : (x.cps.toList.takeWhile y.cps.contains).length ≤ x.cps.toList.length := le
    show (x.cps.toList.takeWhile y.cps.contains).length = _
    omega
  · intro q
    have q0 : (x.cps.toList.takeWhile y.cps.contains).length = x.cps.size := by
      rw [← Array.length_toList]
      exact q
    congr 1
    rw [e, empty_str, q0]
    congr 1
    simp
/-- bits alone -/
def isBits (x : Str) : Bool := onlyOf "01" x
/-- is_prefix -/
def isPfx (v : V) (w : Int) : Bool := match v with
  | .str x => decide ((x.length : Int) ≤ w) && isBits x
  | _ => false
def isStrV : V → Bool
  | .str _ => true
  | _ => false
/-- a value whose type isinstance reads: text or not -/
def TyS (K : PySem.W.Frag) (H : Hp) (v : V) : Prop := ∃ t : String, TyX K H v (.type t) ∧ PySem.W.kitOne K (.type t) (.type "str") = some (isStrV v)
theorem kit_f {K : PySem.W.Frag} {t : String} (h : kitB t "str" = some false) : PySem.W.kitOne K (.type t) (.type "str") = some false := kit_ty h
theorem TyS.of {K : PySem.W.Frag} {H : Hp} {N : Addr → Prop} {v : V} {d : PyData} (h : Dr K H N v d) : TyS K H v := by
  cases h with
  | non => exact ⟨_, .base .non, kit_f (by decide +kernel)⟩
  | bl b => exact ⟨_, .base (.bl b), kit_f (by decide +kernel)⟩
  | int i => exact ⟨_, .base (.int i), kit_f (by decide +kernel)⟩
  | str x => exact ⟨_, .base (.str x), kit_ty (r := true) (by decide +kernel)⟩
  | lst _ h _ =>
    rcases h with (h | ⟨o, h⟩) | ⟨o, _, _, h, hc, _⟩
    · exact ⟨_, .base (.lst h), kit_f (by decide +kernel)⟩
    · exact ⟨_, .base (.frz h), kit_f (by decide +kernel)⟩
    · exact ⟨_, .kList h hc, kit_f (by decide +kernel)⟩
  | tup _ h _ =>
    rcases h with (h | ⟨o, h⟩) | ⟨o, _, _, h, hc, _⟩
    · exact ⟨_, .base (.tup h), kit_f (by decide +kernel)⟩
    · exact ⟨_, .fTuple h, kit_f (by decide +kernel)⟩
    · exact ⟨_, .kTuple h hc, kit_f (by decide +kernel)⟩
  | dic _ h _ =>
    rcases h with h | ⟨o, h⟩
    · exact ⟨_, .base (.dK h), kit_f (by decide +kernel)⟩
    · exact ⟨_, .fDict h, kit_f (by decide +kernel)⟩
/-! ### the pen -/
/-- a pen stands at p: its numbers at c, its place i, its stock s, what was appended -/
def penL (c : Addr) (i s : Int) (m : List V) : HO := .lst (.ref c :: .int i :: .int s :: m)
structure PenAt (H : Hp) (p : Addr) (n : Nat) (m : List V) (c : Addr) (ns : List Int) (i s : Int) : Prop where
  at_ : H p = some (penL c i s m)
  cells : H c = some (.lst (ns.map V.int))
  len : ns.length ≤ 60
  i0 : 0 ≤ i
  i1 : i ≤ n
  s0 : 0 ≤ s
theorem PenAt.ne {H : Hp} {p c : Addr} {n : Nat} {m : List V} {ns : List Int} {i s : Int} (h : PenAt H p n m c ns i s) : c ≠ p := fun e => by
  have h1 := h.cells
  rw [e, h.at_] at h1
  have h2 := HO.lst.inj (Option.some.inj h1)
  cases ns with
  | nil => cases h2
  | cons x r => cases (List.cons.inj h2).1
theorem PenAt.mono {H : Hp} {p c : Addr} {n k : Nat} {m : List V} {ns : List Int} {i s : Int} (h : PenAt H p n m c ns i s) (hk : n ≤ k) : PenAt H p k m c ns i s :=
  ⟨h.at_, h.cells, h.len, h.i0, by have := h.i1; omega, h.s0⟩
/-- the pen behind a draw -/
theorem PenAt.next {H : Hp} {p c : Addr} {n k : Nat} {m : List V} {ns : List Int} {i s i' s' : Int} (h : PenAt H p n m c ns i s) (h0 : 0 ≤ i') (h1 : i' ≤ k) (h2 : 0 ≤ s') : PenAt (upd H p (penL c i' s' m)) p k m c ns i' s' :=
  ⟨upd_same, by rw [upd_ne h.ne]; exact h.cells, h.len, h0, h1, h2⟩
theorem PenAt.keep {H H' : Hp} {p c : Addr} {n : Nat} {m : List V} {ns : List Int} {i s : Int} (h : PenAt H p n m c ns i s) (k : Same H H') : PenAt H' p n m c ns i s :=
  ⟨k _ _ h.at_, k _ _ h.cells, h.len, h.i0, h.i1, h.s0⟩
/-- a pen at p, its numbers at c, whatever it holds -/
def Pen (H : Hp) (p c : Addr) (n : Nat) (m : List V) : Prop := ∃ ns i s, PenAt H p n m c ns i s
theorem Pen.keep {H H' : Hp} {p c : Addr} {n : Nat} {m : List V} (h : Pen H p c n m) (k : Same H H') : Pen H' p c n m := by
  obtain ⟨ns, i, s, h⟩ := h
  exact ⟨ns, i, s, h.keep k⟩
theorem Pen.mono {H : Hp} {p c : Addr} {n k : Nat} {m : List V} (h : Pen H p c n m) (hk : n ≤ k) : Pen H p c k m := by
  obtain ⟨ns, i, s, h⟩ := h
  exact ⟨ns, i, s, h.mono hk⟩
theorem Pen.ne_p {H : Hp} {p c : Addr} {n : Nat} {m : List V} (h : Pen H p c n m) {a : Addr} (e : H a = none) : a ≠ p := by
  obtain ⟨ns, i, s, h⟩ := h
  rintro rfl
  rw [h.at_] at e
  cases e
theorem Pen.ne_c {H : Hp} {p c : Addr} {n : Nat} {m : List V} (h : Pen H p c n m) {a : Addr} (e : H a = none) : a ≠ c := by
  obtain ⟨ns, i, s, h⟩ := h
  rintro rfl
  rw [h.cells] at e
  cases e
/-- a store elsewhere -/
theorem Pen.off {H : Hp} {p c : Addr} {n : Nat} {m : List V} (h : Pen H p c n m) {a : Addr} {o : HO} (h1 : a ≠ p) (h2 : a ≠ c) : Pen (upd H a o) p c n m := by
  obtain ⟨ns, i, s, h⟩ := h
  exact ⟨ns, i, s, by rw [upd_ne h1.symm]; exact h.at_, by rw [upd_ne h2.symm]; exact h.cells, h.len, h.i0, h.i1, h.s0⟩
/-- all but p is as it was -/
def But (p : Addr) (H H' : Hp) : Prop := ∀ b o, b ≠ p → H b = some o → H' b = some o
theorem But.refl (p : Addr) (H : Hp) : But p H H := fun _ _ _ e => e
theorem But.trans {p : Addr} {H H1 H2 : Hp} (a : But p H H1) (b : But p H1 H2) : But p H H2 := fun c o n e => b c o n (a c o n e)
theorem But.of_same {p : Addr} {H H' : Hp} (h : Same H H') : But p H H' := fun b o _ e => h b o e
theorem But.upd {p : Addr} {H : Hp} {o : HO} : But p H (upd H p o) := fun b x n e => by rw [upd_ne n]; exact e
/-- what is free behind was free ahead -/
theorem But.free {p : Addr} {H H' : Hp} (e : But p H H') {a : Addr} (n : a ≠ p) (h : H' a = none) : H a = none := by
  cases q : H a with
  | none => rfl
  | some o =>
    rw [e a o n q] at h
    cases h
theorem But.seq {K : PySem.W.Frag} {p : Addr} {H H' : Hp} {a : Addr} {xs : List V} (e : But p H H') (hn : a ≠ p) (h : SqL K H a xs) : SqL K H' a xs := by
  rcases h with (h | ⟨o, h⟩) | h
  · exact .inl (.inl (e _ _ hn h))
  · exact .inl (.inr ⟨o, e _ _ hn h⟩)
  · exact .inr h
theorem PenAt.but {H H' : Hp} {p c : Addr} {n k : Nat} {m : List V} {ns : List Int} {i s i' s' : Int} (h : PenAt H p n m c ns i s) (hb : But p H H') (e : H' p = some (penL c i' s' m)) (h0 : 0 ≤ i') (h1 : i' ≤ k) (h2 : 0 ≤ s') : PenAt H' p k m c ns i' s' :=
  ⟨e, hb _ _ h.ne h.cells, h.len, h0, h1, h2⟩
/-- no call makes more turns of the pen -/
abbrev PB : Nat := 1000000000000
def spPen (K : PySem.W.Frag) : Sp := fun vs H Q _ => ∃ (a : Addr) (ns : List Int), vs = [.ref a] ∧ SqL K H a (ns.map V.int) ∧ ns.length ≤ 63 ∧ ∀ H' p c, Same H H' → H p = none → H c = none → Pen H' p c 0 [] → Q (.ref p) H'
def spNext : Sp := fun vs H Q _ => ∃ (p : Addr) (n : Nat) (m : List V) (c : Addr) (ns : List Int) (i s : Int), vs = [.ref p] ∧ PenAt H p n m c ns i s ∧ n ≤ PB ∧
  ∀ (x : Int) (H' : Hp), 0 ≤ x → But p H H' → PenAt H' p (n + 1) m c ns (i + 1) s → Q (.int x) H'
def spDraw : Sp := fun vs H Q _ => ∃ (p c : Addr) (n : Nat) (m : List V) (below : Int), vs = [.ref p, .int below] ∧ Pen H p c n m ∧ n ≤ PB ∧ 0 < below ∧ below < 1073741824 ∧
  ∀ (d : Int) (H' : Hp), 0 ≤ d → d < below → But p H H' → Pen H' p c (n + 1) m → Q (.int d) H'
theorem sixty {ns : List Int} : HT.sIx ns.length 0 none = 0 ∧ HT.sIx ns.length ns.length (some 60) ≤ 60 := by
  refine ⟨HT.sIx_none _ _, ?_⟩
  rw [show HT.sIx ns.length ns.length (some 60) = min 60 ns.length from HT.sIx_nat ns.length ns.length 60]
  omega
theorem cut60 (ns : List Int) : ∃ ms : List Int, cutV (ns.map V.int) none (some 60) = ms.map V.int ∧ ms.length ≤ 60 := by
  unfold cutV
  refine ⟨(ns.drop (HT.sIx (ns.map V.int).length 0 none)).take (HT.sIx (ns.map V.int).length (ns.map V.int).length (some 60) - HT.sIx (ns.map V.int).length 0 none), ?_, ?_⟩
  · rw [List.map_take, List.map_drop]
  · rw [List.length_take, List.length_map]
    have h := (sixty (ns := ns)).2
    omega
theorem same_upd {H : Hp} {p : Addr} {o : HO} (h : H p = none) : Same H (upd H p o) := fun b x e => by
  rw [upd_ne (ne_of_none e h)]
  exact e
theorem ix1 {a b c : V} {m : List V} : ixN (a :: b :: c :: m).length 1 = some 1 := by
  unfold ixN
  rw [if_pos (by decide), if_pos (by rw [List.length_cons, List.length_cons]; omega)]
  rfl
theorem ix2 {a b c : V} {m : List V} : ixN (a :: b :: c :: m).length 2 = some 2 := by
  unfold ixN
  rw [if_pos (by decide), if_pos (by rw [List.length_cons, List.length_cons, List.length_cons]; omega)]
  rfl
theorem dpAll_ints {K : PySem.W.Frag} {H : Hp} : ∀ ns : List Int, DpAll K H (ns.map V.int) (ns.map PyData.int)
  | [] => .nil
  | n :: r => .cons (.int n) (dpAll_ints r)
theorem eqv_nil (ns : List Int) : PyData.eqv (.list (ns.map PyData.int)) (.list []) = decide (ns = []) := by
  cases ns with
  | nil => rfl
  | cons x r => rfl
/-! ### what the reprs of small data come to -/
structure OkD (L B : Nat) (d : PyData) : Prop where
  sh : d.showable = true
  dp : d.depth ≤ L
  ln : d.shown.length ≤ B
theorem OkD.mono {L B L' B' : Nat} {d : PyData} (h : OkD L B d) (h1 : L ≤ L') (h2 : B ≤ B') : OkD L' B' d := ⟨h.sh, Nat.le_trans h.dp h1, Nat.le_trans h.ln h2⟩
theorem comma_len : ((", " : String) : Str).length = 2 := by decide +kernel
theorem join_le : ∀ ts : List Str, (Str.join ", " ts).length ≤ (ts.map fun t => t.length + 2).sum
  | [] => Nat.zero_le _
  | [x] => by
    show x.length ≤ _
    rw [List.map_cons, List.sum_cons]
    omega
  | x :: y :: r => by
    have ih := join_le (y :: r)
    show (x ++ ((", " : String) : Str) ++ Str.join ", " (y :: r)).length ≤ _
    rw [strLen_append, strLen_append, comma_len, List.map_cons, List.sum_cons]
    omega
theorem sum_le_of {l : List Str} {B : Nat} (h : ∀ t ∈ l, t.length ≤ B) : (l.map fun t => t.length + 2).sum ≤ l.length * (B + 2) := by
  induction l with
  | nil => exact Nat.zero_le _
  | cons x r ih =>
    have h1 := h x List.mem_cons_self
    have h2 := ih fun t ht => h t (List.mem_cons_of_mem _ ht)
    rw [List.map_cons, List.sum_cons, List.length_cons, Nat.succ_mul]
    omega
theorem shownAll_map : ∀ ds : List PyData, PyData.shownAll ds = ds.map PyData.shown
  | [] => PyData.shownAll_nil
  | d :: ds => by rw [PyData.shownAll_cons, shownAll_map ds, List.map_cons]
theorem showableAll_all : ∀ {ds : List PyData}, (∀ d ∈ ds, d.showable = true) → PyData.showableAll ds = true := PySem.Spec.showableAll_of
theorem depthAll_le {L : Nat} : ∀ {ds : List PyData}, (∀ d ∈ ds, d.depth ≤ L) → PyData.depthAll ds ≤ L
  | [], _ => by simp only [PyData.depthAll]; exact Nat.zero_le _
  | d :: ds, h => by
    have h1 := h d List.mem_cons_self
    have h2 := depthAll_le fun x hx => h x (List.mem_cons_of_mem _ hx)
    simp only [PyData.depthAll]
    omega
theorem OkD.list {L B n : Nat} {ds : List PyData} (hn : ds.length ≤ n) (h : ∀ d ∈ ds, OkD L B d) : OkD (L + 1) (n * (B + 2) + 2) (.list ds) := by
  refine ⟨by simp only [PyData.showable]; exact showableAll_all fun d hd => (h d hd).sh, ?_, ?_⟩
  · have := depthAll_le fun d hd => (h d hd).dp
    simp only [PyData.depth]
    omega
  · rw [PyData.shown_list, shownAll_map, strLen_append, strLen_append]
    have h1 := join_le (ds.map PyData.shown)
    have h2 := sum_le_of (l := ds.map PyData.shown) (B := B) fun t ht => by
      obtain ⟨d, hd, rfl⟩ := List.mem_map.mp ht
      exact (h d hd).ln
    rw [List.length_map] at h2
    have h3 := Nat.mul_le_mul_right (B + 2) hn
    have e1 : ((("[" : String) : Str)).length = 1 := by decide +kernel
    have e2 : ((("]" : String) : Str)).length = 1 := by decide +kernel
    omega
theorem OkD.tuple {L B n : Nat} {ds : List PyData} (hn : ds.length ≤ n) (h : ∀ d ∈ ds, OkD L B d) : OkD (L + 1) (n * (B + 2) + 3) (.tuple ds) := by
  refine ⟨by simp only [PyData.showable]; exact showableAll_all fun d hd => (h d hd).sh, ?_, ?_⟩
  · have := depthAll_le fun d hd => (h d hd).dp
    simp only [PyData.depth]
    omega
  · rw [PyData.shown_tuple, shownAll_map, strLen_append, strLen_append]
    have h1 := join_le (ds.map PyData.shown)
    have h2 := sum_le_of (l := ds.map PyData.shown) (B := B) fun t ht => by
      obtain ⟨d, hd, rfl⟩ := List.mem_map.mp ht
      exact (h d hd).ln
    rw [List.length_map] at h2
    have h3 := Nat.mul_le_mul_right (B + 2) hn
    have e1 : ((("(" : String) : Str)).length = 1 := by decide +kernel
    have e2 : (((if (ds.length == 1) = true then ",)" else ")" : String) : Str)).length ≤ 2 := by split <;> decide +kernel
    omega
theorem depthKv_le {L : Nat} : ∀ {ds : List (PyData × PyData)}, (∀ d ∈ ds, d.1.depth ≤ L ∧ d.2.depth ≤ L) → PyData.depthKv ds ≤ L
  | [], _ => by simp only [PyData.depthKv]; exact Nat.zero_le _
  | (a, b) :: ds, h => by
    have h1 : a.depth ≤ L ∧ b.depth ≤ L := h (a, b) List.mem_cons_self
    have h2 := depthKv_le fun x hx => h x (List.mem_cons_of_mem _ hx)
    simp only [PyData.depthKv]
    omega
theorem shownKv_map : ∀ ds : List (PyData × PyData), PyData.shownKv ds = ds.map fun p => p.1.shown ++ ((": " : String) : Str) ++ p.2.shown
  | [] => PyData.shownKv_nil
  | (a, b) :: ds => by rw [PyData.shownKv_cons, shownKv_map ds, List.map_cons]
theorem OkD.dict {L B C n : Nat} {ds : List (PyData × PyData)} (hn : ds.length ≤ n) (h : ∀ d ∈ ds, OkD L C d.1 ∧ OkD L B d.2) : OkD (L + 1) (n * (C + B + 4) + 2) (.dict ds) := by
  refine ⟨by simp only [PyData.showable]; exact PySem.Spec.showableKv_of fun d hd => ⟨(h d hd).1.sh, (h d hd).2.sh⟩, ?_, ?_⟩
  · have := depthKv_le fun d hd => ⟨(h d hd).1.dp, (h d hd).2.dp⟩
    simp only [PyData.depth]
    omega
  · rw [PyData.shown_dict, shownKv_map, strLen_append, strLen_append]
    have h1 := join_le (ds.map fun p => p.1.shown ++ ((": " : String) : Str) ++ p.2.shown)
    have e0 : (((": " : String) : Str)).length = 2 := by decide +kernel
    have h2 := sum_le_of (l := ds.map fun p => p.1.shown ++ ((": " : String) : Str) ++ p.2.shown) (B := C + B + 2) fun t ht => by
      obtain ⟨d, hd, rfl⟩ := List.mem_map.mp ht
      have z1 := (h d hd).1.ln
      have z2 := (h d hd).2.ln
      rw [strLen_append, strLen_append, e0]
      omega
    rw [List.length_map] at h2
    have h3 := Nat.mul_le_mul_right (C + B + 2 + 2) hn
    have e1 : ((("{" : String) : Str)).length = 1 := by decide +kernel
    have e2 : ((("}" : String) : Str)).length = 1 := by decide +kernel
    have e3 : C + B + 2 + 2 = C + B + 4 := by omega
    rw [e3] at h2 h3
    omega
/-! ### dicts made of pairs -/
theorem putK_end {kvs : List (Key × V)} {k : Key} {v : V} (h : k ∉ kvs.map (·.1)) : putK kvs k v = kvs ++ [(k, v)] := by
  unfold putK
  rw [if_neg]
  intro q
  obtain ⟨p, hp, e⟩ := List.any_eq_true.mp q
  exact h (List.mem_map.mpr ⟨p, hp, of_decide_eq_true e⟩)
theorem mergeK_nd : ∀ (more kvs : List (Key × V)), ((kvs ++ more).map (·.1)).Nodup → mergeK kvs more = kvs ++ more
  | [], kvs, _ => (List.append_nil _).symm
  | (k, v) :: r, kvs, h => by
    have e : kvs ++ (k, v) :: r = (kvs ++ [(k, v)]) ++ r := by rw [List.append_assoc]; rfl
    have hk : k ∉ kvs.map (·.1) := fun m => by
      rw [List.map_append, List.nodup_append] at h
      exact h.2.2 k m k (by rw [List.map_cons]; exact List.mem_cons_self) rfl
    show mergeK (putK kvs k v) r = _
    rw [putK_end hk, e]
    rw [e] at h
    exact mergeK_nd r _ h
theorem DrKv.zip {K : PySem.W.Frag} {H : Hp} {N : Addr → Prop} : ∀ (ks : List Key) {vs : List V} {ds : List PyData}, DrAll K H N vs ds → DrKv K H N (ks.zip vs) ((ks.map keyD).zip ds)
  | [], _, _, _ => .nil
  | _ :: _, _, _, .nil => .nil
  | k :: ks, _, _, .cons h t => .cons h (DrKv.zip ks t)
theorem nodup_zip {α β : Type} {ks : List α} (h : ks.Nodup) : ∀ vs : List β, ((ks.zip vs).map (·.1)).Nodup := fun vs => by
  have e : (ks.zip vs).map (·.1) = ks.take vs.length := by
    induction ks generalizing vs with
    | nil => cases vs <;> rfl
    | cons k ks ih =>
      cases vs with
      | nil => rfl
      | cons v vs =>
        show k :: (ks.zip vs).map (·.1) = _
        rw [ih (List.nodup_cons.mp h).2]
        rfl
  rw [e]
  exact h.sublist (List.take_sublist _ _)
/-- a comprehension without tests: the item is kept -/
theorem yes_if {σ : L2.St} {H : Hp} {A B : Hp → Prop} (h : A H) : tYes σ H fun b H3 => if b = true then A H3 else B H3 := by
  unfold tYes
  dsimp only
  rw [if_pos rfl]
  exact h
/-! ### texts made of texts -/
/-- the signs of a text -/
abbrev sg (x : Str) : List Nat := x.cps.toList
theorem sg_len (x : Str) : (sg x).length = x.length := Array.length_toList
theorem sg_app (x y : Str) : sg (x ++ y) = sg x ++ sg y := by
  show ((x.cps ++ y.cps).toList : List Nat) = _
  rw [Array.toList_append]
theorem sg_empty : sg "" = [] := by rw [show ("" : Str) = ⟨#[]⟩ from empty_str]
theorem app_empty (x : Str) : x ++ ((("" : String) : Str)) = x := str_ext (by
  show sg (x ++ _) = sg x
  rw [sg_app, sg_empty, List.append_nil])
theorem sg_join : ∀ ys : List Str, sg (Txt.join "" ys) = (ys.map sg).flatten := by
  intro ys
  show sg (Builtin.Str.glued "" ys) = _
  rw [StrLaws.glued_eq_join]
  induction ys with
  | nil => rfl
  | cons y r ih =>
    cases r with
    | nil =>
      show sg y = _
      rw [List.map_cons, List.map_nil, List.flatten_cons, List.flatten_nil, List.append_nil]
    | cons z t =>
      show sg (y ++ ((("" : String) : Str)) ++ Str.join "" (z :: t)) = _
      rw [app_empty, sg_app, ih, List.map_cons (a := y), List.flatten_cons]
/-- a text that is not long, of signs that repr writes short -/
structure Sm (n : Nat) (x : Str) : Prop where
  ln : x.length ≤ n
  ch : ∀ c ∈ sg x, c < 128
theorem Sm.mono {n m : Nat} {x : Str} (h : Sm n x) (hm : n ≤ m) : Sm m x := ⟨Nat.le_trans h.ln hm, h.ch⟩
theorem Sm.app {n m : Nat} {x y : Str} (h : Sm n x) (h' : Sm m y) : Sm (n + m) (x ++ y) := ⟨by
  rw [strLen_append]
  exact Nat.add_le_add h.ln h'.ln, fun c hc => by
  rw [sg_app] at hc
  exact (List.mem_append.mp hc).elim (h.ch c) (h'.ch c)⟩
theorem Sm.cut {n : Nat} {x : Str} (h : Sm n x) (lo hi : Option Int) : Sm n (cutS x lo hi) := ⟨Nat.le_trans (cutS_length x lo hi) h.ln, fun c hc => by
  have e : sg (cutS x lo hi) = ((sg x).drop (HT.sIx x.length 0 lo)).take (HT.sIx x.length x.length hi - HT.sIx x.length 0 lo) := rfl
  rw [e] at hc
  exact h.ch c (List.mem_of_mem_drop (List.mem_of_mem_take hc))⟩
theorem Sm.one {c : Nat} (h : c < 128) : Sm 1 ⟨#[c]⟩ := ⟨Nat.le_refl _, fun d hd => by
  have hd' : d ∈ [c] := hd
  rw [List.mem_singleton.mp hd']
  exact h⟩
theorem Sm.join {ys : List Str} (h : ∀ y ∈ ys, Sm 1 y) : Sm ys.length (Txt.join "" ys) := by
  constructor
  · rw [← sg_len, sg_join]
    induction ys with
    | nil => exact Nat.le_refl _
    | cons y r ih =>
      have h1 := (h y List.mem_cons_self).ln
      have h2 := ih fun z hz => h z (List.mem_cons_of_mem _ hz)
      rw [List.map_cons, List.flatten_cons, List.length_append, List.length_cons, sg_len]
      omega
  · intro c hc
    rw [sg_join] at hc
    obtain ⟨l, hl, hc⟩ := List.mem_flatten.mp hc
    obtain ⟨y, hy, rfl⟩ := List.mem_map.mp hl
    exact (h y hy).ch c hc
theorem Sm.ok {n B : Nat} {x : Str} (h : Sm n x) (hb : 10 * n + 2 ≤ B) : OkD 0 B (.str x) := by
  refine ⟨by simp only [PyData.showable], by simp only [PyData.depth]; exact Nat.le_refl _, ?_⟩
  rw [PyData.shown_str]
  have h1 := StrLaws.reprText_len x fun c hc => Nat.lt_of_lt_of_le (h.ch c hc) (by decide)
  have h2 := h.ln
  omega
theorem sum_ones {ys : List Str} (h : ∀ y ∈ ys, Sm 1 y) : (ys.map (·.length)).sum ≤ ys.length := by
  induction ys with
  | nil => exact Nat.le_refl _
  | cons y r ih =>
    have h1 := (h y List.mem_cons_self).ln
    have h2 := ih fun z hz => h z (List.mem_cons_of_mem _ hz)
    rw [List.map_cons, List.sum_cons, List.length_cons]
    omega
/-- text * number -/
def rMulS : R2 := fun x y H Q => ∃ z n, x = .str z ∧ y = .int n ∧ MulOk z n ∧ Q (.str (Txt.mul z n)) H
theorem op_mulS {X : Cx} : OpR X (binaryOp .Mult) rMulS := by
  intro pins s σ H x y v u Q I rx ry h
  obtain ⟨z, n, rfl, rfl, ok, q⟩ := h
  obtain ⟨t, rfl⟩ := rx
  obtain ⟨t', rfl⟩ := ry
  exact SB.mul ok fun t k => ⟨.str _, H, I.tok _, ⟨_, rfl⟩, q⟩
theorem foldl_app (l : List (Array Nat)) : ∀ a : Array Nat, (l.foldl (· ++ ·) a).toList = a.toList ++ (l.map Array.toList).flatten := by
  induction l with
  | nil => intro a; simp
  | cons x r ih =>
    intro a
    rw [List.foldl_cons, ih, Array.toList_append, List.map_cons, List.flatten_cons, List.append_assoc]
theorem mul_sm {x : Str} {n : Nat} (h : Sm 1 x) (h1 : 2 ≤ n) (hx : (x.length == 0) = false) : Sm n (Txt.mul x (n : Int)) := by
  have e : Txt.mul x (n : Int) = ⟨(List.replicate n x.cps).foldl (· ++ ·) #[]⟩ := by
    unfold Txt.mul
    rw [if_neg (by omega), hx, show ((n : Int) == 1) = false from beq_eq_false_iff_ne.mpr (by omega)]
    rfl
  have e2 : sg (Txt.mul x (n : Int)) = (List.replicate n (sg x)).flatten := by
    rw [e]
    show ((List.replicate n x.cps).foldl (· ++ ·) #[]).toList = _
    rw [foldl_app, List.map_replicate]
    rfl
  constructor
  · rw [← sg_len, e2, List.length_flatten, List.map_replicate, List.sum_replicate_nat, sg_len]
    have := h.ln
    exact Nat.le_trans (Nat.mul_le_mul_left n this) (by omega)
  · intro c hc
    rw [e2] at hc
    obtain ⟨l, hl, hc⟩ := List.mem_flatten.mp hc
    rw [(List.mem_replicate.mp hl).2] at hc
    exact h.ch c hc
/-- bit in ['0', '1'] -/
theorem bit_in (c : Nat) : inV (.str ⟨#[c]⟩) [.str "0", .str "1"] = (("01" : Str)).cps.contains c := by
  have e0 : ("0" : Str) = ⟨#[48]⟩ := by decide +kernel
  have e1 : ("1" : Str) = ⟨#[49]⟩ := by decide +kernel
  have e2 : (("01" : Str)).cps = #[48, 49] := by decide +kernel
  have eq1 : ∀ d : Nat, eqV (.str ⟨#[d]⟩) (.str ⟨#[c]⟩) = (c == d) := fun d => by
    show ((⟨#[d]⟩ : Str) == ⟨#[c]⟩) = (c == d)
    rw [Bool.eq_iff_iff, beq_iff_eq, beq_iff_eq]
    constructor
    · intro h
      have h2 : ([d] : List Nat) = [c] := congrArg Array.toList (Str.mk.inj h)
      exact (List.cons.inj h2).1.symm
    · rintro rfl
      rfl
  rw [e0, e1, e2]
  show (eqV (.str ⟨#[48]⟩) (.str ⟨#[c]⟩) || (eqV (.str ⟨#[49]⟩) (.str ⟨#[c]⟩) || false)) = _
  rw [eq1, eq1, Bool.eq_iff_iff]
  simp
/-! ### rows -/
theorem bits_sm {x : Str} (h : isBits x = true) : ∀ c ∈ sg x, c < 128 := fun c hc => by
  have h1 := List.all_eq_true.mp h c hc
  have e2 : (("01" : Str)).cps = #[48, 49] := by decide +kernel
  rw [e2] at h1
  simp at h1
  omega
theorem bits_iff {x : Str} : isBits x = true ↔ ∀ c ∈ sg x, c = 48 ∨ c = 49 := by
  have e2 : (("01" : Str)).cps = #[48, 49] := by decide +kernel
  unfold isBits onlyOf
  rw [e2, List.all_eq_true]
  constructor
  · intro h c hc
    have := h c hc
    simp at this
    omega
  · intro h c hc
    have := h c hc
    simp
    omega
theorem bits_app {x y : Str} (h : isBits x = true) (h' : isBits y = true) : isBits (x ++ y) = true := bits_iff.mpr fun c hc => by
  rw [sg_app] at hc
  exact (List.mem_append.mp hc).elim (bits_iff.mp h c) (bits_iff.mp h' c)
theorem bits_sub {x y : Str} (h : isBits x = true) (k : ∀ c ∈ sg y, c ∈ sg x) : isBits y = true := bits_iff.mpr fun c hc => bits_iff.mp h c (k c hc)
theorem sg_cut (x : Str) (lo hi : Option Int) : sg (cutS x lo hi) = ((sg x).drop (HT.sIx x.length 0 lo)).take (HT.sIx x.length x.length hi - HT.sIx x.length 0 lo) := rfl
theorem bits_cut {x : Str} (h : isBits x = true) (lo hi : Option Int) : isBits (cutS x lo hi) = true := bits_sub h fun c hc => by
  rw [sg_cut] at hc
  exact List.mem_of_mem_drop (List.mem_of_mem_take hc)
/-- x[:k] -/
theorem sg_take (x : Str) (k : Nat) : sg (cutS x none (some (k : Int))) = (sg x).take k := by
  rw [sg_cut, HT.sIx_none, HT.sIx_nat, List.drop_zero, Nat.sub_zero, ← sg_len]
  rcases Nat.le_total k (sg x).length with h | h
  · rw [Nat.min_eq_left h]
  · rw [Nat.min_eq_right h, List.take_length, List.take_of_length_le h]
theorem take_len (x : Str) (k : Nat) : (cutS x none (some (k : Int))).length ≤ k := by
  rw [← sg_len, sg_take, List.length_take]
  omega
theorem bits_empty : isBits "" = true := by decide +kernel
theorem flat_str (xs : List Str) : (xs.map V.str).all flatV = true := by
  induction xs with
  | nil => rfl
  | cons x r ih => exact ih
theorem inV_str (x : Str) (xs : List Str) : inV (.str x) (xs.map V.str) = decide (x ∈ xs) := by
  induction xs with
  | nil => rfl
  | cons y r ih =>
    have e : inV (.str x) ((y :: r).map V.str) = ((y == x) || inV (.str x) (r.map V.str)) := rfl
    rw [e, ih, Bool.eq_iff_iff, Bool.or_eq_true, beq_iff_eq, decide_eq_true_iff, decide_eq_true_iff, List.mem_cons]
    exact ⟨fun h => h.imp Eq.symm id, fun h => h.imp Eq.symm id⟩
theorem dpAll_strs {K : PySem.W.Frag} {H : Hp} : ∀ xs : List Str, DpAll K H (xs.map V.str) (xs.map PyData.str)
  | [] => .nil
  | x :: r => .cons (.str x) (dpAll_strs r)
theorem shaped_strs {xs : List Str} (h : ∀ x ∈ xs, isBits x = true) : SeqAt.shaped (.list (xs.map PyData.str)) = true := by
  have h1 : PyData.canLayAll0 (xs.map PyData.str) = true := by
    induction xs with
    | nil => simp only [List.map_nil, PyData.canLayAll0]
    | cons x r ih =>
      rw [List.map_cons]
      simp only [PyData.canLayAll0, PyData.canLay0]
      rw [ih fun y hy => h y (List.mem_cons_of_mem _ hy), Bool.and_true]
      unfold PyData.strOk
      have hx := bits_sm (h x List.mem_cons_self)
      rw [Array.all_eq_true']
      intro c hc
      have := hx c (Array.mem_toList_iff.mpr hc)
      exact decide_eq_true (by omega)
  have h2 : PyData.depthAll (xs.map PyData.str) ≤ 0 := depthAll_le fun d hd => by
    obtain ⟨x, _, rfl⟩ := List.mem_map.mp hd
    simp only [PyData.depth]
    exact Nat.le_refl _
  unfold SeqAt.shaped
  rw [Bool.and_eq_true]
  refine ⟨by simp only [PyData.canLay0]; exact h1, decide_eq_true ?_⟩
  simp only [PyData.depth]
  omega
theorem eqv_nilS (xs : List Str) : PyData.eqv (.list (xs.map PyData.str)) (.list []) = decide (xs = []) := by
  cases xs with
  | nil => rfl
  | cons x r => rfl
/-- the prefixes of a map of this width, each once -/
structure PfxL (w : Nat) (xs : List Str) : Prop where
  nd : xs.Nodup
  bits : ∀ x ∈ xs, isBits x = true
  len : ∀ x ∈ xs, x.length ≤ w
/-- rows: prefixes of this width with values of this kind -/
structure RowsOk (w : Nat) (vok : V → Prop) (xs : List Str) (kvs : List (Key × V)) : Prop where
  keys : kvs.map (·.1) = xs.map Sum.inr
  pfx : PfxL w xs
  val : ∀ kv ∈ kvs, vok kv.2
def isIntV : V → Prop
  | .int _ => True
  | _ => False
def spBits : Sp := fun vs H Q _ => ∃ (p c : Addr) (n z : Nat) (m : List V), vs = [.ref p, .int z] ∧ Pen H p c n m ∧ n + 100 ≤ PB ∧ z ≤ 40 ∧
  ∀ (x : Str) (H' : Hp), But p H H' → Pen H' p c (n + 1 + z) m → isBits x = true → x.length ≤ z → Q (.str x) H'
def spSize : Sp := fun vs H Q _ => ∃ (p c : Addr) (n : Nat) (m : List V), vs = [.ref p] ∧ Pen H p c n m ∧ n + 100 ≤ PB ∧ m.length ≤ 1 ∧
  ∀ (z : Nat) (m' : List V) (H' : Hp), But p H H' → Pen H' p c (n + 1) m' → m'.length ≤ 1 → 1 ≤ z → z ≤ 32 → Q (.int z) H'
def spPrefixes : Sp := fun vs H Q _ => ∃ (p c : Addr) (n z k : Nat) (m : List V), vs = [.ref p, .int z, .int k] ∧ Pen H p c n m ∧ n + 1000 ≤ PB ∧ z ≤ 32 ∧ k ≤ 20 ∧
  ∀ (l : Addr) (xs : List Str) (H' : Hp), But p H H' → Pen H' p c (n + 1 + 8 * k) m → H l = none → H' l = some (.lst (xs.map V.str)) → PfxL z xs → xs.length ≤ k → Q (.ref l) H'
/-! ### types as isinstance reads them -/
def isIntish : V → Bool
  | .int _ => true
  | .bl _ => true
  | _ => false
def isBoolV : V → Bool
  | .bl _ => true
  | _ => false
def isWholeV : V → Bool
  | .int _ => true
  | _ => false
def isWidthV : V → Bool
  | .int z => decide ((1 : Int) ≤ z) && decide (z ≤ 32)
  | _ => false
structure TyI (K : PySem.W.Frag) (H : Hp) (v : V) (t : String) : Prop where
  ty : TyX K H v (.type t)
  int : PySem.W.kitOne K (.type t) (.type "int") = some (isIntish v)
  bool : PySem.W.kitOne K (.type t) (.type "bool") = some (isBoolV v)
theorem kitv {K : PySem.W.Frag} {t c : String} {b : Bool} (h : kitB t c = some b) : PySem.W.kitOne K (.type t) (.type c) = some b := kit_ty h
theorem TyI.of {K : PySem.W.Frag} {H : Hp} {N : Addr → Prop} {v : V} {d : PyData} (h : Dr K H N v d) : ∃ t, TyI K H v t := by
  cases h with
  | non => exact ⟨_, .base .non, kitv (b := false) (by decide +kernel), kitv (b := false) (by decide +kernel)⟩
  | bl b => exact ⟨_, .base (.bl b), kitv (b := true) (by decide +kernel), kitv (b := true) (by decide +kernel)⟩
  | int i => exact ⟨_, .base (.int i), kitv (b := true) (by decide +kernel), kitv (b := false) (by decide +kernel)⟩
  | str x => exact ⟨_, .base (.str x), kitv (b := false) (by decide +kernel), kitv (b := false) (by decide +kernel)⟩
  | lst _ h _ =>
    rcases h with (h | ⟨o, h⟩) | ⟨o, _, _, h, hc, _⟩
    · exact ⟨_, .base (.lst h), kitv (b := false) (by decide +kernel), kitv (b := false) (by decide +kernel)⟩
    · exact ⟨_, .base (.frz h), kitv (b := false) (by decide +kernel), kitv (b := false) (by decide +kernel)⟩
    · exact ⟨_, .kList h hc, kitv (b := false) (by decide +kernel), kitv (b := false) (by decide +kernel)⟩
  | tup _ h _ =>
    rcases h with (h | ⟨o, h⟩) | ⟨o, _, _, h, hc, _⟩
    · exact ⟨_, .base (.tup h), kitv (b := false) (by decide +kernel), kitv (b := false) (by decide +kernel)⟩
    · exact ⟨_, .fTuple h, kitv (b := false) (by decide +kernel), kitv (b := false) (by decide +kernel)⟩
    · exact ⟨_, .kTuple h hc, kitv (b := false) (by decide +kernel), kitv (b := false) (by decide +kernel)⟩
  | dic _ h _ =>
    rcases h with h | ⟨o, h⟩
    · exact ⟨_, .base (.dK h), kitv (b := false) (by decide +kernel), kitv (b := false) (by decide +kernel)⟩
    · exact ⟨_, .fDict h, kitv (b := false) (by decide +kernel), kitv (b := false) (by decide +kernel)⟩
/-! ### locked and as it was -/
theorem upd_back {H : Hp} {d : Addr} {u o : HO} (h : H d = some u) : upd (upd H d o) d u = H := by
  rw [upd_upd]
  funext b
  by_cases hb : b = d
  · rw [hb, upd_same, h]
  · rw [upd_ne hb]
/-- a dict comprehension over any walk -/
theorem dc_it {J : It} {n : Nat} {G : Hp → Prop} {Y : Nat → Hp → V → Hp → Prop} (w : Walk J n G Y) {g : TG} {tt : TT} {tk tv : TE} {vs : List Nat} {σ : L2.St} {H1 : Hp} {D : Addr} {Qd : Hp → Prop} (Pv : Nat → Hp → Prop) (h0 : Pv 0 (upd H1 D (.dK []))) (hG : ∀ i H, i ≤ n → Pv i H → G H)
    (hs : ∀ i x H H', i < n → Pv i H → Y i H x H' → g x (wipe σ vs) H' fun σ2 H2 => wipe σ2 vs = wipe σ vs ∧ tt σ2 H2 fun b H3 =>
      if b = true then tk σ2 H3 fun y H4 => tv σ2 H4 fun z H5 => ∃ kvs k, y = kV k ∧ H5 D = some (.dK kvs) ∧ kvs.length < sizeLine ∧ Pv (i + 1) (upd H5 D (.dK (putK kvs k z))) else Pv (i + 1) H3) (hd : ∀ H, Pv n H → Qd H) :
    ∃ W : Nat → Nat → Hp → Prop, (∃ m, W 0 m (upd H1 D (.dK []))) ∧ ∀ i m H, W i m H → (J.stop i H ∧ Qd H) ∨ (J.go i H ∧ ∃ Nx : Hp → Prop, (∀ H', Nx H' → ∃ m', m' < m ∧ W (i + 1) m' H') ∧
      ∀ x H', J.yld i H x H' → g x (wipe σ vs) H' fun σ2 H2 => wipe σ2 vs = wipe σ vs ∧ tt σ2 H2 fun b H3 =>
        if b = true then tk σ2 H3 fun y H4 => tv σ2 H4 fun z H5 => ∃ kvs k, y = kV k ∧ H5 D = some (.dK kvs) ∧ kvs.length < sizeLine ∧ Nx (upd H5 D (.dK (putK kvs k z))) else Nx H3) := by
  refine ⟨fun i m H => m + i = n ∧ Pv i H, ⟨n, rfl, h0⟩, ?_⟩
  rintro i m H ⟨hm, p⟩
  have q := hG i H (by omega) p
  rcases Nat.lt_or_ge i n with lt | ge
  · exact .inr ⟨w.goes i H lt q, Pv (i + 1), fun H' p' => ⟨m - 1, by omega, by omega, p'⟩, fun x H' y => hs i x H H' lt p (w.yields i H x H' lt q y)⟩
  · obtain rfl : i = n := by omega
    exact .inl ⟨w.stops H q, hd H p⟩
/-! ### prefixes of texts -/
def Pre (y x : Str) : Prop := sg y <+: sg x
instance (y x : Str) : Decidable (Pre y x) := inferInstanceAs (Decidable (sg y <+: sg x))
theorem startswith_iff (x y : Str) : Txt.startswith x y = decide (Pre y x) := by
  have e : Txt.startswith x y = (decide (0 + y.length ≤ x.length) && ((x.cps.extract 0 (0 + y.length)) == y.cps)) := rfl
  rw [e, Bool.eq_iff_iff, Bool.and_eq_true, decide_eq_true_iff, decide_eq_true_iff, beq_iff_eq]
  have e2 : (x.cps.extract 0 (0 + y.length)).toList = (sg x).take y.length := by simp [sg]
  constructor
  · rintro ⟨_, h⟩
    have h2 : (sg x).take y.length = sg y := by rw [← e2, h]
    show sg y <+: sg x
    rw [← h2]
    exact List.take_prefix _ _
  · intro h
    have h1 : sg y = (sg x).take (sg y).length := List.prefix_iff_eq_take.mp h
    have h3 := h.length_le
    rw [sg_len, sg_len] at h3
    refine ⟨by omega, ?_⟩
    apply Array.toList_inj.mp
    rw [e2, ← sg_len y]
    exact h1.symm
theorem pre_take (x : Str) (k : Nat) : Pre (cutS x none (some (k : Int))) x := by
  show sg _ <+: sg x
  rw [sg_take]
  exact List.take_prefix _ _
theorem pre_eq {x y : Str} (h : Pre y x) : y = cutS x none (some (y.length : Int)) := str_ext (by
  show sg y = sg _
  rw [sg_take, ← sg_len]
  exact List.prefix_iff_eq_take.mp h)
theorem pre_len {x y : Str} (h : Pre y x) : y.length ≤ x.length := by
  have := List.IsPrefix.length_le h
  rw [sg_len, sg_len] at this
  exact this
/-- the longest of xs with which x begins -/
def IsLong (xs : List Str) (x : Str) : Option Str → Prop
  | none => ∀ y ∈ xs, ¬ Pre y x
  | some y => y ∈ xs ∧ Pre y x ∧ ∀ z ∈ xs, Pre z x → z.length ≤ y.length
theorem IsLong.uniq {xs ys : List Str} {x : Str} (hm : ∀ y, y ∈ xs ↔ y ∈ ys) : ∀ {r r' : Option Str}, IsLong xs x r → IsLong ys x r' → r = r'
  | none, none, _, _ => rfl
  | none, some y, h, h' => absurd h'.2.1 (h y ((hm y).mpr h'.1))
  | some y, none, h, h' => absurd h.2.1 (h' y ((hm y).mp h.1))
  | some y, some z, h, h' => by
    have h1 := h.2.2 z ((hm z).mpr h'.1) h'.2.1
    have h2 := h'.2.2 y ((hm y).mp h.1) h.2.1
    have e : y.length = z.length := by omega
    rw [pre_eq h.2.1, pre_eq h'.2.1, e]
def optV : Option Str → V
  | none => .non
  | some x => .str x
/-! ### dicts by texts -/
theorem valV_mem {kvs : List (Key × V)} {k : Key} : (valV kvs k).isSome = true ↔ k ∈ kvs.map (·.1) := by
  unfold valV
  rw [Option.isSome_map, List.find?_isSome, List.mem_map]
  constructor
  · rintro ⟨p, hp, e⟩
    exact ⟨p, hp, of_decide_eq_true e⟩
  · rintro ⟨p, hp, e⟩
    exact ⟨p, hp, decide_eq_true e⟩
theorem inr_mem {kvs : List (Key × V)} {xs : List Str} (h : kvs.map (·.1) = xs.map Sum.inr) (y : Str) : (Sum.inr y : Key) ∈ kvs.map (·.1) ↔ y ∈ xs := by
  rw [h, List.mem_map]
  constructor
  · rintro ⟨z, hz, e⟩
    rw [← Sum.inr.inj e]
    exact hz
  · intro hy
    exact ⟨y, hy, rfl⟩
theorem key_at {kvs : List (Key × V)} {xs : List Str} (h : kvs.map (·.1) = xs.map Sum.inr) {i : Nat} {k : Key} {v : V} (e : kvs[i]? = some (k, v)) : ∃ y, xs[i]? = some y ∧ k = .inr y := by
  have h1 : (kvs.map (·.1))[i]? = some k := by rw [List.getElem?_map, e]; rfl
  rw [h, List.getElem?_map] at h1
  cases hx : xs[i]? with
  | none => rw [hx] at h1; cases h1
  | some y =>
    rw [hx] at h1
    exact ⟨y, rfl, (Option.some.inj h1).symm⟩
theorem valV_some {kvs : List (Key × V)} (nd : (kvs.map (·.1)).Nodup) {k : Key} {v : V} (h : (k, v) ∈ kvs) : valV kvs k = some v := by
  induction kvs with
  | nil => cases h
  | cons p r ih =>
    obtain ⟨k', v'⟩ := p
    rw [List.map_cons, List.nodup_cons] at nd
    rcases List.mem_cons.mp h with e | h
    · cases e
      exact valV_pos rfl
    · have hne : k' ≠ k := fun e => nd.1 (by rw [e]; exact List.mem_map.mpr ⟨_, h, rfl⟩)
      have hz := ih nd.2 h
      unfold valV at hz ⊢
      rw [List.find?_cons_of_neg (by simpa using hne)]
      exact hz
/-! ### the lines of a law: a new dict by drawn prefixes -/
theorem SqT.but {K : PySem.W.Frag} {p a : Addr} {H H' : Hp} {o : List V} {xs : List V} (e : But p H H') (hp : H p = some (.lst o)) (h : SqT K H a xs) : SqT K H' a xs := by
  rcases h with (h | ⟨u, h⟩) | h
  · exact .inl (.inl (e _ _ (ne_of h hp (fun z => nomatch z)) h))
  · exact .inl (.inr ⟨u, e _ _ (ne_of h hp (fun z => nomatch z)) h⟩)
  · exact .inr h
theorem SqT.same {K : PySem.W.Frag} {a : Addr} {H H' : Hp} {xs : List V} (e : Same H H') (h : SqT K H a xs) : SqT K H' a xs := by
  rcases h with (h | ⟨u, h⟩) | h
  · exact .inl (.inl (e _ _ h))
  · exact .inl (.inr ⟨u, e _ _ h⟩)
  · exact .inr h
def spLines (vok : V → Prop) (most : Nat) : Sp := fun vs H Q _ => ∃ (p c : Addr) (n z : Nat) (m : List V), vs = [.ref p, .int z] ∧ Pen H p c n m ∧ n + 1000 ≤ PB ∧ z ≤ 32 ∧
  ∀ (d : Addr) (xs : List Str) (kvs : List (Key × V)) (H' : Hp), But p H H' → H d = none → H' d = some (.dK kvs) → RowsOk z vok xs kvs → xs.length ≤ most → Pen H' p c (n + 200) m → Q (.ref d) H'
theorem Pen.lst {H : Hp} {p c : Addr} {n : Nat} {m : List V} (h : Pen H p c n m) : ∃ o, H p = some (.lst o) := by
  obtain ⟨ns, i, s, h⟩ := h
  exact ⟨_, h.at_⟩
/-- the loop of such a dict: pairs of a prefix and a value that is drawn -/
structure PairsAt (K : PySem.W.Frag) (H : Hp) (D : Addr) (vok : V → Prop) (xs : List Str) (ps : List Addr) (kvs : List (Key × V)) : Prop where
  at_ : H D = some (.lst (ps.map V.ref))
  prs : Paired (fun a kv => SqT K H a [kV kv.1, kv.2]) ps kvs
  keys : kvs.map (·.1) = xs.map Sum.inr
  val : ∀ kv ∈ kvs, vok kv.2
theorem PairsAt.but {K : PySem.W.Frag} {H H' : Hp} {D p : Addr} {vok : V → Prop} {xs : List Str} {ps : List Addr} {kvs : List (Key × V)} {o : List V} (h : PairsAt K H D vok xs ps kvs) (e : But p H H') (hp : H p = some (.lst o)) (hD : D ≠ p) : PairsAt K H' D vok xs ps kvs :=
  ⟨e _ _ hD h.at_, h.prs.mono fun _ _ t => SqT.but e hp t, h.keys, h.val⟩
theorem PairsAt.same {K : PySem.W.Frag} {H H' : Hp} {D : Addr} {vok : V → Prop} {xs : List Str} {ps : List Addr} {kvs : List (Key × V)} (h : PairsAt K H D vok xs ps kvs) (e : Same H H') : PairsAt K H' D vok xs ps kvs :=
  ⟨e _ _ h.at_, h.prs.mono fun _ _ t => SqT.same e t, h.keys, h.val⟩
theorem PairsAt.snoc {K : PySem.W.Frag} {H : Hp} {D : Addr} {vok : V → Prop} {xs : List Str} {ps : List Addr} {kvs : List (Key × V)} (h : PairsAt K H D vok xs ps kvs) {y : Str} {v : V} (hv : vok v) {t : Addr} (ht : H t = none) :
    PairsAt K (upd (upd H t (.tup [.str y, v])) D (.lst (ps.map V.ref ++ [.ref t]))) D vok (xs ++ [y]) (ps ++ [t]) (kvs ++ [(.inr y, v)]) := by
  have nt : t ≠ D := fun e => by
    rw [e, h.at_] at ht
    cases ht
  refine ⟨by rw [upd_same, List.map_append]; rfl, Paired.snoc (h.prs.mono fun a kv q => ?_) (.inl (.inl (by rw [upd_ne nt, upd_same]; rfl))), by rw [List.map_append, List.map_append, h.keys]; rfl, fun kv hk => ?_⟩
  · refine SqT.but (p := D) (H := upd H t (.tup [.str y, v])) .upd (by rw [upd_ne nt.symm]; exact h.at_) (SqT.same (same_upd ht) q)
  · rcases List.mem_append.mp hk with hk | hk
    · exact h.val kv hk
    · rw [List.mem_singleton.mp hk]
      exact hv
theorem pair_merge {K : PySem.W.Frag} {H : Hp} {D : Addr} {vok : V → Prop} {xs : List Str} {ps : List Addr} {kvs : List (Key × V)} (h : PairsAt K H D vok xs ps kvs) (nd : xs.Nodup) : mergeK [] kvs = kvs := by
  have e : (([] ++ kvs : List (Key × V)).map (·.1)).Nodup := by
    rw [List.nil_append, h.keys]
    exact nd.map Sum.inr (fun a b h e => h (Sum.inr.inj e))
  rw [mergeK_nd kvs [] e, List.nil_append]
/-- such a list made one longer: what stood else is as it was -/
theorem pairs_old {H H1 H3 : Hp} {D t p : Addr} {o1 o2 : HO} (hD : H D = none) (b1 : But p H H1) (b3 : But p H1 H3) (ht : H3 t = none) : But p H (upd (upd H3 t o1) D o2) := fun a o na ha => by
  have h1 := b3 a o na (b1 a o na ha)
  rw [upd_ne (ne_of_none ha hD), upd_ne (ne_of_none h1 ht)]
  exact h1
/-! ### lists of spots -/
theorem sg_mul (c n : Nat) : sg (Txt.mul ⟨#[c]⟩ (n : Int)) = List.replicate n c := by
  unfold Txt.mul
  by_cases h0 : (n : Int) < 1
  · rw [if_pos h0]
    have : n = 0 := by omega
    subst this
    rfl
  · rw [if_neg h0]
    by_cases h1 : n = 1
    · subst h1
      rfl
    · have e : (((n : Int) == 1) || ((⟨#[c]⟩ : Str).length == 0)) = false := by
        rw [show ((n : Int) == 1) = false from beq_eq_false_iff_ne.mpr (by omega)]
        rfl
      rw [e, if_neg Bool.false_ne_true]
      show ((List.replicate ((n : Int)).toNat (#[c] : Array Nat)).foldl (· ++ ·) #[]).toList = _
      rw [foldl_app, Int.toNat_natCast, List.map_replicate]
      show [] ++ (List.replicate n [c]).flatten = _
      rw [List.nil_append]
      induction n with
      | zero => rfl
      | succ k ih => 
        clear ih h0 h1 e
        induction k with
        | zero => rfl
        | succ j ih => rw [List.replicate_succ, List.flatten_cons, ih]; rfl
theorem zero_is : ("0" : Str) = ⟨#[48]⟩ := by decide +kernel
theorem one_is : ("1" : Str) = ⟨#[49]⟩ := by decide +kernel
theorem mul_ok1 {x : Str} {n : Nat} (hx : x.length ≤ 1) (hn : n ≤ 1000) : MulOk x (n : Int) := mulOk_of 1 1000 hx (by omega) (by omega) (by decide) (by decide)
theorem zeros_bits (n : Nat) : isBits (Txt.mul "0" (n : Int)) = true ∧ (Txt.mul "0" (n : Int)).length = n := by
  rw [zero_is]
  refine ⟨bits_iff.mpr fun c hc => ?_, ?_⟩
  · rw [sg_mul] at hc
    exact .inl (List.mem_replicate.mp hc).2
  · rw [← sg_len, sg_mul, List.length_replicate]
theorem ones_bits (n : Nat) : isBits (Txt.mul "1" (n : Int)) = true ∧ (Txt.mul "1" (n : Int)).length = n := by
  rw [one_is]
  refine ⟨bits_iff.mpr fun c hc => ?_, ?_⟩
  · rw [sg_mul] at hc
    exact .inr (List.mem_replicate.mp hc).2
  · rw [← sg_len, sg_mul, List.length_replicate]
/-- texts of bits, none longer than z -/
def AllS (z : Nat) (vs : List V) : Prop := ∀ v ∈ vs, ∃ x, v = .str x ∧ isBits x = true ∧ x.length ≤ z
theorem AllS.nil {z : Nat} : AllS z [] := fun _ h => absurd h List.not_mem_nil
theorem AllS.app {z : Nat} {vs us : List V} (h : AllS z vs) (h' : AllS z us) : AllS z (vs ++ us) := fun v hv => (List.mem_append.mp hv).elim (h v) (h' v)
theorem AllS.one {z : Nat} {x : Str} (h1 : isBits x = true) (h2 : x.length ≤ z) : AllS z [.str x] := fun v hv => ⟨x, List.mem_singleton.mp hv, h1, h2⟩
theorem AllS.rev {z : Nat} {vs : List V} (h : AllS z vs) : AllS z vs.reverse := fun v hv => h v (List.mem_reverse.mp hv)
theorem AllS.strs {z : Nat} {xs : List Str} (h : PfxL z xs) : AllS z (xs.map V.str) := fun v hv => by
  obtain ⟨x, hx, rfl⟩ := List.mem_map.mp hv
  exact ⟨x, rfl, h.bits x hx, h.len x hx⟩
theorem big_of {n : Nat} (h : n ≤ 1000) : n ≤ sizeLine := Nat.le_trans h (by decide)
theorem big_lt {n : Nat} (h : n ≤ 1000) : n < sizeLine := Nat.lt_of_le_of_lt h (by decide)
/-! ### rows whatever their order and however often they come -/
structure RowsAcc (w : Nat) (vok : V → Prop) (kvs : List (Key × V)) : Prop where
  nd : (kvs.map (·.1)).Nodup
  all : ∀ kv ∈ kvs, ∃ y, kv.1 = .inr y ∧ isBits y = true ∧ y.length ≤ w ∧ vok kv.2
theorem RowsAcc.put {w : Nat} {vok : V → Prop} {kvs : List (Key × V)} (h : RowsAcc w vok kvs) {y : Str} {v : V} (h1 : isBits y = true) (h2 : y.length ≤ w) (h3 : vok v) : RowsAcc w vok (putK kvs (.inr y) v) := by
  by_cases hm : (Sum.inr y : Key) ∈ kvs.map (·.1)
  · have e : putK kvs (.inr y) v = kvs.map (fun kv => if kv.1 = .inr y then (kv.1, v) else kv) := by
      unfold putK
      rw [if_pos]
      obtain ⟨p, hp, e⟩ := List.mem_map.mp hm
      exact List.any_eq_true.mpr ⟨p, hp, decide_eq_true e⟩
    rw [e]
    constructor
    · rw [List.map_map]
      have e2 : (Prod.fst ∘ fun kv : Key × V => if kv.1 = .inr y then (kv.1, v) else kv) = Prod.fst := by
        funext kv
        show (if kv.1 = .inr y then (kv.1, v) else kv).1 = kv.1
        split <;> rfl
      rw [e2]
      exact h.nd
    · intro kv hkv
      obtain ⟨p, hp, rfl⟩ := List.mem_map.mp hkv
      by_cases hy : p.1 = .inr y
      · rw [if_pos hy]
        exact ⟨y, hy, h1, h2, h3⟩
      · rw [if_neg hy]
        exact h.all p hp
  · rw [putK_end hm]
    constructor
    · rw [List.map_append, List.nodup_append]
      refine ⟨h.nd, List.nodup_cons.mpr ⟨List.not_mem_nil, List.nodup_nil⟩, fun a ha b hb e => hm ?_⟩
      have e2 : b = .inr y := List.mem_singleton.mp hb
      rw [← e2, ← e]
      exact ha
    · intro kv hkv
      rcases List.mem_append.mp hkv with hkv | hkv
      · exact h.all kv hkv
      · rw [List.mem_singleton.mp hkv]
        exact ⟨y, rfl, h1, h2, h3⟩
theorem RowsAcc.merge {w : Nat} {vok : V → Prop} : ∀ {more kvs : List (Key × V)}, RowsAcc w vok kvs → (∀ kv ∈ more, ∃ y, kv.1 = .inr y ∧ isBits y = true ∧ y.length ≤ w ∧ vok kv.2) → RowsAcc w vok (mergeK kvs more)
  | [], _, h, _ => h
  | (k, v) :: r, kvs, h, hm => by
    obtain ⟨y, e, h1, h2, h3⟩ := hm (k, v) List.mem_cons_self
    have e' : k = .inr y := e
    subst e'
    show RowsAcc w vok (mergeK (putK kvs (.inr y) v) r)
    exact RowsAcc.merge (h.put h1 h2 h3) fun kv hk => hm kv (List.mem_cons_of_mem _ hk)
theorem RowsAcc.ok {w : Nat} {vok : V → Prop} {kvs : List (Key × V)} (h : RowsAcc w vok kvs) : ∃ xs, RowsOk w vok xs kvs ∧ xs.length = kvs.length := by
  have key : ∀ l : List (Key × V), (∀ kv ∈ l, ∃ y, kv.1 = .inr y ∧ isBits y = true ∧ y.length ≤ w ∧ vok kv.2) → ∃ xs : List Str, l.map (·.1) = xs.map Sum.inr ∧ (∀ x ∈ xs, isBits x = true ∧ x.length ≤ w) := by
    intro l
    induction l with
    | nil => exact fun _ => ⟨[], rfl, fun _ h => absurd h List.not_mem_nil⟩
    | cons p r ih =>
      intro hl
      obtain ⟨xs, e, hx⟩ := ih fun kv hk => hl kv (List.mem_cons_of_mem _ hk)
      obtain ⟨y, ey, h1, h2, _⟩ := hl p List.mem_cons_self
      refine ⟨y :: xs, by rw [List.map_cons, List.map_cons, e, ey], fun x hx' => ?_⟩
      rcases List.mem_cons.mp hx' with rfl | hx'
      · exact ⟨h1, h2⟩
      · exact hx x hx'
  obtain ⟨xs, e, hx⟩ := key kvs h.all
  refine ⟨xs, ⟨e, ⟨?_, fun x hx' => (hx x hx').1, fun x hx' => (hx x hx').2⟩, fun kv hk => by obtain ⟨_, _, _, _, h⟩ := h.all kv hk; exact h⟩, ?_⟩
  · have hn := h.nd
    rw [e] at hn
    exact List.Pairwise.of_map Sum.inr (fun a b h e => h (by rw [e])) hn
  · have := congrArg List.length e
    rw [List.length_map, List.length_map] at this
    exact this.symm
/-! ### a list by the keys of a dict -/
theorem upd_free {H : Hp} {a e : Addr} {o : HO} (h : upd H a o e = none) : e ≠ a ∧ H e = none := by
  have n : e ≠ a := fun q => by
    rw [q, upd_same] at h
    cases h
  rw [upd_ne n] at h
  exact ⟨n, h⟩
theorem keys_strs {kvs : List (Key × V)} {xs : List Str} (h : kvs.map (·.1) = xs.map Sum.inr) : (kvs.map fun kv => kV kv.1) = xs.map V.str := by
  have e : (kvs.map fun kv => kV kv.1) = (kvs.map (·.1)).map kV := by rw [List.map_map]; rfl
  rw [e, h, List.map_map]
  rfl
theorem lock_keys {σ : L2.St} {H : Hp} {Q : VK} {td te : TE} {i : Nat} {d : Addr} {kvs : List (Key × V)} {xs : List Str} {f : Str → Str} (hd : H d = some (.dK kvs)) (hk : kvs.map (·.1) = xs.map Sum.inr) (hl : xs.length ≤ 900)
    (htd : ∀ (H' : Hp) (Q' : VK), Q' (.ref d) H' → td σ H' Q') (hte : ∀ x ∈ xs, ∀ (H' : Hp) (Q' : VK), Q' (.str (f x)) H' → te ((wipe σ [i]).set i (some (.str x))) H' Q')
    (q : ∀ (D : Addr) (H' : Hp), H D = none → Same H H' → H' D = some (.lst (xs.map fun x => .str (f x))) → Q (.ref D) H') : tLockE (tLc (iKeys td) (gName i) tYes te [i]) σ H Q := by
  refine ⟨d, .dK kvs, hd, trivial, fun od => ?_⟩
  refine htd _ _ ⟨d, od, rfl, .inl ⟨kvs, upd_same, fun D nD => ?_⟩⟩
  have hlen : kvs.length = xs.length := by
    have := congrArg List.length hk
    rw [List.length_map, List.length_map] at this
    exact this
  obtain ⟨nDd, nDH⟩ := upd_free nD
  refine lc_it walk_keys (fun j H' => H' D = some (.lst ((xs.take j).map fun x => .str (f x))) ∧ H' d = some (.frz od (.dK kvs)) ∧ ∀ b o, b ≠ d → H b = some o → H' b = some o) ⟨by rw [upd_same]; rfl, by rw [upd_ne nDd.symm, upd_same], fun b o nb e => by rw [upd_ne (ne_of_none e nDH), upd_ne nb]; exact e⟩ (fun _ _ _ h => h.2.1) ?_ ?_
  · rintro j v H1 H2 hj ⟨hD, hd1, keep⟩ ⟨rfl, k, v', hkv, rfl⟩
    obtain ⟨x, hx, rfl⟩ := key_at hk hkv
    refine ⟨?_, yes_if ?_⟩
    · show ((wipe σ [i]).set i (some (kV (.inr x)))).set i none = σ.set i none
      show ((σ.set i none).set i (some (V.str x))).set i none = σ.set i none
      rw [List.set_set, List.set_set]
    refine hte x (List.mem_of_getElem? hx) _ _ ⟨_, hD, big_lt (by rw [List.length_map, List.length_take]; omega), ?_, ?_, ?_⟩
    · rw [upd_same, List.take_add_one, hx, List.map_append]
      rfl
    · rw [upd_ne nDd.symm]
      exact hd1
    · intro b o nb e
      rw [upd_ne (ne_of_none e nDH)]
      exact keep b o nb e
  · rintro H1 ⟨hD, hd1, keep⟩
    refine ⟨hd1, q D _ nDH (fun b o e => ?_) ?_⟩
    · by_cases hb : b = d
      · rw [hb, upd_same, ← hd, ← hb, e]
      · rw [upd_ne hb]
        exact keep b o hb e
    · rw [upd_ne nDd, hD, List.take_of_length_le (by omega)]
theorem paired_app {α β : Type} {R : α → β → Prop} : ∀ {l1 l2 : List α} {k1 k2 : List β}, Paired R l1 k1 → Paired R l2 k2 → Paired R (l1 ++ l2) (k1 ++ k2)
  | _, _, _, _, .nil, h => h
  | _, _, _, _, .cons a t, h => .cons a (paired_app t h)
def top (i : Nat) : Stmt := PySem.Challenge.pw_keptroutes_k23_prices_made.main.body.getD i (.Pass ⟨0, 0, 0, 0⟩)
abbrev sPen : Stmt := top 14
abbrev sP : Stmt := sPen
abbrev sNext : Stmt := top 15
abbrev sN : Stmt := sNext
abbrev sDraw : Stmt := top 16
abbrev sDr : Stmt := sDraw
abbrev sBits : Stmt := top 17
abbrev sB : Stmt := sBits
abbrev sHas : Stmt := top 7
abbrev sH : Stmt := sHas
abbrev sPfx : Stmt := top 8
abbrev sI : Stmt := sPfx
abbrev sWhole : Stmt := top 6
abbrev sW : Stmt := sWhole
/-! ### {**d, k: v} -/
section
variable {P : Program} {w : World} {K' : Type} [DecidableEq K'] {knd : KeyKind P w K'} {A : Around} {E : Value → Shared → Prop} {s : Shared}
theorem put_ok {d : Addr} {kvs : List (K' × Value)} {k : K'} {key v : Value} {Z : Unit → Shared → Prop} (ik : knd.is k key = true) (D : s.heap.DictOf knd d kvs) (few : kvs.length ≤ sizeLine)
    (hZ : ∀ h1, h1.DictOf knd d (stored kvs k v) → Heap.SameBut d s.heap h1 → Z () { s with heap := h1 }) : wpAny (model P w) A (dictPut d (knd.hash k) key v) Z E s := by
  obtain ⟨o, es, ep, at1, cl, da, ke, pr, nd⟩ := D
  have n1 : es.size ≤ sizeLine := by
    have q := pr.length
    rw [Array.length_toList] at q
    omega
  have fi : (es.findIdx? fun e => knd.is k e.key) = kvs.findIdx? fun x => decide (x.1 = k) := by
    rw [← pr.findIdx k]
    cases es
    simp
  unfold dictPut
  refine wpAny_bind (wpAny_dictFind_of ik at1 da ke ?_)
  cases q : es.findIdx? fun e => knd.is k e.key with
  | some j =>
    have st : stored kvs k v = _ := if_pos (any_of_findIdx_some (fi ▸ q))
    refine wpAny_updateDict at1 da (hZ _ ⟨_, _, ep, Heap.get?_update_self _ at1 (Obj.isFreed_of_dict (Obj.data_mapDict da _)), cl.mapDict _, Obj.data_mapDict da _, ke.modify _ _, ?_, ?_⟩ (Heap.SameBut.update ..))
    · rw [st]
      have ql : (es.toList.findIdx? fun e => knd.is k e.key) = some j := by
        rw [← q]
        cases es
        simp
      have z := pr.modify nd ql v
      cases es
      simpa using z
    · rw [st, keys_map_store]
      exact nd
  | none =>
    have no : k ∉ kvs.map (·.1) := not_mem_of_findIdx_none (fi ▸ q)
    have st : stored kvs k v = _ := if_neg (c := (kvs.any fun x => decide (x.1 = k)) = true) (by
      rintro z
      obtain ⟨x, hx, e⟩ := List.any_eq_true.mp z
      exact no (List.mem_map.mpr ⟨x, hx, of_decide_eq_true e⟩))
    refine wpAny_updateDictKeys (hz := n1) at1 da (hZ _ ⟨_, _, ep + 1, Heap.get?_update_self _ at1 (Obj.isFreed_of_dict (Obj.data_mapDictKeys da _)), cl.mapDictKeys _, Obj.data_mapDictKeys da _, ke.push ik _, ?_, ?_⟩ (Heap.SameBut.update ..))
    · rw [st]
      have z := pr.append ik (knd.hash k) v
      cases es
      simpa using z
    · rw [st, List.map_append, List.nodup_append]
      refine ⟨nd, by simp, fun a ha b hb => ?_⟩
      obtain rfl : b = k := by simpa using hb
      exact fun e => no (e ▸ ha)
theorem if_pre {α β γ : Type} {c : Prop} [Decidable c] {x : Sem α} {F : α → Sem β} {rest : Sem γ} {Z : γ → Shared → Prop} (hp : c → ∀ Q : β → Shared → Prop, (∀ b, Q b s) → wpAny (model P w) A (x >>= F) Q E s) (hr : wpAny (model P w) A rest Z E s) :
    wpAny (model P w) A (if c then x >>= fun a => F a >>= fun _ => rest else rest) Z E s := by
  split
  · rename_i hc
    have e : (x >>= fun a => F a >>= fun _ => rest) = (x >>= F) >>= fun _ => rest := by rw [bind_assoc]
    rw [e]
    exact wpAny_bind (hp hc _ fun _ => hr)
  · exact hr
theorem forIn_none {l : List DictEntry} {f : DictEntry → PUnit → Sem (ForInStep PUnit)} (hf : ∀ e ∈ l, ∀ u, f e u = pure (.yield u)) : forIn l PUnit.unit f = pure PUnit.unit := by
  induction l with
  | nil => rfl
  | cons e r ih => rw [List.forIn_cons, hf e List.mem_cons_self, pure_bind]; exact ih fun x hx => hf x (List.mem_cons_of_mem _ hx)
/-- a dict merged into another -/
theorem merge_ok {d o : Addr} {kvs more : List (K' × Value)} {Z : Unit → Shared → Prop} (ne : d ≠ o) (sy : (o == sysModules) = false) (D : s.heap.DictOf knd d kvs) (O : s.heap.DictOf knd o more) (few : kvs.length + more.length ≤ sizeLine)
    (nr : ∀ k v, knd.is k v = true → ∀ a, v ≠ .ref a)
    (hZ : ∀ h1, h1.DictOf knd d (merged kvs more) → Heap.SameBut d s.heap h1 → Z () { s with heap := h1 }) : wpAny (model P w) A (mergeMapping d (.ref o) false) Z E s := by
  obtain ⟨oo, es, ep, at1, cl, da, ke, pr, nd⟩ := id O
  obtain ⟨od, es2, ep2, at2, cl2, da2, ke2, pr2, nd2⟩ := id D
  have hlen : more.length = es.size := by
    rw [← pr.length, Array.length_toList]
  unfold mergeMapping
  refine wpAny_bind (wpAny_isInstance O.typeIs isSubtype_dict_dict ?_)
  rw [if_pos rfl]
  refine wpAny_bind (wpAny_specialOf O.typeIs PySem.F.slot_dict_iter.lookup ?_)
  refine wpAny_bind (wpAny_pure ?_)
  simp only [beq_self_eq_true]
  rw [if_neg (by rw [sy]; exact Bool.false_ne_true)]
  refine wpAny_bind (wpAny_dictEntries at2 da2 ?_)
  refine if_pre (fun _ Q q => ?_) ?_
  · refine wpAny_bind (wpAny_dictEntries at1 da ?_)
    rw [← Array.forIn_toList, forIn_none fun e he u => ?_]
    · exact wpAny_pure (q _)
    · obtain ⟨k', ik, _⟩ := ke e (by simpa using he)
      split
      · rename_i a ha
        exact absurd ha (nr _ _ ik a)
      · rfl
  refine wpAny_bind (wpAny_dictEntries at1 da (wpAny_bind (wpAny_dictEpoch at1 da (wpAny_bind ?_))))
  refine wpAny_forIn_list _ (fun rest _ r => ∃ h1 i, r = { s with heap := h1 } ∧ rest = List.range' i (es.size - i) ∧ i ≤ es.size ∧ h1.DictOf knd d (merged kvs (more.take i)) ∧ h1.get? o = some oo ∧ Heap.SameBut d s.heap h1) _ ?_ ?_ _ _ ⟨s.heap, 0, rfl, by rw [List.range_eq_range', Nat.sub_zero], Nat.zero_le _, by simpa [merged] using D, at1, Heap.SameBut.refl _ _⟩
  · rintro x rest u r ⟨h1, i, rfl, er, hi, D1, a1, sb⟩
    have lt : i < es.size := by
      rcases Nat.lt_or_ge i es.size with q | q
      · exact q
      · rw [Nat.sub_eq_zero_of_le q] at er
        cases er
    obtain ⟨rfl, er2⟩ : x = i ∧ rest = List.range' (i + 1) (es.size - (i + 1)) := by
      rw [show es.size - i = (es.size - (i + 1)) + 1 by omega, List.range'_succ] at er
      exact List.cons.inj er
    refine wpAny_bind (wpAny_dictEntries a1 da ?_)
    rw [Array.getElem?_eq_getElem lt]
    have lt2 : x < more.length := by rw [hlen]; exact lt
    obtain ⟨⟨k0, v0⟩, hkv⟩ : ∃ y, more[x]? = some y := ⟨_, List.getElem?_eq_getElem lt2⟩
    obtain ⟨ik, iv⟩ := pr.get? (e := es[x]) (by simp [lt]) hkv
    obtain ⟨k', ik2, hh⟩ := ke es[x] (Array.getElem_mem lt)
    obtain rfl : k' = k0 := knd.inj _ _ _ ik2 ik
    show wpAny _ _ (holding [es[x].key, es[x].val] (if false = true then _ else dictPut d es[x].hash es[x].key es[x].val) >>= _) _ _ _
    rw [if_neg Bool.false_ne_true, hh, iv]
    have few2 : (merged kvs (more.take x)).length ≤ sizeLine := by
      have e1 := merged_length_le kvs (more.take x)
      rw [List.length_take] at e1
      omega
    refine wpAny_bind (wpAny_holding (put_ok ik D1 few2 fun h2 D2 sb2 => ?_))
    have a2 : h2.get? o = some oo := (sb2.2 o (Ne.symm ne)).trans a1
    refine wpAny_bind (wpAny_dictEpoch a2 da ?_)
    rw [if_neg (by simp)]
    exact wpAny_pure ⟨h2, x + 1, rfl, er2, lt, by rw [merged_take_succ kvs more x (k', v0) hkv]; exact D2, a2, sb.trans sb2⟩
  · rintro u r ⟨h1, i, rfl, er, hi, D1, a1, sb⟩
    obtain rfl : i = es.size := by
      rcases Nat.lt_or_ge i es.size with q | q
      · rw [show es.size - i = (es.size - (i + 1)) + 1 by omega, List.range'_succ] at er
        cases er
      · omega
    rw [← hlen, List.take_length] at D1
    exact wpAny_pure (hZ h1 D1 sb)
end
section
variable {X : Cx} {o ke ve : Expr} {pos : Pos} {td tk tv : TE}
theorem key_noref {P : Program} {w : World} {k : Key} {v : Value} (h : (mixKind P w).is k v = true) (a : Addr) : v ≠ .ref a := by
  rcases keyIs_shape h with ⟨i, t, rfl, rfl⟩ | ⟨x, t, rfl, rfl⟩
  · exact fun e => nomatch e
  · exact fun e => nomatch e
/-- a dict of the heap merged into another -/
theorem mergeH {pins : List (Addr × Obj)} {σ : L2.St} {H : Hp} {s : Shared} {A : Around} {E : Value → Shared → Prop} {p a : Addr} {kvs more : List (Key × V)} {Z : Unit → Shared → Prop} (I : Inv X pins σ H s) (hp : H p = some (.dK kvs)) (ha : Rd H a (.dK more)) (ne : p ≠ a) (few : kvs.length + more.length ≤ 2000)
    (hZ : ∀ s', Inv X pins σ (upd H p (.dK (mergeK kvs more))) s' → Z () s') : wpAny (model X.prog X.w) A (mergeMapping p (.ref a) false) Z E s := by
  obtain ⟨z1, sy1, vs, rel, D⟩ := dk_of I.hok hp
  obtain ⟨z2, sy2, rs, rel2, O⟩ := dk_rd I.hok ha
  refine merge_ok ne sy2 D O (by rw [← rel.length, ← rel2.length]; exact Nat.le_trans few (by decide)) (fun k v h a => key_noref h a) fun h1 D1 sb => hZ _ ?_
  have he : ∃ q, h1.get? p = some q := let ⟨q, _, _, hq, _⟩ := D1; ⟨q, hq⟩
  have len := length_mergeK more kvs
  exact d_write (t' := s.toks) I (by rw [hp]; exact True.intro) sb he (dk_new (Nat.le_trans (show (mergeK kvs more).length ≤ 2000 by omega) (by decide)) sy1 (KV.merge rel2 rel) D1)
def tDSt (td tk tv : TE) : TE := fun σ H Q => ∀ p, H p = none → td σ (upd H p (.dK [])) fun x H1 => ∃ (a : Addr) (kvs : List (Key × V)), x = .ref a ∧ Rd H1 a (.dK kvs) ∧ a ≠ p ∧ H1 p = some (.dK []) ∧ (kvs.map (·.1)).Nodup ∧ kvs.length < 1000 ∧ ∀ q, (upd H1 p (.dK kvs)) q = none →
  tk σ (upd (upd H1 p (.dK kvs)) q (.dK [])) fun y H2 => tv σ H2 fun z H3 => ∃ k, y = kV k ∧ H3 p = some (.dK kvs) ∧ H3 q = some (.dK []) ∧ Q (.ref p) (upd (upd H3 q (.dK [(k, z)])) p (.dK (putK kvs k z)))
theorem pe_dst (ho : PE X o td) (hk : PE X ke tk) (hv : PE X ve tv) : PE X (.Dict [none, some ke] [o, ve] pos) (tDSt td tk tv) := by
  refine ⟨fun pins s σ H Q I h => ?_⟩
  rw [arm_eval_Dict]
  refine wpAny_bind (wpAny_standAt ?_)
  show wpAny _ _ (dictDisplay [(none, (eval o X.env >>= fun x => standAt pos >>= fun _ => pure x)), (some (eval ke X.env), (eval ve X.env >>= fun x => standAt pos >>= fun _ => pure x))]) _ _ _
  unfold dictDisplay
  simp only [List.forIn_cons, List.forIn_nil, List.isEmpty_nil, if_true, pure_bind, bind_assoc, List.nil_append, List.length_cons, List.length_nil, Nat.zero_add, Nat.reduceBEq, Bool.false_eq_true, if_false, List.isEmpty_cons]
  refine wpAny_bind (wpAny_alloc ?_)
  have hn : H s.heap.objs.size = none := I.hok.fresh (Nat.le_refl _)
  have I1 := I.laid (a := s.heap.objs.size) (o := .dK []) (h' := s.heap.push { cls := .type "dict", data := .dict #[] }) (t' := s.toks) (fun _ _ q => Heap.get?_push_of_some _ q) (Nat.le_refl _) (dk_empty s.heap I.big)
  refine wpAny_bind (wpAny_holding (wpAny_bind (thn (ho.run pins _ σ _ _ I1 (h _ hn)) fun u s2 ⟨x, H1, I2, rx, a, kvs, ex, ha, nap, hp, nd, few, q⟩ => wpAny_bind (wpAny_standAt (wpAny_pure ?_)))))
  subst ex
  obtain rfl : u = Value.ref a := rx
  refine wpAny_bind (wpAny_onRaise (wpAny_tryCatch (wpAny_onRaise (wpAny_holding (mergeH I2 hp ha nap.symm (by show 0 + kvs.length ≤ 2000; omega) fun s3 I3 => ?_)))))
  rw [mergeK_nd kvs [] (by rw [List.nil_append]; exact nd), List.nil_append] at I3
  have nq : (upd H1 s.heap.objs.size (.dK kvs)) s3.heap.objs.size = none := I3.hok.fresh (Nat.le_refl _)
  have npq : s.heap.objs.size ≠ s3.heap.objs.size := ne_of_none upd_same nq
  have I4 := I3.laid (a := s3.heap.objs.size) (o := .dK []) (h' := s3.heap.push { cls := .type "dict", data := .dict #[] }) (t' := s3.toks) (fun _ _ q => Heap.get?_push_of_some _ q) (Nat.le_refl _) (dk_empty s3.heap I3.big)
  refine wpAny_bind (wpAny_holding (wpAny_subDict (knd := mixKind X.prog X.w) (show 1 ≤ 15 by decide) (evalPairs_cons (thn (hk.run pins _ σ _ _ I4 (q _ nq)) fun ku s4 ⟨y, H2, I5, ry, q2⟩ => wpAny_bind (thn (hv.run pins _ σ H2 _ I5 q2) fun vu s5 ⟨z, H3, I6, rz, k, ey, hp3, hq3, q3⟩ => wpAny_bind (wpAny_standAt (wpAny_pure (evalPairs_nil ?_))))))))
  subst ey
  obtain ⟨zq, syq, vs, rel, D⟩ := dk_of I6.hok hq3
  obtain rfl : vs = [] := List.length_eq_zero_iff.mp (by rw [← rel.length]; rfl)
  refine ⟨[(k, vu)], ⟨kV_is ry, rfl, trivial⟩, D, fun h6 D6 sb6 => ?_⟩
  have he : ∃ q, h6.get? s3.heap.objs.size = some q := let ⟨q, _, _, hq, _⟩ := D6; ⟨q, hq⟩
  have I7 := d_write (t' := s5.toks + [(ku, vu)].length) (ob := .dK [(k, z)]) I6 (by rw [hq3]; exact True.intro) sb6 he (dk_new (by show 1 ≤ sizeLine; decide) syq (show KV (putK [] k z) (stored [] k vu) from rel.put k rz) D6)
  exact wpAny_bind (wpAny_onRaise (wpAny_holding (mergeH I7 (by rw [upd_ne npq]; exact hp3) (.inl upd_same) npq (by show kvs.length + 1 ≤ 2000; omega) fun s8 I8 => wpAny_pure ⟨.ref s.heap.objs.size, _, I8, rfl, q3⟩)))
end
section
variable {P : Program} {w : World} {K : PySem.W.Frag} {mg : Str → Option Value} {base : Heap}
theorem scPen : FnScope ["script"] ["script"] (defScope sPen) := ⟨rfl, rfl, rfl, by decide +kernel, rfl, by decide +kernel, by decide +kernel⟩
theorem ok_pen {f : Addr} {fd : FuncData} {k : Nat} (F : Fun K "_law_pen" "_law_pen" sPen f fd) (ml : mg "list" = none) : FnOk P w K mg base CX0 (k + 1) f fd ["script"] (spPen K) := by
  refine F.ok scPen (fun vs H Q E h => ?_) (fun cdv A outer s H vs Q E hr h => ?_)
  · obtain ⟨a, ns, rfl, _⟩ := h
    rfl
  · obtain ⟨a, ns, rfl, hS, hlen, q⟩ := h
    refine ⟨_, pss_one (ps_ret (pe_lst (pa_cons (pe_callTy call_list_of (by rfl) ml (by decide +kernel) (pa_cons (pe_slice sl_list (pv 0) po_none (po_some pe_int)) pa_nil)) (pa_cons pe_int (pa_cons pe_int pa_nil))))), ?_⟩
    obtain ⟨ms, em, hm⟩ := cut60 ns
    refine ⟨.ref a, rfl, 60, rfl, a, ns.map V.int, rfl, hS, fun b nb => ?_⟩
    rw [em]
    refine ⟨b, _, rfl, .inl (.inl (.inl upd_same)), fun c nc => ?_⟩
    refine ⟨by show 3 ≤ sizeLine; decide, fun p np => ?_⟩
    have s1 : Same H (upd H b (.lst (ms.map V.int))) := same_upd nb
    have s2 := same_upd (o := .lst (ms.map V.int)) nc
    have s3 := same_upd (o := penL c 0 0 []) np
    have nf : H p = none := (s1.trans s2).free np
    refine q _ p c (s1.trans (s2.trans s3)) nf (s1.free nc) ⟨ms, 0, 0, upd_same, ?_, hm, Int.le_refl _, Int.le_refl _, Int.le_refl _⟩
    exact s3 _ _ upd_same
theorem scNext : FnScope ["pen", "index", "cell", "low", "mid", "top"] ["pen"] (defScope sNext) := ⟨rfl, rfl, rfl, by decide +kernel, rfl, by decide +kernel, by decide +kernel⟩
theorem ok_next {f : Addr} {fd : FuncData} {k : Nat} (F : Fun K "_law_next" "_law_next" sNext f fd) (ml : mg "len" = none) : FnOk P w K mg base CX0 (k + 1) f fd ["pen"] spNext := by
  refine F.ok scNext (fun vs H Q E h => ?_) (fun cdv A outer s H vs Q E hr h => ?_)
  · obtain ⟨p, n, m, c, ns, i, z, rfl, _⟩ := h
    rfl
  · obtain ⟨p, n, m, c, ns, i, z, rfl, hp, hn, q⟩ := h
    have nd := scNext.nd
    have hu := hr.units
    refine ⟨_, pss_cons (ps_set (i := 1) nd rfl (.inl rfl) (pe_ix ix_list (pv 0) pe_int (fun _ _ => rfl)))
      (pss_cons (ps_asg (pe_op op_add (pv 1) pe_int) (pg_sub (pv 0) pe_int set_list))
      (pss_cons (ps_set (i := 2) nd rfl (.inl rfl) (pe_op op_add (pe_op op_mul (pv 1) pe_int) pe_int))
      (C8.pss_cut (ps_if (pt_cmpR (op_neD hu) (pe_ix ix_list (pv 0) pe_int (fun _ _ => rfl)) (pe_lst pa_nil) (nomark _))
        (pss_one (ps_set (i := 2) nd rfl (.inl rfl) (pe_ix ix_list (pe_ix ix_list (pv 0) pe_int (fun _ _ => rfl))
          (pe_op op_mod (pv 1) (pe_callB call_len_seq (by rfl) ml PySem.boot_len (pa_cons (pe_ix ix_list (pv 0) pe_int (fun _ _ => rfl)) pa_nil))) (fun _ _ => rfl)))) pss_nil)
      (C8.pss_cut (ps_if (PW.pt (pw_and (pt_cmpR op_lt (pv 1) (pe_callB call_len_seq (by rfl) ml PySem.boot_len (pa_cons (pe_ix ix_list (pv 0) pe_int (fun _ _ => rfl)) pa_nil)) (nomark _))
          (pw_and1 (pt_cmpR op_ge (pv 2) (pe_op op_pow pe_int pe_int) (nomark _)))))
        (pss_one (ps_ret (pv 2))) pss_nil)
      (C8.pss_cut (ps_set (i := 3) nd rfl (.inl rfl) (pe_op op_mod (pe_op op_add (pe_op op_add (pe_op op_mod (pv 2) pe_int) (pe_op op_mul (pv 1) pe_int)) pe_int) pe_int))
      (C8.pss_cut (ps_set (i := 4) nd rfl (.inl rfl) (pe_op op_mod (pe_op op_add (pe_op op_add (pe_op op_mul (pv 3) (pv 3)) (pe_op op_mul (pv 1) pe_int)) pe_int) pe_int))
      (C8.pss_cut (ps_set (i := 5) nd rfl (.inl rfl) (pe_op op_mod (pe_op op_add (pe_op op_add (pe_op op_mul (pv 4) (pv 4)) (pv 3)) (pe_op op_mul (pe_op op_mul (pv 1) (pv 1)) pe_int)) pe_int))
      (pss_one (ps_ret (pe_op op_add (pe_op op_mul (pe_op op_add (pe_op op_mul (pv 5) pe_int) (pv 4)) pe_int) (pv 3)))))))))))  , ?_⟩
    have hpL : H p = some (.lst (.ref c :: .int i :: .int z :: m)) := hp.at_
    have ncp : c ≠ p := hp.ne
    -- index = pen[1]; pen[1] = index + 1
    refine ⟨.ref p, rfl, p, _, 1, .int i, rfl, rfl, SqL.of hpL, atI_nat (j := 1) rfl, ?_⟩
    refine ⟨.int i, rfl, i, 1, rfl, rfl, .ref p, rfl, p, _, 1, 1, rfl, rfl, hpL, ix1, ?_⟩
    have e1 : (V.ref c :: .int i :: .int z :: m).set 1 (.int (i + 1)) = .ref c :: .int (i + 1) :: .int z :: m := rfl
    rw [e1]
    generalize hH : upd H p (.lst (.ref c :: .int (i + 1) :: .int z :: m)) = H1
    have h1 : H1 p = some (.lst (.ref c :: .int (i + 1) :: .int z :: m)) := by rw [← hH, upd_same]
    have hc1 : H1 c = some (.lst (ns.map V.int)) := by rw [← hH, upd_ne ncp]; exact hp.cells
    have b1 : But p H H1 := by rw [← hH]; exact But.upd
    -- cell = index * 1049 + 29
    refine ⟨.int i, rfl, _, _, rfl, rfl, .inr ⟨by decide, by decide⟩, _, _, rfl, rfl, ?_⟩
    have hi0 := hp.i0
    have hi1 := hp.i1
    have hnB : n ≤ 1000000000000 := hn
    -- pen[0] != []
    refine ⟨fun σ H2 => ∃ cell : Int, σ = [some (.ref p), some (.int i), some (.int cell), none, none, none] ∧ H2 p = some (.lst (.ref c :: .int (i + 1) :: .int z :: m)) ∧ H2 c = some (.lst (ns.map V.int)) ∧ But p H H2, ?_, ?_⟩
    · refine ⟨.ref p, rfl, p, _, 0, .ref c, rfl, rfl, SqL.of h1, atI_nat (j := 0) rfl, Nat.zero_le _, fun e ne => ?_⟩
      have s2 : Same H1 (upd H1 e (.lst [])) := same_upd ne
      have hp2 : (upd H1 e (.lst [])) p = some (.lst (.ref c :: .int (i + 1) :: .int z :: m)) := s2 _ _ h1
      have hc2 : (upd H1 e (.lst [])) c = some (.lst (ns.map V.int)) := s2 _ _ hc1
      have b2 : But p H (upd H1 e (.lst [])) := b1.trans (.of_same s2)
      refine ⟨.list (ns.map PyData.int), .list [], .lst (SqL.of hc2) (dpAll_ints ns), .lst (SqL.of upd_same) .nil, PySem.W.ke_shaped_ints ns, rfl, _, rfl, ?_⟩
      rw [eqv_nil]
      by_cases hz : ns = []
      · rw [decide_eq_true hz]
        refine iteF ?_
        exact ⟨_, rfl, hp2, hc2, b2⟩
      · rw [decide_eq_false hz]
        refine iteT ?_
        have hl : 0 < ns.length := List.length_pos_iff.mpr hz
        have hlt : (i % (ns.length : Int)).toNat < ns.length := by
          have h1 := Int.emod_nonneg i (show (ns.length : Int) ≠ 0 by omega)
          have h2 := Int.emod_lt_of_pos i (show (0 : Int) < ns.length by omega)
          omega
        have hnn := Int.emod_nonneg i (show (ns.length : Int) ≠ 0 by omega)
        have g : atI (ns.map V.int) (i % (((ns.map V.int).length : Nat) : Int)) = some (.int ns[(i % (ns.length : Int)).toNat]) := by
          rw [List.length_map]
          refine at_of (j := (i % (ns.length : Int)).toNat) (by omega) ?_
          rw [List.getElem?_map, List.getElem?_eq_getElem hlt]
          rfl
        refine ⟨.ref p, rfl, p, _, 0, .ref c, rfl, rfl, SqL.of hp2, atI_nat (j := 0) rfl, .int i, rfl, .ref p, rfl, p, _, 0, .ref c, rfl, rfl, SqL.of hp2, atI_nat (j := 0) rfl,
          c, _, rfl, .inl (SqL.of hc2), _, _, rfl, rfl, by rw [List.length_map]; omega, c, _, _, _, rfl, rfl, SqL.of hc2, g, ?_⟩
        exact ⟨_, rfl, hp2, hc2, b2⟩
    · rintro σ H2 ⟨cell, rfl, hp2, hc2, b2⟩
      have fin : ∀ x : Int, 0 ≤ x → Q (.int x) H2 := fun x hx => q x H2 hx b2 (hp.but b2 hp2 (by omega) (by omega) hp.s0)
      have m1 := Int.emod_nonneg (cell % 2147483587 + i * 70061 + 53) (show (2147483587 : Int) ≠ 0 by decide)
      have m2 := Int.emod_lt_of_pos (cell % 2147483587 + i * 70061 + 53) (show (0 : Int) < 2147483587 by decide)
      have M0 : (2147483587 : Int) ≠ 0 := by decide
      have M1 : (0 : Int) < 2147483587 := by decide
      have M2 : (0 : Int) < 2147483563 := by decide
      have M3 : (0 : Int) < 2147483549 := by decide
      refine ⟨fun σ' H' => σ' = [some (.ref p), some (.int i), some (.int cell), none, none, none] ∧ H' = H2, ?_, ?_⟩
      · refine ⟨.int i, rfl, .ref p, rfl, p, _, 0, .ref c, rfl, rfl, SqL.of hp2, atI_nat (j := 0) rfl, c, _, rfl, .inl (SqL.of hc2), _, _, rfl, rfl, _, rfl, ?_⟩
        refine ite2 (fun _ => ?_) (fun _ => iteF ⟨rfl, rfl⟩)
        refine ⟨.int cell, rfl, _, _, rfl, rfl, ⟨by decide, by decide, by decide⟩, _, _, rfl, rfl, _, rfl, ?_⟩
        refine ite2 (fun hc => ?_) (fun _ => ⟨rfl, rfl⟩)
        have hc' : (10 : Int) ^ 18 ≤ cell := of_decide_eq_true hc
        exact ⟨.int cell, rfl, fin cell (by omega)⟩
      · rintro σ' H' ⟨rfl, rfl⟩
        refine ⟨fun σ' Ha => Ha = H' ∧ ∃ low : Int, 0 ≤ low ∧ low < 2147483587 ∧ σ' = [some (.ref p), some (.int i), some (.int cell), some (.int low), none, none], ?_, ?_⟩
        · refine ⟨.int cell, rfl, _, _, rfl, rfl, M1, .int i, rfl, _, _, rfl, rfl, .inr ⟨by decide, by decide⟩, _, _, rfl, rfl, _, _, rfl, rfl, _, _, rfl, rfl, M1, ?_⟩
          exact ⟨rfl, _, Int.emod_nonneg _ M0, Int.emod_lt_of_pos _ M1, rfl⟩
        rintro σ' Hb ⟨rfl, low, l1, l2, rfl⟩
        refine ⟨fun σ' Ha => Ha = Hb ∧ ∃ mid : Int, 0 ≤ mid ∧ mid < 2147483563 ∧ σ' = [some (.ref p), some (.int i), some (.int cell), some (.int low), some (.int mid), none], ?_, ?_⟩
        · refine ⟨.int low, rfl, .int low, rfl, _, _, rfl, rfl, .inl ⟨by omega, by omega⟩, .int i, rfl, _, _, rfl, rfl, .inr ⟨by decide, by decide⟩, _, _, rfl, rfl, _, _, rfl, rfl, _, _, rfl, rfl, M2, ?_⟩
          exact ⟨rfl, _, Int.emod_nonneg _ (by decide), Int.emod_lt_of_pos _ M2, rfl⟩
        rintro σ' Hc ⟨rfl, mid, d1, d2, rfl⟩
        refine ⟨fun σ' Ha => Ha = Hc ∧ ∃ tp : Int, 0 ≤ tp ∧ σ' = [some (.ref p), some (.int i), some (.int cell), some (.int low), some (.int mid), some (.int tp)], ?_, ?_⟩
        · refine ⟨.int mid, rfl, .int mid, rfl, _, _, rfl, rfl, .inl ⟨by omega, by omega⟩, .int low, rfl, _, _, rfl, rfl, .int i, rfl, .int i, rfl, _, _, rfl, rfl, .inl ⟨by omega, by omega⟩, _, _, rfl, rfl, .inr ⟨by decide, by decide⟩, _, _, rfl, rfl, _, _, rfl, rfl, M3, ?_⟩
          exact ⟨rfl, _, Int.emod_nonneg _ (by decide), rfl⟩
        rintro σ' H3 ⟨rfl, tp, t1, rfl⟩
        refine ⟨.int tp, rfl, _, _, rfl, rfl, .inr ⟨by decide, by decide⟩, .int mid, rfl, _, _, rfl, rfl, _, _, rfl, rfl, .inr ⟨by decide, by decide⟩, .int low, rfl, _, _, rfl, rfl, ?_⟩
        exact fin _ (by show 0 ≤ (tp * 2147483587 + mid) * 2147483563 + low; omega)
theorem scDraw : FnScope ["pen", "below", "digit"] ["pen", "below"] (defScope sDraw) := ⟨rfl, rfl, rfl, by decide +kernel, rfl, by decide +kernel, by decide +kernel⟩
theorem ok_draw {f fN : Addr} {fd fdN : FuncData} {k : Nat} (F : Fun K "_law_draw" "_law_draw" sDraw f fd) (FN : Fun K "_law_next" "_law_next" sNext fN fdN) (bN : Binds K fdN ["pen"] []) (gN : mg "_law_next" = some (.ref fN)) (ml : mg "len" = none) :
    FnOk P w K mg base CX0 (k + 2) f fd ["pen", "below"] spDraw := by
  have GN : FnOk P w K mg base CX0 (k + 1) fN fdN ["pen"] spNext := ok_next FN ml
  refine F.ok scDraw (fun vs H Q E h => ?_) (fun cdv A outer s H vs Q E hr h => ?_)
  · obtain ⟨p, c, n, m, below, rfl, _⟩ := h
    rfl
  · obtain ⟨p, c, n, m, below, rfl, ⟨ns, i, z, hp⟩, hn, hb0, hb1, q⟩ := h
    have nd := scDraw.nd
    refine ⟨_, C8.pss_cut (ps_if (pt_cmpR op_lt (pe_ix ix_list (pv 0) pe_int (fun _ _ => rfl)) (pv 1) (nomark _))
        (pss_one (ps_asg (pe_call GN hr (by rfl) gN FN.kp bN .nil pass0 (pa_cons (pv 0) pa_nil)) (pg_sub (pv 0) pe_int set_list))) pss_nil)
      (pss_cons (ps_set (i := 2) nd rfl (.inl rfl) (pe_op op_mod (pe_ix ix_list (pv 0) pe_int (fun _ _ => rfl)) (pv 1)))
      (pss_cons (ps_asg (pe_op op_fdiv (pe_ix ix_list (pv 0) pe_int (fun _ _ => rfl)) (pv 1)) (pg_sub (pv 0) pe_int set_list))
      (pss_one (ps_ret (pv 2))))), ?_⟩
    refine ⟨fun σ H2 => σ = [some (.ref p), some (.int below), none] ∧ But p H H2 ∧ ∃ i z, PenAt H2 p (n + 1) m c ns i z, ?_, ?_⟩
    · refine ⟨.ref p, rfl, p, _, 2, .int z, rfl, rfl, SqL.of hp.at_, atI_nat (j := 2) rfl, .int below, rfl, _, _, rfl, rfl, _, rfl, ?_⟩
      refine ite2 (fun _ => ?_) (fun _ => ⟨rfl, .refl _ _, i, z, hp.mono (Nat.le_succ _)⟩)
      refine ⟨.ref p, rfl, p, n, m, c, ns, i, z, rfl, hp, hn, fun x H1 hx b1 hp1 => ?_⟩
      refine ⟨.ref p, rfl, p, _, 2, 2, rfl, rfl, hp1.at_, ix2, ?_⟩
      exact ⟨rfl, b1.trans .upd, i + 1, x, hp1.next hp1.i0 hp1.i1 hx⟩
    · rintro σ H2 ⟨rfl, b2, i', z', hp2⟩
      refine ⟨.ref p, rfl, p, _, 2, .int z', rfl, rfl, SqL.of hp2.at_, atI_nat (j := 2) rfl, .int below, rfl, _, _, rfl, rfl, hb0, ?_⟩
      refine ⟨.ref p, rfl, p, _, 2, .int z', rfl, rfl, SqL.of hp2.at_, atI_nat (j := 2) rfl, .int below, rfl, _, _, rfl, rfl, ⟨hb0, hb1⟩, .ref p, rfl, p, _, 2, 2, rfl, rfl, hp2.at_, ix2, ?_⟩
      refine ⟨_, rfl, q _ _ (Int.emod_nonneg _ (by omega)) (Int.emod_lt_of_pos _ hb0) (b2.trans .upd) ⟨ns, i', z' / below, hp2.next hp2.i0 hp2.i1 (Int.ediv_nonneg hp2.s0 (by omega))⟩⟩
end
/-! ### has_only, is_prefix -/
def spHas : Sp := fun vs H Q _ => ∃ x y : Str, vs = [.str x, .str y] ∧ x.length ≤ sizeLine ∧ Q (.bl (onlyOf y x)) H
def spPfx (K : PySem.W.Frag) : Sp := fun vs H Q _ => ∃ (v : V) (w : Int), vs = [v, .int w] ∧ TyS K H v ∧ (∀ x, v = .str x → x.length ≤ sizeLine) ∧ Q (.bl (isPfx v w)) H
section
variable {P : Program} {w : World} {K : PySem.W.Frag} {mg : Str → Option Value} {base : Heap}
theorem scHas : FnScope ["text", "signs"] ["text", "signs"] (defScope sHas) := ⟨rfl, rfl, rfl, by decide +kernel, rfl, by decide +kernel, by decide +kernel⟩
theorem ok_has {f : Addr} {fd : FuncData} {k : Nat} (F : Fun K "has_only" "has_only" sHas f fd) : FnOk P w K mg base CX0 (k + 1) f fd ["text", "signs"] spHas := by
  refine F.ok scHas (fun vs H Q E h => ?_) (fun cdv A outer s H vs Q E hr h => ?_)
  · obtain ⟨x, y, rfl, _⟩ := h
    rfl
  · obtain ⟨x, y, rfl, hl, q⟩ := h
    refine ⟨_, pss_one (ps_ret (pe_cmpR op_eq (pe_bm PySem.F.plainAttrs_str PySem.F.slot_str_lstrip PySem.F.type_str_lstrip mt_lstripChars (pv 0) (pa_cons (pv 1) pa_nil)) pe_str (nomark _))), ?_⟩
    refine ⟨.str x, rfl, rfl, .str y, rfl, x, y, rfl, rfl, hl, rfl, ?_⟩
    show Q (.bl (decide (V.str (Txt.lstripChars x y) = V.str ""))) H
    rw [lstrip_empty]
    exact q
theorem scPfx : FnScope ["thing", "width"] ["thing", "width"] (defScope sPfx) := ⟨rfl, rfl, rfl, by decide +kernel, rfl, by decide +kernel, by decide +kernel⟩
theorem ok_pfx {f fH : Addr} {fd fdH : FuncData} {k : Nat} (F : Fun K "is_prefix" "is_prefix" sPfx f fd) (FH : Fun K "has_only" "has_only" sHas fH fdH) (bH : Binds K fdH ["text", "signs"] []) (gH : mg "has_only" = some (.ref fH))
    (mi : mg "isinstance" = none) (ms : mg "str" = none) (ml : mg "len" = none) : FnOk P w K mg base CX0 (k + 2) f fd ["thing", "width"] (spPfx K) := by
  have GH : FnOk P w K mg base CX0 (k + 1) fH fdH ["text", "signs"] spHas := ok_has FH
  refine F.ok scPfx (fun vs H Q E h => ?_) (fun cdv A outer s H vs Q E hr h => ?_)
  · obtain ⟨v, w, rfl, _⟩ := h
    rfl
  · obtain ⟨v, w, rfl, ⟨t, ty, kt⟩, hl, q⟩ := h
    refine ⟨_, pss_one (ps_ret (pe_and (pe_callB call_isi (by rfl) mi (by decide +kernel) (pa_cons (pv 0) (pa_cons (pe_bltn (v := .ty "str") (by rfl) ms (by decide +kernel) rfl) pa_nil)))
      (pe_and (pe_cmpR op_le (pe_callB call_len_str (by rfl) ml PySem.boot_len (pa_cons (pv 0) pa_nil)) (pv 1) (nomark _))
        (pe_one (pe_call GH hr (by rfl) gH FH.kp bH .nil pass0 (pa_cons (pv 0) (pa_cons pe_str pa_nil))))))), ?_⟩
    refine ⟨v, rfl, v, .ty "str", .type t, .type "str", _, rfl, .ty _, ty, kt, _, rfl, ?_⟩
    cases v with
    | str x =>
      refine iteT ?_
      have hx := hl x rfl
      refine ⟨.str x, rfl, x, rfl, hx, .int w, rfl, _, _, rfl, rfl, _, rfl, ?_⟩
      by_cases hw : (x.length : Int) ≤ w
      · rw [decide_eq_true hw]
        refine iteT ⟨.str x, rfl, x, _, rfl, hx, ?_⟩
        have e : isPfx (.str x) w = isBits x := by
          show (decide ((x.length : Int) ≤ w) && isBits x) = isBits x
          rw [decide_eq_true hw, Bool.true_and]
        rw [e] at q
        exact q
      · rw [decide_eq_false hw]
        refine iteF ?_
        have e : isPfx (.str x) w = false := by
          show (decide ((x.length : Int) ≤ w) && isBits x) = false
          rw [decide_eq_false hw, Bool.false_and]
        rw [e] at q
        exact q
    | _ => exact iteF q
end
section
variable {P : Program} {w : World} {K : PySem.W.Frag} {mg : Str → Option Value} {base : Heap}
theorem scBits : FnScope ["pen", "size", "turn"] ["pen", "size"] (defScope sBits) := ⟨rfl, rfl, rfl, by decide +kernel, rfl, by decide +kernel, by decide +kernel⟩
theorem ok_bits {f fD : Addr} {fd fdD : FuncData} {k : Nat} (F : Fun K "_law_bits" "_law_bits" sBits f fd) (GD : FnOk P w K mg base CX0 k fD fdD ["pen", "below"] spDraw) (FD : Fun K "_law_draw" "_law_draw" sDraw fD fdD) (bD : Binds K fdD ["pen", "below"] []) (gD : mg "_law_draw" = some (.ref fD))
    (mr : mg "range" = none) : FnOk P w K mg base CX0 (k + 1) f fd ["pen", "size"] spBits := by
  refine F.ok scBits (fun vs H Q E h => ?_) (fun cdv A outer s H vs Q E hr h => ?_)
  · obtain ⟨p, c, n, z, m, rfl, _⟩ := h
    rfl
  · obtain ⟨p, c, n, z, m, rfl, hp, hn, hz, q⟩ := h
    have nd := scBits.nd
    have hnB : n + 100 ≤ 1000000000000 := hn
    refine ⟨_, pss_one (ps_ret (pe_join pe_str (pe_lc (own := [("turn", 2)]) (g := gName 2) (tt := tYes) rfl nd
      (pi_range1 (by rfl) mr (pa_cons (pe_call GD hr (by rfl) gD FD.kp bD .nil pass0 (pa_cons (pv 0) (pa_cons (pe_op op_add (pv 1) pe_int) pa_nil))) pa_nil))
      (blkOk_by (N := ["pen", "size", "turn"]) (sc := defScope sBits) (by decide +kernel)) (fun _ _ _ _ _ => pg_name (i := 2) nd rfl (.inl rfl)) (fun _ _ _ _ _ => pts_nil)
      (fun _ _ _ _ _ => pe_ix (r := rIxS) ix_str pe_str (pe_call GD hr (by rfl) gD FD.kp bD .nil pass0 (pa_cons (pv 0) (pa_cons pe_int pa_nil))) (fun _ _ => rfl))))), ?_⟩
    refine ⟨⟨_, rfl⟩, .ref p, rfl, .int z, rfl, _, _, rfl, rfl, p, c, n, m, (z : Int) + 1, rfl, hp, by show n ≤ 1000000000000; omega, by omega, by omega, fun d H1 d0 d1 b1 p1 => ?_⟩
    refine ⟨d, rfl, by omega, by omega, fun D nD => lc_range (n := d.toNat) (fun j H' => ∃ ys : List Str, H' D = some (.lst (ys.map V.str)) ∧ ys.length = j ∧ (∀ y ∈ ys, y = "0" ∨ y = "1") ∧ But p H H' ∧ Pen H' p c (n + 1 + j) m) ?_ ?_ ?_⟩
    · exact ⟨[], upd_same, rfl, fun _ h => absurd h List.not_mem_nil, b1.trans (.of_same (same_upd nD)), p1.off (p1.ne_p nD) (p1.ne_c nD)⟩
    · rintro j H' hj ⟨ys, hD, hy, hys, bH, pj⟩
      refine ⟨rfl, yes_if ?_⟩
      refine ⟨.ref p, rfl, p, c, n + 1 + j, m, 2, rfl, pj, by show n + 1 + j ≤ 1000000000000; omega, by decide, by decide, fun e H'' e0 e1 b p' => ?_⟩
      have hb : ∃ ch, atI (sg "01") e = some ch ∧ ((⟨#[ch]⟩ : Str) = "0" ∨ (⟨#[ch]⟩ : Str) = "1") := by
        obtain rfl | rfl : e = 0 ∨ e = 1 := by omega
        · exact ⟨48, by decide +kernel, .inl (by decide +kernel)⟩
        · exact ⟨49, by decide +kernel, .inr (by decide +kernel)⟩
      obtain ⟨ch, hch, hc⟩ := hb
      refine ⟨"01", e, ch, rfl, rfl, by decide +kernel, hch, _, b D _ (p1.ne_p nD) hD, ?_, ys ++ [⟨#[ch]⟩], ?_, ?_, ?_, ?_, p'.off (p1.ne_p nD) (p1.ne_c nD)⟩
      · exact Nat.lt_of_le_of_lt (show (ys.map V.str).length ≤ 1000 by rw [List.length_map]; omega) (by decide)
      · rw [upd_same, List.map_append]
        rfl
      · rw [List.length_append, hy]
        rfl
      · intro y hy
        rcases List.mem_append.mp hy with hy | hy
        · exact hys y hy
        · rw [List.mem_singleton.mp hy]
          exact hc
      · intro a o na ha
        have naD : a ≠ D := fun e => by
          rw [e, b1.free (p1.ne_p nD) nD] at ha
          cases ha
        rw [upd_ne naD]
        exact b a o na (bH a o na ha)
    · rintro H' ⟨ys, hD, hy, hys, bH, pj⟩
      have s1 : ∀ y ∈ ys, Sm 1 y := fun y h => by
        rcases hys y h with e | e <;> (rw [e]; exact ⟨by decide +kernel, by decide +kernel⟩)
      refine ⟨"", D, ys, rfl, rfl, .inl (SqL.of hD), ?_, ?_⟩
      · have := sum_ones s1
        have e : ((("" : String) : Str)).length = 0 := by decide +kernel
        rw [e]
        omega
      refine q _ H' bH (pj.mono (by omega)) (bits_iff.mpr fun ch hc => ?_) (Nat.le_trans (Sm.join s1).ln (by omega))
      rw [sg_join] at hc
      obtain ⟨l, hl, hc⟩ := List.mem_flatten.mp hc
      obtain ⟨y, hy, rfl⟩ := List.mem_map.mp hl
      rcases hys y hy with e | e
      · rw [e, show sg "0" = [48] by decide +kernel] at hc
        exact .inl (List.mem_singleton.mp hc)
      · rw [e, show sg "1" = [49] by decide +kernel] at hc
        exact .inr (List.mem_singleton.mp hc)
end
/-! ### is_whole, is_width -/
def spWhole (K : PySem.W.Frag) : Sp := fun vs H Q _ => ∃ v t, vs = [v] ∧ TyI K H v t ∧ Q (.bl (isWholeV v)) H
def spWidth_ (K : PySem.W.Frag) : Sp := fun vs H Q _ => ∃ v t, vs = [v] ∧ TyI K H v t ∧ Q (.bl (isWidthV v)) H
section
variable {P : Program} {w : World} {K : PySem.W.Frag} {mg : Str → Option Value} {base : Heap}
theorem scWhole : FnScope ["thing"] ["thing"] (defScope sWhole) := ⟨rfl, rfl, rfl, by decide +kernel, rfl, by decide +kernel, by decide +kernel⟩
theorem ok_whole {f : Addr} {fd : FuncData} {k : Nat} (F : Fun K "is_whole" "is_whole" sWhole f fd) (mi : mg "isinstance" = none) (mn : mg "int" = none) (mb : mg "bool" = none) : FnOk P w K mg base CX0 (k + 1) f fd ["thing"] (spWhole K) := by
  refine F.ok scWhole (fun vs H Q E h => ?_) (fun cdv A outer s H vs Q E hr h => ?_)
  · obtain ⟨v, t, rfl, _⟩ := h
    rfl
  · obtain ⟨v, t, rfl, ty, q⟩ := h
    refine ⟨_, pss_one (ps_ret (pe_and (pe_callB call_isi (by rfl) mi (by decide +kernel) (pa_cons (pv 0) (pa_cons (pe_bltn (v := .ty "int") (by rfl) mn (by decide +kernel) rfl) pa_nil)))
      (pe_one (pe_not (pe_callB call_isi (by rfl) mi (by decide +kernel) (pa_cons (pv 0) (pa_cons (pe_bltn (v := .ty "bool") (by rfl) mb (by decide +kernel) rfl) pa_nil))))))), ?_⟩
    refine ⟨v, rfl, v, .ty "int", .type t, .type "int", _, rfl, .ty _, ty.ty, ty.int, _, rfl, ?_⟩
    have two : Q (.bl (isWholeV v)) H → isIntish v = true → (!isBoolV v) = isWholeV v := fun _ h => by cases v <;> first | rfl | cases h
    cases e : isIntish v with
    | true =>
      refine iteT ⟨v, rfl, v, .ty "bool", .type t, .type "bool", _, rfl, .ty _, ty.ty, ty.bool, _, rfl, ?_⟩
      rw [two q e]
      exact q
    | false =>
      refine iteF ?_
      have e2 : isWholeV v = false := by cases v <;> first | rfl | cases e
      rw [e2] at q
      exact q
end
/-- the same rows, in ascending order -/
structure Sorted (xs : List Str) (kvs kvs' : List (Key × V)) (ys : List Str) : Prop where
  keys : kvs'.map (·.1) = ys.map Sum.inr
  perm : ys.Perm xs
  up : sortedS ys = true
  val : ∀ y ∈ xs, valV kvs' (.inr y) = valV kvs (.inr y)
/-! ### ascending texts: one order alone -/
def LeS (a b : Str) : Prop := sg a ≤ sg b
theorem leS_trans {a b c : Str} (h : LeS a b) (h' : LeS b c) : LeS a c := List.le_trans h h'
theorem leS_anti {a b : Str} (h : LeS a b) (h' : LeS b a) : a = b := str_ext (List.le_antisymm h h')
theorem rise_pw : ∀ (l : List Str) (p : Str), risingS p l = true → (p :: l).Pairwise LeS
  | [], p, _ => List.pairwise_cons.mpr ⟨fun _ h => absurd h List.not_mem_nil, List.Pairwise.nil⟩
  | x :: r, p, h => by
    have h2 : (!ltCps (sg x) (sg p) && risingS x r) = true := h
    rw [Bool.and_eq_true, ltCps_eq] at h2
    have ih := rise_pw r x h2.2
    have hx : LeS p x := by
      have z : ¬ (sg x < sg p) := by
        have := h2.1
        simpa using this
      exact List.not_lt.mp z
    refine List.pairwise_cons.mpr ⟨fun y hy => ?_, ih⟩
    rcases List.mem_cons.mp hy with rfl | hy
    · exact hx
    · exact leS_trans hx ((List.pairwise_cons.mp ih).1 y hy)
theorem up_pw {l : List Str} (h : sortedS l = true) : l.Pairwise LeS := by
  cases l with
  | nil => exact List.Pairwise.nil
  | cons x r => exact rise_pw r x h
theorem up_uniq {l l' : List Str} (p : l.Perm l') (h : sortedS l = true) (h' : sortedS l' = true) : l = l' :=
  List.Perm.eq_of_pairwise (le := LeS) (fun a b _ _ q q' => leS_anti q q') (up_pw h) (up_pw h') p
theorem kv_ext {k1 k2 : List (Key × V)} (e : k1.map (·.1) = k2.map (·.1)) (nd : (k1.map (·.1)).Nodup) (v : ∀ k ∈ k1.map (·.1), valV k1 k = valV k2 k) : k1 = k2 := by
  have el : k1.length = k2.length := by
    have := congrArg List.length e
    rw [List.length_map, List.length_map] at this
    exact this
  refine List.ext_getElem el fun i h1 h2 => ?_
  have e1 : (k1[i]).1 = (k2[i]).1 := by
    have a1 : (k1.map (·.1))[i]? = some (k1[i]).1 := by rw [List.getElem?_map, List.getElem?_eq_getElem h1]; rfl
    have a2 : (k2.map (·.1))[i]? = some (k2[i]).1 := by rw [List.getElem?_map, List.getElem?_eq_getElem h2]; rfl
    rw [e, a2] at a1
    exact (Option.some.inj a1).symm
  have v1 := valV_some nd (k := (k1[i]).1) (v := (k1[i]).2) (List.getElem_mem h1)
  have v2 := valV_some (e ▸ nd) (k := (k2[i]).1) (v := (k2[i]).2) (List.getElem_mem h2)
  have v3 := v _ (List.mem_map.mpr ⟨_, List.getElem_mem h1, rfl⟩)
  have e2 : (k1[i]).2 = (k2[i]).2 := by
    rw [v1, e1, v2] at v3
    exact Option.some.inj v3
  exact Prod.ext e1 e2
theorem Sorted.uniq {xs ys1 ys2 : List Str} {kvs k1 k2 : List (Key × V)} (nd : xs.Nodup) (h1 : Sorted xs kvs k1 ys1) (h2 : Sorted xs kvs k2 ys2) : k1 = k2 := by
  have e : ys1 = ys2 := up_uniq (h1.perm.trans h2.perm.symm) h1.up h2.up
  refine kv_ext (by rw [h1.keys, h2.keys, e]) ?_ fun k hk => ?_
  · rw [h1.keys]
    exact (h1.perm.nodup_iff.mpr nd).map Sum.inr (fun a b h e => h (Sum.inr.inj e))
  · rw [h1.keys] at hk
    obtain ⟨y, hy, rfl⟩ := List.mem_map.mp hk
    have hx := h1.perm.mem_iff.mp hy
    rw [h1.val y hx, h2.val y hx]
/-! ### how tables show -/
/-- a def with keyword-only defaults, that no exception leaves -/
theorem okD {P : Program} {w : World} {K : PySem.W.Frag} {mg : Str → Option Value} {base : Heap} {x qual : Str} {params : Arguments} {body : List Stmt} {scope : Scope} {dvs : List V} {kws : List (Str × V)} {f : Addr} {fd : FuncData} {N ps : List Str} {k : Nat} {sp : Sp} (F : FunD K x qual params body scope dvs kws f fd) (S : FnScope N ps scope) (len : ∀ vs H Q E, sp vs H Q E → vs.length = ps.length)
    (hbody : ∀ (cdv : Value) (A : Around) (outer : List Env) (s : Shared) (H : Hp) (vs : List V) (Q : VK) (E : XK), Room k (A.deeper (envOfC qual scope s.heap.objs.size f cdv)) → sp vs H Q E →
      ∃ t, PSs (cxOf CX0 P w K mg base N qual scope f cdv A outer s H E).nox body t ∧ t { nx := fun _ H' => Q .non H', rt := Q } (start N vs) H) : FnOk P w K mg base CX0 (k + 1) f fd ps sp :=
  F.ok S len fun cdv A outer s H vs Q E hr hsp => by
    obtain ⟨t, h, q⟩ := hbody cdv A outer s H vs Q E hr hsp
    exact ⟨t, h.nox, q⟩
/-! ### the rows put into ascending order, one by one -/
structure KeptAt (kvs : List (Key × V)) (ys : List Str) (i : Nat) (kvs' : List (Key × V)) : Prop where
  keys : kvs'.map (·.1) = (ys.take i).map Sum.inr
  val : ∀ y v, (Sum.inr y, v) ∈ kvs' → valV kvs (.inr y) = some v
theorem KeptAt.nil {kvs : List (Key × V)} {ys : List Str} : KeptAt kvs ys 0 [] := ⟨rfl, fun _ _ h => (List.not_mem_nil h).elim⟩
theorem KeptAt.len {kvs kvs' : List (Key × V)} {ys : List Str} {i : Nat} (h : KeptAt kvs ys i kvs') : kvs'.length ≤ ys.length := by
  have : kvs'.length = ((ys.take i).map Sum.inr : List Key).length := by rw [← h.keys, List.length_map]
  rw [List.length_map, List.length_take] at this
  omega
theorem KeptAt.new {kvs kvs' : List (Key × V)} {ys : List Str} {i : Nat} (h : KeptAt kvs ys i kvs') (nd : ys.Nodup) (hi : i < ys.length) : (Sum.inr ys[i] : Key) ∉ kvs'.map (·.1) := by
  rw [h.keys, List.mem_map]
  rintro ⟨z, hz, e⟩
  obtain ⟨j, hj, ej⟩ := List.mem_take_iff_getElem.mp hz
  have e2 : ys[j]'(by omega) = ys[i] := by rw [ej]; exact Sum.inr.inj e
  have := (List.getElem_inj nd).mp e2
  omega
theorem KeptAt.snoc {kvs kvs' : List (Key × V)} {ys : List Str} {i : Nat} {v : V} (h : KeptAt kvs ys i kvs') (hi : i < ys.length) (hv : valV kvs (.inr ys[i]) = some v) : KeptAt kvs ys (i + 1) (kvs' ++ [(.inr ys[i], v)]) := by
  refine ⟨?_, fun y v' hm => ?_⟩
  · rw [List.map_append, h.keys, List.take_add_one, List.getElem?_eq_getElem hi, List.map_append]
    rfl
  · rcases List.mem_append.mp hm with hm | hm
    · exact h.val y v' hm
    · cases List.mem_singleton.mp hm
      exact hv
theorem KeptAt.put {kvs kvs' : List (Key × V)} {ys : List Str} {i : Nat} {v : V} (h : KeptAt kvs ys i kvs') (nd : ys.Nodup) (hi : i < ys.length) (hv : valV kvs (.inr ys[i]) = some v) : KeptAt kvs ys (i + 1) (putK kvs' (.inr ys[i]) v) := by
  rw [putK_end (h.new nd hi)]
  exact h.snoc hi hv
theorem KeptAt.done {kvs kvs' : List (Key × V)} {xs ys : List Str} {n : Nat} (h : KeptAt kvs ys n kvs') (hn : ys.length ≤ n) (perm : ys.Perm xs) (nd : xs.Nodup) (up : sortedS ys = true) : Sorted xs kvs kvs' ys := by
  have hk : kvs'.map (·.1) = ys.map Sum.inr := by rw [h.keys, List.take_of_length_le hn]
  have kn' : (kvs'.map (·.1)).Nodup := by
    rw [hk]
    exact (perm.nodup_iff.mpr nd).map Sum.inr (fun a b h e => h (Sum.inr.inj e))
  refine ⟨hk, perm, up, fun y hy => ?_⟩
  have hm : (Sum.inr y : Key) ∈ kvs'.map (·.1) := (inr_mem hk _).mpr (perm.mem_iff.mpr hy)
  obtain ⟨p, hp, e⟩ := List.mem_map.mp hm
  obtain ⟨k', v⟩ := p
  have e' : k' = Sum.inr y := e
  subst e'
  rw [valV_some kn' hp, h.val y v hp]
/-- the value of a row that is there -/
theorem val_at {kvs : List (Key × V)} {xs : List Str} (hk : kvs.map (·.1) = xs.map Sum.inr) {y : Str} (hy : y ∈ xs) : ∃ v, valV kvs (.inr y) = some v ∧ (Sum.inr y, v) ∈ kvs := by
  have hkm : (Sum.inr y : Key) ∈ kvs.map (·.1) := (inr_mem hk _).mpr hy
  obtain ⟨v, hval⟩ := Option.isSome_iff_exists.mp (valV_mem.mpr hkm)
  refine ⟨v, hval, ?_⟩
  unfold valV at hval
  obtain ⟨p, hp, e⟩ := Option.map_eq_some_iff.mp hval
  have h1 := List.mem_of_find?_eq_some hp
  have h2 : p.1 = Sum.inr y := by
    have z := List.find?_some hp
    exact of_decide_eq_true z
  rw [← h2, ← e]
  exact h1
theorem upd_free2 {H : Hp} {a b e : Addr} {o u : HO} (h : upd (upd H a o) b u e = none) : e ≠ b ∧ e ≠ a ∧ H e = none := by
  obtain ⟨h1, h2⟩ := upd_free h
  obtain ⟨h3, h4⟩ := upd_free h2
  exact ⟨h1, h3, h4⟩

/-! ### prices -/
def isPriceV : V → Bool
  | .int z => decide ((1 : Int) ≤ z) && decide (z ≤ 999)
  | _ => false
def spPrice (K : PySem.W.Frag) : Sp := fun vs H Q _ => ∃ v t, vs = [v] ∧ TyI K H v t ∧ Q (.bl (isPriceV v)) H
theorem price_is {z : Int} (h1 : 1 ≤ z) (h2 : z ≤ 999) : isPriceV (.int z) = true := by
  show (decide ((1 : Int) ≤ z) && decide (z ≤ 999)) = true
  rw [decide_eq_true h1, decide_eq_true h2]
  rfl
/-- a price of a row of its own, or locked -/
def ownV : V → Prop
  | .non => True
  | .int z => 1 ≤ z ∧ z ≤ 999
  | _ => False
def pflds (a c r : Int) (e : Addr) : List (Str × V) := putF "_single" (.ref e) (putF "_removing" (.int r) (putF "_changing" (.int c) (putF "_adding" (.int a) [])))
theorem pf_a (a c r : Int) (e : Addr) : (pflds a c r e).lookup ("_adding" : Str) = some (.int a) := by
  unfold pflds
  rw [lookup_putF, if_neg (by decide +kernel), lookup_putF, if_neg (by decide +kernel), lookup_putF, if_neg (by decide +kernel), lookup_putF, if_pos rfl]
theorem pf_c (a c r : Int) (e : Addr) : (pflds a c r e).lookup ("_changing" : Str) = some (.int c) := by
  unfold pflds
  rw [lookup_putF, if_neg (by decide +kernel), lookup_putF, if_neg (by decide +kernel), lookup_putF, if_pos rfl]
theorem pf_r (a c r : Int) (e : Addr) : (pflds a c r e).lookup ("_removing" : Str) = some (.int r) := by
  unfold pflds
  rw [lookup_putF, if_neg (by decide +kernel), lookup_putF, if_pos rfl]
theorem pf_s (a c r : Int) (e : Addr) : (pflds a c r e).lookup ("_single" : Str) = some (.ref e) := by
  unfold pflds
  rw [lookup_putF, if_pos rfl]
theorem pf_no (a c r : Int) (e : Addr) {m : Str} (h1 : ¬ m = "_single") (h2 : ¬ m = "_removing") (h3 : ¬ m = "_changing") (h4 : ¬ m = "_adding") : (pflds a c r e).lookup m = none := by
  unfold pflds
  rw [lookup_putF, if_neg h1, lookup_putF, if_neg h2, lookup_putF, if_neg h3, lookup_putF, if_neg h4]
  rfl
theorem pf_put (a c r : Int) (e e2 : Addr) : putF "_single" (.ref e2) (pflds a c r e) = pflds a c r e2 := by
  unfold pflds
  rfl
structure PriceAt (C : Addr) (H : Hp) (x e : Addr) (a c r : Int) (kvs : List (Key × V)) : Prop where
  ob : ∃ dx, H x = some (.ins C dx (pflds a c r e))
  dc : H e = some (.dK kvs)
theorem PriceAt.same {C : Addr} {H H' : Hp} {x e : Addr} {a c r : Int} {kvs : List (Key × V)} (k : Same H H') (h : PriceAt C H x e a c r kvs) : PriceAt C H' x e a c r kvs := by
  obtain ⟨⟨dx, h1⟩, h2⟩ := h
  exact ⟨⟨dx, k _ _ h1⟩, k _ _ h2⟩
def okP (z : Int) : Prop := 1 ≤ z ∧ z ≤ 999
def spPInit (C : Addr) : Sp := fun vs H Q _ => ∃ (x dx : Addr) (a c r : Int), vs = [.ref x, .int a, .int c, .int r] ∧ H x = some (.ins C dx []) ∧ okP a ∧ okP c ∧ okP r ∧
  ∀ (e : Addr) (H' : Hp), H e = none → PriceAt C H' x e a c r [] → (∀ b o, H b = some o → b ≠ x → H' b = some o) → Q .non H'
def spPInt (C : Addr) (pick : Int → Int → Int → Int) : Sp := fun vs H Q _ => ∃ (x e : Addr) (a c r : Int) (kvs : List (Key × V)), vs = [.ref x] ∧ PriceAt C H x e a c r kvs ∧ Q (.int (pick a c r)) H
def spPSingle (C : Addr) : Sp := fun vs H Q _ => ∃ (x e : Addr) (a c r : Int) (kvs : List (Key × V)), vs = [.ref x] ∧ PriceAt C H x e a c r kvs ∧ ∀ d, H d = none → Q (.ref d) (upd H d (.dK kvs))
/-- new prices -/
def MadeP (C : Addr) (a c r : Int) (xs : List Str) (kvs : List (Key × V)) (H : Hp) (Q : VK) : Prop := ∀ (x e : Addr) (ys : List Str) (kvs' : List (Key × V)) (H' : Hp), H x = none → H e = none → Same H H' → Sorted xs kvs kvs' ys → PriceAt C H' x e a c r kvs' → Q (.ref x) H'
def spPWith (C : Addr) : Sp := fun vs H Q _ => ∃ (x e : Addr) (a c r : Int) (xs : List Str) (kvs : List (Key × V)) (y : Str) (v : V), vs = [.ref x, .str y, v] ∧ PriceAt C H x e a c r kvs ∧ okP a ∧ okP c ∧ okP r ∧ RowsOk 32 ownV xs kvs ∧ isBits y = true ∧ y.length ≤ 32 ∧ ownV v ∧ xs.length < 60 ∧
  ∀ xs2, RowsOk 32 ownV xs2 (putK kvs (.inr y) v) → (∀ z, z ∈ xs2 ↔ z = y ∨ z ∈ xs) → xs2.length ≤ xs.length + 1 → MadeP C a c r xs2 (putK kvs (.inr y) v) H Q
theorem keys_put {kvs : List (Key × V)} {k0 : Key} {v : V} (k : Key) : k ∈ (putK kvs k0 v).map (·.1) ↔ k = k0 ∨ k ∈ kvs.map (·.1) := by
  by_cases hm : k0 ∈ kvs.map (·.1)
  · have e : (putK kvs k0 v).map (·.1) = kvs.map (·.1) := by
      unfold putK
      rw [if_pos (by obtain ⟨p, hp, e⟩ := List.mem_map.mp hm; exact List.any_eq_true.mpr ⟨p, hp, decide_eq_true e⟩), List.map_map]
      refine List.map_congr_left fun p _ => ?_
      show (if p.1 = k0 then (p.1, v) else p).1 = p.1
      split <;> rfl
    rw [e]
    exact ⟨.inr, fun h => h.elim (fun q => q ▸ hm) id⟩
  · rw [putK_end hm, List.map_append, List.mem_append]
    exact ⟨fun h => h.elim .inr fun q => .inl (List.mem_singleton.mp q), fun h => h.elim (fun q => .inr (List.mem_singleton.mpr q)) .inl⟩
theorem RowsOk.acc {w : Nat} {vok : V → Prop} {xs : List Str} {kvs : List (Key × V)} (h : RowsOk w vok xs kvs) : RowsAcc w vok kvs := by
  refine ⟨by rw [h.keys]; exact h.pfx.nd.map Sum.inr (fun a b h e => h (Sum.inr.inj e)), fun kv hk => ?_⟩
  have hkey : kv.1 ∈ xs.map Sum.inr := by
    rw [← h.keys]
    exact List.mem_map.mpr ⟨kv, hk, rfl⟩
  obtain ⟨y, hy, ey⟩ := List.mem_map.mp hkey
  exact ⟨y, ey.symm, h.pfx.bits y hy, h.pfx.len y hy, h.val kv hk⟩
theorem RowsOk.put {w : Nat} {vok : V → Prop} {xs : List Str} {kvs : List (Key × V)} (h : RowsOk w vok xs kvs) {y : Str} {v : V} (hb : isBits y = true) (hl : y.length ≤ w) (hv : vok v) :
    ∃ xs2, RowsOk w vok xs2 (putK kvs (.inr y) v) ∧ (∀ z, z ∈ xs2 ↔ z = y ∨ z ∈ xs) ∧ xs2.length ≤ xs.length + 1 := by
  obtain ⟨xs2, ok2, l2⟩ := (h.acc.put hb hl hv).ok
  refine ⟨xs2, ok2, fun z => ?_, ?_⟩
  · rw [← inr_mem ok2.keys z, keys_put, inr_mem h.keys z]
    exact ⟨fun q => q.imp Sum.inr.inj id, fun q => q.imp (congrArg Sum.inr) id⟩
  · have a := length_putK kvs (.inr y) v
    have b : kvs.length = xs.length := by
      have := congrArg List.length h.keys
      rw [List.length_map, List.length_map] at this
      exact this
    omega
abbrev sJ : Stmt := top 11
section
variable {P : Program} {w : World} {K : PySem.W.Frag} {mg : Str → Option Value} {base : Heap}
abbrev NJ : List Str := ["thing"]
theorem scJ : FnScope NJ ["thing"] (defScope sJ) := ⟨rfl, rfl, rfl, by decide +kernel, rfl, by decide +kernel, by decide +kernel⟩
set_option maxHeartbeats 8000000 in
theorem ok_J {f fW : Addr} {fd fdW : FuncData} {k : Nat} {tkY : Tok} (F : Fun K "is_price" "is_price" sJ f fd)
    (wY : mg "HIGHEST_PRICE" = some (.int 999 tkY))
    (GW : FnOk P w K mg base CX0 k fW fdW ["thing"] (spWhole K))
    (FW : Fun K "is_whole" "is_whole" sW fW fdW) (bW : Binds K fdW ["thing"] []) (gW : mg "is_whole" = some (.ref fW))
    : FnOk P w K mg base CX0 (k + 1) f fd ["thing"] (spPrice K) := by
  refine F.ok scJ (fun vs H Q E h => ?_) (fun cdv A outer s H vs Q E hr h => ?_)
  · obtain ⟨v, t, rfl, _⟩ := h
    rfl
  · obtain ⟨v, t, rfl, ty, q⟩ := h
    have nd := scJ.nd
    have hu := hr.units
    have hu1 := hu_of hr
    have hr1 := hr
    refine ⟨_, pss_one (ps_ret (pe_and (pe_call GW hr1 (by rfl) gW FW.kp bW .nil pass0 (pa_cons (pv 0) pa_nil)) (pe_one (pe_chain op_le op_le pe_int (pv 0) (pe_glob (v := .int 999) rfl wY ⟨_, rfl⟩))))), ?_⟩
    refine ⟨v, rfl, v, t, rfl, ty, _, rfl, ?_⟩
    cases v with
    | int z =>
      refine iteT ⟨.int z, rfl, _, _, rfl, rfl, _, rfl, ?_⟩
      have q' : Q (.bl (decide ((1 : Int) ≤ z) && decide (z ≤ 999))) H := q
      by_cases h1 : (1 : Int) ≤ z
      · rw [decide_eq_true h1] at q' ⊢
        rw [Bool.true_and] at q'
        exact iteT ⟨_, _, rfl, rfl, q'⟩
      · rw [decide_eq_false h1] at q' ⊢
        rw [Bool.false_and] at q'
        exact iteF q'
    | _ => exact iteF q
end
abbrev sU : Stmt := inClass (top 12) 0
section
variable {P : Program} {w : World} {K : PySem.W.Frag} {mg : Str → Option Value} {base : Heap}
abbrev NU : List Str := ["self", "adding", "changing", "removing", "price"]
theorem scU : FnScope NU ["self", "adding", "changing", "removing"] (defScope sU) := ⟨rfl, rfl, rfl, by decide +kernel, rfl, by decide +kernel, by decide +kernel⟩
set_option maxHeartbeats 8000000 in
theorem ok_U {f fJ CC : Addr} {fd fdJ : FuncData} {k : Nat} (F : FunD K "__init__" "Prices.__init__" (defArgs sU) (defBody sU) (defScope sU) [] [("adding", .int 1), ("changing", .int 1), ("removing", .int 1)] f fd)
    (GJ : FnOk P w K mg base CX0 k fJ fdJ ["thing"] (spPrice K))
    (FJ : Fun K "is_price" "is_price" sJ fJ fdJ) (bJ : Binds K fdJ ["thing"] []) (gJ : mg "is_price" = some (.ref fJ))
    (clC : Cls K CC)
    (nC_adding : NoAttr K CC "_adding")
    (nC_changing : NoAttr K CC "_changing")
    (nC_removing : NoAttr K CC "_removing")
    (nC_single : NoAttr K CC "_single")
    : FnOk P w K mg base CX0 (k + 1) f fd ["self", "adding", "changing", "removing"] (spPInit CC) := by
  refine okD F scU (fun vs H Q E h => ?_) (fun cdv A outer s H vs Q E hr h => ?_)
  · obtain ⟨x, dx, a, c, r, rfl, _⟩ := h
    rfl
  · obtain ⟨x, dx, a, c, r, rfl, hx, ha, hc, hr_, q⟩ := h
    have nd := scU.nd
    have hu := hr.units
    have hu1 := hu_of hr
    have hr1 := hr
    refine ⟨_, pss_cons (ps_for PassesOwn.never rfl (pi_tup (pe_tup (pa_cons (pv 1) (pa_cons (pv 2) (pa_cons (pv 3) pa_nil))))) (pg_name (i := 4) nd rfl (.inl rfl))
        (pss_one (ps_if (pt_not (pt_val (pe_call GJ hr1 (by rfl) gJ FJ.kp bJ .nil pass0 (pa_cons (pv 4) pa_nil))))
          (pss_one ps_never) pss_nil)))
      (pss_cons (ps_fld (pv 0) (pv 1) rfl)
      (pss_cons (ps_fld (pv 0) (pv 2) rfl)
      (pss_cons (ps_fld (pv 0) (pv 3) rfl)
      (pss_one (ps_fld (pv 0) pe_dnewK rfl))))), ?_⟩
    refine ⟨.int a, rfl, .int c, rfl, .int r, rfl, by show 3 ≤ sizeLine; decide, fun t nt => ?_⟩
    have ht : (upd H t (.tup [.int a, .int c, .int r])) t = some (.tup [.int a, .int c, .int r]) := upd_same
    have s1 := same_upd (o := .tup [.int a, .int c, .int r]) nt
    have hx1 := s1 _ _ hx
    revert ht s1 hx1
    generalize upd H t (.tup [.int a, .int c, .int r]) = H1
    intro ht s1 hx1
    have all : ∀ v ∈ [V.int a, .int c, .int r], ∃ z, v = .int z ∧ okP z := by
      intro v hv
      simp only [List.mem_cons, List.not_mem_nil, or_false] at hv
      rcases hv with rfl | rfl | rfl
      · exact ⟨_, rfl, ha⟩
      · exact ⟨_, rfl, hc⟩
      · exact ⟨_, rfl, hr_⟩
    refine ⟨t, rfl, ⟨_, SqT.of ht⟩, for_tup (K := K) (a := t) (xs := [.int a, .int c, .int r]) (fun _ σ H' => (∃ x4, σ = [some (.ref x), some (.int a), some (.int c), some (.int r), x4]) ∧ H' = H1) ⟨⟨_, rfl⟩, rfl⟩ (fun _ _ _ _ h => by rw [h.2]; exact SqT.of ht) ?_ ?_⟩
    · rintro i v σ H' hv ⟨⟨x4, rfl⟩, rfl⟩
      obtain ⟨z, rfl, hz⟩ := all v (List.mem_of_getElem? hv)
      obtain ⟨tt, ty⟩ := TyI.of (K := K) (H := H') (N := fun _ => True) (.int z)
      refine ⟨.int z, rfl, .int z, tt, rfl, ty, _, rfl, ?_⟩
      rw [price_is hz.1 hz.2]
      exact iteF ⟨⟨_, rfl⟩, rfl⟩
    · rintro σ H' ⟨⟨x4, rfl⟩, rfl⟩
      refine ⟨.int a, rfl, .ref x, rfl, x, CC, dx, _, rfl, hx1, clC, nC_adding, by decide, ?_⟩
      refine ⟨.int c, rfl, .ref x, rfl, x, CC, dx, _, rfl, upd_same, clC, nC_changing, (by show 1 < 1000; decide), ?_⟩
      refine ⟨.int r, rfl, .ref x, rfl, x, CC, dx, _, rfl, upd_same, clC, nC_removing, (by show 2 < 1000; decide), ?_⟩
      intro e ne
      rw [upd_upd, upd_upd] at ne ⊢
      obtain ⟨nex, ne1⟩ := upd_free ne
      refine ⟨.ref x, rfl, x, CC, dx, _, rfl, by rw [upd_ne nex.symm, upd_same], clC, nC_single, (by show 3 < 1000; decide), ?_⟩
      refine q e _ (s1.free ne1) ⟨⟨dx, upd_same⟩, by rw [upd_ne nex, upd_same]⟩ fun b o hb nb => ?_
      have hb1 := s1 _ _ hb
      rw [upd_ne nb, upd_ne (ne_of_none hb1 ne1), upd_ne nb]
      exact hb1
end
abbrev sPa : Stmt := inClass (top 12) 1
section
variable {P : Program} {w : World} {K : PySem.W.Frag} {mg : Str → Option Value} {base : Heap}
abbrev NPa : List Str := ["self"]
theorem scPa : FnScope NPa ["self"] (defScope sPa) := ⟨rfl, rfl, rfl, by decide +kernel, rfl, by decide +kernel, by decide +kernel⟩
set_option maxHeartbeats 8000000 in
theorem ok_Pa {f CC : Addr} {fd : FuncData} {k : Nat} (F : Fun K "adding" "Prices.adding" sPa f fd)
    (clC : Cls K CC)
    (nC_adding : NoAttr K CC "_adding")
    : FnOk P w K mg base CX0 (k + 1) f fd ["self"] (spPInt CC (fun a _ _ => a)) := by
  refine F.ok scPa (fun vs H Q E h => ?_) (fun cdv A outer s H vs Q E hr h => ?_)
  · obtain ⟨x, e, a, c, r, kvs, rfl, _⟩ := h
    rfl
  · obtain ⟨x, e, a, c, r, kvs, rfl, hp, q⟩ := h
    have nd := scPa.nd
    have hu := hr.units
    have hu1 := hu_of hr
    have hr1 := hr
    refine ⟨_, pss_one (ps_ret (pe_fld (pv 0) rfl)), ?_⟩
    obtain ⟨⟨dx, hx⟩, he⟩ := hp
    exact ⟨.ref x, rfl, x, CC, dx, _, _, rfl, hx, clC, nC_adding, pf_a _ _ _ _, q⟩
end
abbrev sPc : Stmt := inClass (top 12) 2
section
variable {P : Program} {w : World} {K : PySem.W.Frag} {mg : Str → Option Value} {base : Heap}
abbrev NPc : List Str := ["self"]
theorem scPc : FnScope NPc ["self"] (defScope sPc) := ⟨rfl, rfl, rfl, by decide +kernel, rfl, by decide +kernel, by decide +kernel⟩
set_option maxHeartbeats 8000000 in
theorem ok_Pc {f CC : Addr} {fd : FuncData} {k : Nat} (F : Fun K "changing" "Prices.changing" sPc f fd)
    (clC : Cls K CC)
    (nC_changing : NoAttr K CC "_changing")
    : FnOk P w K mg base CX0 (k + 1) f fd ["self"] (spPInt CC (fun _ c _ => c)) := by
  refine F.ok scPc (fun vs H Q E h => ?_) (fun cdv A outer s H vs Q E hr h => ?_)
  · obtain ⟨x, e, a, c, r, kvs, rfl, _⟩ := h
    rfl
  · obtain ⟨x, e, a, c, r, kvs, rfl, hp, q⟩ := h
    have nd := scPc.nd
    have hu := hr.units
    have hu1 := hu_of hr
    have hr1 := hr
    refine ⟨_, pss_one (ps_ret (pe_fld (pv 0) rfl)), ?_⟩
    obtain ⟨⟨dx, hx⟩, he⟩ := hp
    exact ⟨.ref x, rfl, x, CC, dx, _, _, rfl, hx, clC, nC_changing, pf_c _ _ _ _, q⟩
end
abbrev sPr : Stmt := inClass (top 12) 3
section
variable {P : Program} {w : World} {K : PySem.W.Frag} {mg : Str → Option Value} {base : Heap}
abbrev NPr : List Str := ["self"]
theorem scPr : FnScope NPr ["self"] (defScope sPr) := ⟨rfl, rfl, rfl, by decide +kernel, rfl, by decide +kernel, by decide +kernel⟩
set_option maxHeartbeats 8000000 in
theorem ok_Pr {f CC : Addr} {fd : FuncData} {k : Nat} (F : Fun K "removing" "Prices.removing" sPr f fd)
    (clC : Cls K CC)
    (nC_removing : NoAttr K CC "_removing")
    : FnOk P w K mg base CX0 (k + 1) f fd ["self"] (spPInt CC (fun _ _ r => r)) := by
  refine F.ok scPr (fun vs H Q E h => ?_) (fun cdv A outer s H vs Q E hr h => ?_)
  · obtain ⟨x, e, a, c, r, kvs, rfl, _⟩ := h
    rfl
  · obtain ⟨x, e, a, c, r, kvs, rfl, hp, q⟩ := h
    have nd := scPr.nd
    have hu := hr.units
    have hu1 := hu_of hr
    have hr1 := hr
    refine ⟨_, pss_one (ps_ret (pe_fld (pv 0) rfl)), ?_⟩
    obtain ⟨⟨dx, hx⟩, he⟩ := hp
    exact ⟨.ref x, rfl, x, CC, dx, _, _, rfl, hx, clC, nC_removing, pf_r _ _ _ _, q⟩
end
abbrev sPs : Stmt := inClass (top 12) 4
section
variable {P : Program} {w : World} {K : PySem.W.Frag} {mg : Str → Option Value} {base : Heap}
abbrev NPs : List Str := ["self"]
theorem scPs : FnScope NPs ["self"] (defScope sPs) := ⟨rfl, rfl, rfl, by decide +kernel, rfl, by decide +kernel, by decide +kernel⟩
set_option maxHeartbeats 8000000 in
theorem ok_Ps {f CC : Addr} {fd : FuncData} {k : Nat} (F : Fun K "single" "Prices.single" sPs f fd)
    (clC : Cls K CC)
    (nC_single : NoAttr K CC "_single")
    (m_dict : mg "dict" = none)
    : FnOk P w K mg base CX0 (k + 1) f fd ["self"] (spPSingle CC) := by
  refine F.ok scPs (fun vs H Q E h => ?_) (fun cdv A outer s H vs Q E hr h => ?_)
  · obtain ⟨x, e, a, c, r, kvs, rfl, _⟩ := h
    rfl
  · obtain ⟨x, e, a, c, r, kvs, rfl, hp, q⟩ := h
    have nd := scPs.nd
    have hu := hr.units
    have hu1 := hu_of hr
    have hr1 := hr
    refine ⟨_, pss_one (ps_ret (pe_callTy call_dictD (by rfl) m_dict (by decide +kernel) (pa_cons (pe_fld (pv 0) rfl) pa_nil))), ?_⟩
    obtain ⟨⟨dx, hx⟩, he⟩ := hp
    exact ⟨.ref x, rfl, x, CC, dx, _, _, rfl, hx, clC, nC_single, pf_s _ _ _ _, e, kvs, rfl, .inl he, q⟩
end
abbrev sV : Stmt := inClass (top 12) 5
section
variable {P : Program} {w : World} {K : PySem.W.Frag} {mg : Str → Option Value} {base : Heap}
abbrev NV : List Str := ["self", "prefix", "price", "single", "made", "row"]
theorem scV : FnScope NV ["self", "prefix", "price"] (defScope sV) := ⟨rfl, rfl, rfl, by decide +kernel, rfl, by decide +kernel, by decide +kernel⟩
set_option maxHeartbeats 8000000 in
theorem ok_V {f fI fJ fU CC : Addr} {fd fdI fdJ fdU : FuncData} {k : Nat} {tkZ : Tok} (F : Fun K "with_row" "Prices.with_row" sV f fd)
    (wZ : mg "WIDEST" = some (.int 32 tkZ))
    (GI : FnOk P w K mg base CX0 k fI fdI ["thing", "width"] (spPfx K))
    (FI : Fun K "is_prefix" "is_prefix" sI fI fdI) (bI : Binds K fdI ["thing", "width"] []) (gI : mg "is_prefix" = some (.ref fI))
    (GJ : FnOk P w K mg base CX0 k fJ fdJ ["thing"] (spPrice K))
    (FJ : Fun K "is_price" "is_price" sJ fJ fdJ) (bJ : Binds K fdJ ["thing"] []) (gJ : mg "is_price" = some (.ref fJ))
    (clC : Cls K CC)
    (nC_single : NoAttr K CC "_single")
    (GU : FnOk P w K mg base CX0 k fU fdU ["self", "adding", "changing", "removing"] (spPInit CC))
    (MC : Mk K CC fU) (gC : mg "Prices" = some (.ref CC))
    (nC_removing : NoAttr K CC "_removing")
    (nC_changing : NoAttr K CC "_changing")
    (nC_adding : NoAttr K CC "_adding")
    {gkbU_adding_changing_removing : List Value → List Value → List Value} (kbU_adding_changing_removing : KBn K fdU ["self", "adding", "changing", "removing"] 1 ["adding", "changing", "removing"] gkbU_adding_changing_removing (fun vs zs => vs ++ zs))
    (m_sorted : mg "sorted" = none)
    : FnOk P w K mg base CX0 (k + 2) f fd ["self", "prefix", "price"] (spPWith CC) := by
  refine F.ok scV (fun vs H Q E h => ?_) (fun cdv A outer s H vs Q E hr h => ?_)
  · obtain ⟨x, e, a, c, r, xs, kvs, y, v, rfl, _⟩ := h
    rfl
  · obtain ⟨x, e, a, c, r, xs, kvs, y, v, rfl, hp, ha, hc, hr_, ok, hb, hy, hv, few, q⟩ := h
    have nd := scV.nd
    have hu := hr.units
    have hu1 := hu_of hr
    have hr1 := hr.mono (Nat.le_succ k)
    refine ⟨_, pss_cons (ps_if (pt_not (pt_val (pe_call GI hr1 (by rfl) gI FI.kp bI .nil pass0 (pa_cons (pv 1) (pa_cons (pe_glob (v := .int 32) rfl wZ ⟨_, rfl⟩) pa_nil)))))
        (pss_one ps_never) pss_nil)
      (C8.pss_cut (ps_if (PW.pt (pw_and (pt_cmpR op_notN (pv 2) pe_non (nomark _)) (pw_and1 (pt_not (pt_val (pe_call GJ hr1 (by rfl) gJ FJ.kp bJ .nil pass0 (pa_cons (pv 2) pa_nil)))))))
        (pss_one ps_never) pss_nil)
      (pss_cons (ps_set (i := 3) nd rfl (.inr rfl) (pe_dst (pe_fld (pv 0) rfl) (pv 1) (pv 2)))
      (pss_cons (ps_set (i := 4) nd rfl (.inl rfl) (pe_makeK0 MC GU hr (by rfl) gC kbU_adding_changing_removing pass0 (pk_cons (pe_fld (pv 0) rfl) (pk_cons (pe_fld (pv 0) rfl) (pk_cons (pe_fld (pv 0) rfl) pk_nil)))))
      (pss_cons (ps_fld (pv 4) (pe_dc (own := [("row", 5)]) (g := gName 5) (tt := tYes) rfl nd (pi_list (pe_callB (call_sortedD rfl) (by rfl) m_sorted (by decide +kernel) (pa_cons (pv 3) pa_nil))) (blkOk_by (N := NV) (sc := defScope sV) (by decide +kernel)) (fun _ _ _ _ _ => pg_name (i := 5) nd rfl (.inl rfl)) (fun _ _ _ _ _ => pts_nil) (fun _ _ _ _ _ => (pv 5)) (fun _ _ _ _ _ => (pe_dget hu1 (pv 3) (pv 5) (fun _ _ => rfl)))) rfl)
      (pss_one (ps_ret (pv 4))))))), ?_⟩
    obtain ⟨⟨dx, hx⟩, he⟩ := hp
    refine ⟨.str y, rfl, .str y, 32, rfl, TyS.of (N := fun _ => True) (.str y), fun z e => by rw [← V.str.inj e]; exact big_of (by omega), _, rfl, ?_⟩
    have ep : isPfx (.str y) (32 : Int) = true := by
      show (decide ((y.length : Int) ≤ 32) && isBits y) = true
      rw [decide_eq_true (by omega), hb]
      rfl
    rw [ep]
    refine iteF ?_
    refine ⟨fun σ H' => σ = start NV [.ref x, .str y, v] ∧ H' = H, ?_, ?_⟩
    · cases v with
      | non => exact ⟨.non, rfl, rfl, _, rfl, iteF ⟨rfl, rfl⟩⟩
      | int z =>
        obtain ⟨tt, ty⟩ := TyI.of (K := K) (H := H) (N := fun _ => True) (.int z)
        refine ⟨.int z, rfl, rfl, _, rfl, iteT ⟨.int z, rfl, .int z, tt, rfl, ty, _, rfl, ?_⟩⟩
        rw [price_is hv.1 hv.2]
        exact iteF ⟨rfl, rfl⟩
      | _ => exact hv.elim
    · rintro σ H' ⟨rfl, rfl⟩
      obtain ⟨xs2, ok2, mem2, len2⟩ := ok.put hb hy hv
      have hkl : kvs.length = xs.length := by
        have := congrArg List.length ok.keys
        rw [List.length_map, List.length_map] at this
        exact this
      intro p np
      have s1 := same_upd (o := .dK []) np
      have ne : e ≠ p := ne_of_none he np
      refine ⟨.ref x, rfl, x, CC, dx, _, _, rfl, s1 _ _ hx, clC, nC_single, pf_s _ _ _ _, e, kvs, rfl, .inl (s1 _ _ he), ne, upd_same, ok.acc.nd, by omega, fun q2 nq => ?_⟩
      rw [upd_upd] at nq ⊢
      obtain ⟨q2p, nq2⟩ := upd_free nq
      refine ⟨.str y, rfl, v, rfl, .inr y, rfl, by rw [upd_ne q2p.symm, upd_same], upd_same, ?_⟩
      have s2 : Same H' (upd (upd (upd (upd H' p (.dK kvs)) q2 (.dK [])) q2 (.dK [(.inr y, v)])) p (.dK (putK kvs (.inr y) v))) := fun b o eb => by
        have bp := ne_of_none eb np
        have bq := ne_of_none eb nq2
        rw [upd_ne bp, upd_ne bq, upd_ne bq, upd_ne bp]
        exact eb
      have hp2 : (upd (upd (upd (upd H' p (.dK kvs)) q2 (.dK [])) q2 (.dK [(.inr y, v)])) p (.dK (putK kvs (.inr y) v))) p = some (.dK (putK kvs (.inr y) v)) := upd_same
      revert s2 hp2
      generalize upd (upd (upd (upd H' p (.dK kvs)) q2 (.dK [])) q2 (.dK [(.inr y, v)])) p (.dK (putK kvs (.inr y) v)) = H2
      intro s2 hp2
      -- the new prices
      refine ⟨.ref x, rfl, x, CC, dx, _, _, rfl, s2 _ _ hx, clC, nC_adding, pf_a _ _ _ _, .ref x, rfl, x, CC, dx, _, _, rfl, s2 _ _ hx, clC, nC_changing, pf_c _ _ _ _, .ref x, rfl, x, CC, dx, _, _, rfl, s2 _ _ hx, clC, nC_removing, pf_r _ _ _ _, rfl, rfl, fun x2 dx2 nx2 ndx2 nex2 => ?_⟩
      refine ⟨x2, dx2, a, c, r, rfl, upd_same, ha, hc, hr_, fun e3 H3 ne3 hp3 keep => ⟨rfl, ?_⟩⟩
      have s3 : Same H2 H3 := Same.made nx2 ndx2 keep
      obtain ⟨⟨dx3, hx3⟩, he3⟩ := hp3
      have hp3 := s3 _ _ hp2
      -- the rows in order
      refine ⟨.ref p, rfl, p, _, xs2, rfl, .inl hp3, ok2.keys, by omega, fun ys l hperm hup nl => ?_⟩
      have hll : (upd H3 l (.lst (ys.map V.str))) l = some (.lst (ys.map V.str)) := upd_same
      have s4 := same_upd (o := .lst (ys.map V.str)) nl
      have hp4 := s4 _ _ hp3
      have hx4 := s4 _ _ hx3
      revert hll s4 hp4 hx4
      generalize upd H3 l (.lst (ys.map V.str)) = H4
      intro hll s4 hp4 hx4
      have ynd : ys.Nodup := hperm.nodup_iff.mpr ok2.pfx.nd
      refine ⟨l, rfl, ⟨_, SqL.of hll⟩, fun G nG => ?_⟩
      refine dc_it walk_list (fun i H' => ∃ kvs', H' G = some (.dK kvs') ∧ KeptAt (putK kvs (.inr y) v) ys i kvs' ∧ ∀ b o, H4 b = some o → H' b = some o) ⟨[], upd_same, .nil, fun b o e => by rw [upd_ne (ne_of_none e nG)]; exact e⟩
        (fun _ H' _ h => by obtain ⟨_, _, _, k⟩ := h; exact SqL.of (k _ _ hll)) ?_ ?_
      · rintro i u H5 H6 hi ⟨kvs', hG, hk, keep⟩ ⟨rfl, hvi⟩
        rw [List.getElem?_map] at hvi
        have hil : i < ys.length := by rw [List.length_map] at hi; exact hi
        rw [List.getElem?_eq_getElem hil] at hvi
        obtain rfl : V.str ys[i] = u := Option.some.inj hvi
        obtain ⟨w, hw, _⟩ := val_at ok2.keys (hperm.mem_iff.mp (List.getElem_mem hil))
        refine ⟨rfl, yes_if ?_⟩
        refine ⟨.str ys[i], rfl, .ref p, rfl, .str ys[i], rfl, p, w, rfl, by rw [← hw]; exact DGet.k (k := .inr ys[i]) (keep _ _ hp4), kvs', .inr ys[i], rfl, hG, ?_, _, upd_same, hk.put ynd hil hw, fun b o e => ?_⟩
        · have := hk.len
          have := hperm.length_eq
          exact Nat.lt_of_le_of_lt (show kvs'.length ≤ 1000 by omega) (by decide)
        · rw [upd_ne (ne_of_none e nG)]
          exact keep b o e
      · rintro H5 ⟨kvs', hG, hk, keep⟩
        refine ⟨.ref x2, rfl, x2, CC, dx3, _, rfl, keep _ _ hx4, clC, nC_single, (by show 4 < 1000; decide), ?_⟩
        refine ⟨.ref x2, rfl, ?_⟩
        have nx3 := s2.free nx2
        have nG3 := (s2.trans (s3.trans s4)).free nG
        have nGx : x2 ≠ G := ne_of_none hx4 nG
        refine q xs2 ok2 mem2 len2 x2 G ys kvs' _ nx3 nG3 (fun b o eb => ?_) (hk.done (by rw [List.length_map]; exact Nat.le_refl _) hperm ok2.pfx.nd hup) ⟨⟨dx3, by rw [upd_same, pf_put]⟩, by rw [upd_ne nGx.symm]; exact hG⟩
        rw [upd_ne (ne_of_none eb nx3)]
        exact keep b o (s4 _ _ (s3 _ _ (s2 _ _ eb)))
end

/-! ### what is shown of prices -/
def ownD : V → PyData
  | .int z => .int z
  | _ => .none
def rowsD (kvs : List (Key × V)) : List (PyData × PyData) := kvs.map fun kv => (keyD kv.1, ownD kv.2)
def shownP (a c r : Int) (kvs : List (Key × V)) : Str := (PyData.list [.int a, .int c, .int r, .dict (rowsD kvs)]).shown
theorem int999 : ∀ n : Fin 1000, (PyData.int (n : Nat)).showable = true ∧ (PyData.int (n : Nat)).shown.length ≤ 300 := by decide +kernel
theorem ok_int {z : Int} (h : okP z) : OkD 0 300 (.int z) := by
  obtain ⟨n, rfl⟩ := Int.eq_ofNat_of_zero_le (show 0 ≤ z by have := h.1; omega)
  have hn : n < 1000 := by have := h.2; omega
  obtain ⟨h1, h2⟩ := int999 ⟨n, hn⟩
  exact ⟨h1, by simp only [PyData.depth]; exact Nat.le_refl _, h2⟩
theorem dr_own {K : PySem.W.Frag} {H : Hp} {N : Addr → Prop} {v : V} (h : ownV v) : Dr K H N v (ownD v) ∧ OkD 0 300 (ownD v) := by
  cases v with
  | non => exact ⟨.non, by decide +kernel, by decide +kernel, by decide +kernel⟩
  | int z => exact ⟨.int z, ok_int h⟩
  | _ => exact h.elim
theorem dr_rowsP {K : PySem.W.Frag} {H : Hp} {N : Addr → Prop} : ∀ {kvs : List (Key × V)}, (∀ kv ∈ kvs, ∃ y, kv.1 = .inr y ∧ Sm 32 y) → (∀ kv ∈ kvs, ownV kv.2) → DrKv K H N kvs (rowsD kvs) ∧ ∀ d ∈ rowsD kvs, OkD 0 322 d.1 ∧ OkD 0 300 d.2
  | [], _, _ => ⟨.nil, fun _ h => absurd h List.not_mem_nil⟩
  | (k, v) :: r, hk, hv => by
    obtain ⟨ih1, ih2⟩ := dr_rowsP (K := K) (H := H) (N := N) (kvs := r) (fun kv h => hk kv (List.mem_cons_of_mem _ h)) fun kv h => hv kv (List.mem_cons_of_mem _ h)
    obtain ⟨d1, d2⟩ := dr_own (K := K) (H := H) (N := N) (hv _ List.mem_cons_self)
    refine ⟨.cons d1 ih1, fun d hd => ?_⟩
    rcases List.mem_cons.mp hd with rfl | hd
    · obtain ⟨y, e, s⟩ := hk _ List.mem_cons_self
      have e' : k = .inr y := e
      subst e'
      exact ⟨s.ok (by decide), d2⟩
    · exact ih2 d hd
theorem rows_keys {w n : Nat} {vok : V → Prop} {xs : List Str} {kvs : List (Key × V)} (ok : RowsOk w vok xs kvs) (hw : w ≤ n) : ∀ kv ∈ kvs, ∃ y, kv.1 = .inr y ∧ Sm n y := fun kv hk => by
  have h : kv.1 ∈ xs.map Sum.inr := by
    rw [← ok.keys]
    exact List.mem_map.mpr ⟨kv, hk, rfl⟩
  obtain ⟨y, hy, e⟩ := List.mem_map.mp h
  exact ⟨y, e.symm, Nat.le_trans (ok.pfx.len y hy) hw, bits_sm (ok.pfx.bits y hy)⟩
theorem rows_len {w : Nat} {vok : V → Prop} {xs : List Str} {kvs : List (Key × V)} (ok : RowsOk w vok xs kvs) : kvs.length = xs.length := by
  have := congrArg List.length ok.keys
  rw [List.length_map, List.length_map] at this
  exact this
theorem Sorted.rows {w : Nat} {vok : V → Prop} {xs ys : List Str} {kvs kvs' : List (Key × V)} (h : Sorted xs kvs kvs' ys) (ok : RowsOk w vok xs kvs) : RowsOk w vok ys kvs' := by
  have ynd : ys.Nodup := h.perm.nodup_iff.mpr ok.pfx.nd
  refine ⟨h.keys, ⟨ynd, fun x hx => ok.pfx.bits x (h.perm.mem_iff.mp hx), fun x hx => ok.pfx.len x (h.perm.mem_iff.mp hx)⟩, fun kv hk => ?_⟩
  have hm : kv.1 ∈ ys.map Sum.inr := by
    rw [← h.keys]
    exact List.mem_map.mpr ⟨kv, hk, rfl⟩
  obtain ⟨y, hy, e⟩ := List.mem_map.mp hm
  have hx := h.perm.mem_iff.mp hy
  have kn : (kvs'.map (·.1)).Nodup := by
    rw [h.keys]
    exact ynd.map Sum.inr (fun a b h e => h (Sum.inr.inj e))
  have v1 := valV_some kn (k := kv.1) (v := kv.2) hk
  rw [← e, h.val y hx] at v1
  unfold valV at v1
  obtain ⟨p, hp, ep⟩ := Option.map_eq_some_iff.mp v1
  rw [← ep]
  exact ok.val p (List.mem_of_find?_eq_some hp)
/-- one row more, of the rows as they came and of those in order -/
theorem Sorted.put2 {w : Nat} {vok : V → Prop} {xs ys xsA xsB ysA : List Str} {kvs kvs1 kvs2 : List (Key × V)} {y : Str} {v : V} (h : Sorted xs kvs kvs1 ys) (hA : Sorted xsA (putK kvs1 (.inr y) v) kvs2 ysA) (okA : RowsOk w vok xsA (putK kvs1 (.inr y) v)) (okB : RowsOk w vok xsB (putK kvs (.inr y) v))
    (mA : ∀ z, z ∈ xsA ↔ z = y ∨ z ∈ ys) (mB : ∀ z, z ∈ xsB ↔ z = y ∨ z ∈ xs) : Sorted xsB (putK kvs (.inr y) v) kvs2 ysA := by
  have e : ∀ z, z ∈ xsA ↔ z ∈ xsB := fun z => by rw [mA, mB, h.perm.mem_iff]
  have p : xsA.Perm xsB := (List.perm_ext_iff_of_nodup okA.pfx.nd okB.pfx.nd).mpr e
  refine ⟨hA.keys, hA.perm.trans p, hA.up, fun z hz => ?_⟩
  rw [hA.val z ((e z).mpr hz), valV_put, valV_put]
  by_cases hzy : (Sum.inr z : Key) = Sum.inr y
  · rw [if_pos hzy, if_pos hzy]
  · rw [if_neg hzy, if_neg hzy]
    refine h.val z (((mB z).mp hz).resolve_left fun q => hzy (by rw [q]))
def spShown (C : Addr) : Sp := fun vs H Q _ => ∃ (x e : Addr) (a c r : Int) (xs : List Str) (kvs : List (Key × V)), vs = [.ref x] ∧ PriceAt C H x e a c r kvs ∧ okP a ∧ okP c ∧ okP r ∧ RowsOk 32 ownV xs kvs ∧ xs.length ≤ 40 ∧ ∀ H', Same H H' → Q (.str (shownP a c r kvs)) H'
theorem okShown {K : PySem.W.Frag} {H : Hp} {a c r : Int} {xs : List Str} {kvs : List (Key × V)} {d : Addr} {l : Addr} (ha : okP a) (hc : okP c) (hr : okP r) (ok : RowsOk 32 ownV xs kvs) (hx : xs.length ≤ 40) (hd : H d = some (.dK kvs)) (hl : H l = some (.lst [.int a, .int c, .int r, .ref d])) :
    ∃ N : Addr → Prop, Dr K H N (.ref l) (PyData.list [.int a, .int c, .int r, .dict (rowsD kvs)]) ∧ OkD 2 200000 (PyData.list [.int a, .int c, .int r, .dict (rowsD kvs)]) := by
  obtain ⟨d1, d2⟩ := dr_rowsP (K := K) (H := H) (N := fun _ => True) (rows_keys ok (Nat.le_refl _)) ok.val
  have hl2 : (rowsD kvs).length ≤ 40 := by
    show (kvs.map _).length ≤ 40
    rw [List.length_map, rows_len ok]
    exact hx
  have o1 : OkD 1 (40 * (322 + 300 + 4) + 2) (.dict (rowsD kvs)) := OkD.dict hl2 d2
  refine ⟨fun _ => True, .lst trivial (SqL.of hl) (.cons (.int a) (.cons (.int c) (.cons (.int r) (.cons (.dic trivial (.inl hd) d1) .nil)))), ?_⟩
  refine (OkD.list (L := 1) (B := 40 * (322 + 300 + 4) + 2) (n := 4) (ds := [.int a, .int c, .int r, .dict (rowsD kvs)]) (Nat.le_refl 4) fun x hx => ?_).mono (Nat.le_refl 2) (show 4 * (40 * (322 + 300 + 4) + 2 + 2) + 2 ≤ 200000 by decide)
  simp only [List.mem_cons, List.not_mem_nil, or_false] at hx
  rcases hx with rfl | rfl | rfl | rfl
  · exact (ok_int ha).mono (by decide) (by decide)
  · exact (ok_int hc).mono (by decide) (by decide)
  · exact (ok_int hr).mono (by decide) (by decide)
  · exact o1
def spRight (K : PySem.W.Frag) (C : Addr) : Sp := fun vs H Q _ => ∃ (x e l d : Addr) (a c r : Int) (xs ys : List Str) (kvs0 kvs : List (Key × V)), vs = [.ref x, .ref l, .ref d] ∧ PriceAt C H x e a c r kvs ∧ H l = some (.lst [.int a, .int c, .int r]) ∧ H d = some (.dK kvs0) ∧ okP a ∧ okP c ∧ okP r ∧ RowsOk 32 ownV xs kvs0 ∧ xs.length ≤ 30 ∧ Sorted xs kvs0 kvs ys ∧ ∀ H', Same H H' → Q (.bl true) H'
abbrev sS : Stmt := top 18
section
variable {P : Program} {w : World} {K : PySem.W.Frag} {mg : Str → Option Value} {base : Heap}
abbrev NS : List Str := ["deal"]
theorem scS : FnScope NS ["deal"] (defScope sS) := ⟨rfl, rfl, rfl, by decide +kernel, rfl, by decide +kernel, by decide +kernel⟩
set_option maxHeartbeats 8000000 in
theorem ok_S {f fPa pPa fPc pPc fPr pPr fPs pPs CC : Addr} {fd fdPa fdPc fdPr fdPs : FuncData} {k : Nat} (F : Fun K "_law_shown" "_law_shown" sS f fd) (sys : ∃ mm, base.Ns sysModules mm)
    (GPa : FnOk P w K mg base CX0 k fPa fdPa ["self"] (spPInt CC (fun a _ _ => a)))
    (PPa : PropOf K CC "adding" pPa fPa) (bPa : Binds K fdPa ["self"] [])
    (clC : Cls K CC)
    (GPc : FnOk P w K mg base CX0 k fPc fdPc ["self"] (spPInt CC (fun _ c _ => c)))
    (PPc : PropOf K CC "changing" pPc fPc) (bPc : Binds K fdPc ["self"] [])
    (GPr : FnOk P w K mg base CX0 k fPr fdPr ["self"] (spPInt CC (fun _ _ r => r)))
    (PPr : PropOf K CC "removing" pPr fPr) (bPr : Binds K fdPr ["self"] [])
    (GPs : FnOk P w K mg base CX0 k fPs fdPs ["self"] (spPSingle CC))
    (PPs : PropOf K CC "single" pPs fPs) (bPs : Binds K fdPs ["self"] [])
    (m_repr : mg "repr" = none)
    : FnG P w K mg base (k + 2) f fd ["deal"] (spShown CC) := by
  refine okG F scS (fun vs H Q E h => ?_) (fun cdv A outer s H vs Q g hr h => ?_)
  · obtain ⟨x, e, a, c, r, xs, kvs, rfl, _⟩ := h
    rfl
  · obtain ⟨x, e, a, c, r, xs, kvs, rfl, hp, ha, hc, hr_, ok, hx, q⟩ := h
    have nd := scS.nd
    have hu := hr.units
    have hu1 := hu_of hr
    have hr1 := hr.mono (Nat.le_succ k)
    refine ⟨_, pss_one (ps_ret (pe_callB (call_repr g hu sys) (by rfl) m_repr (by decide +kernel) (pa_cons (pe_lst (pa_cons (pe_prop (pv 0) clC PPa GPa hr bPa .nil pass0 rfl) (pa_cons (pe_prop (pv 0) clC PPc GPc hr bPc .nil pass0 rfl) (pa_cons (pe_prop (pv 0) clC PPr GPr hr bPr .nil pass0 rfl) (pa_cons (pe_prop (pv 0) clC PPs GPs hr bPs .nil pass0 rfl) pa_nil))))) pa_nil))), ?_⟩
    obtain ⟨⟨dx, hx1⟩, he⟩ := id hp
    refine ⟨.ref x, rfl, x, dx, _, rfl, hx1, x, e, a, c, r, kvs, rfl, hp, .ref x, rfl, x, dx, _, rfl, hx1, x, e, a, c, r, kvs, rfl, hp, .ref x, rfl, x, dx, _, rfl, hx1, x, e, a, c, r, kvs, rfl, hp, .ref x, rfl, x, dx, _, rfl, hx1, x, e, a, c, r, kvs, rfl, hp, fun d nd1 => ?_⟩
    refine ⟨by show 4 ≤ sizeLine; decide, fun l nl => ?_⟩
    obtain ⟨N, dr, okd⟩ := okShown (K := K) ha hc hr_ ok hx (same_upd nl _ _ (upd_same (H := H) (a := d) (o := .dK kvs))) (upd_same (a := l))
    exact ⟨.ref l, _, N, rfl, dr, okd.sh, Nat.le_trans okd.dp (by decide), Nat.le_trans okd.ln (by decide), q _ ((same_upd nd1).trans (same_upd nl))⟩
end
abbrev sR : Stmt := top 19
section
variable {P : Program} {w : World} {K : PySem.W.Frag} {mg : Str → Option Value} {base : Heap}
abbrev NR : List Str := ["deal", "three", "own", "due", "prefix", "again", "some"]
theorem scR : FnScope NR ["deal", "three", "own"] (defScope sR) := ⟨rfl, rfl, rfl, by decide +kernel, rfl, by decide +kernel, by decide +kernel⟩
set_option maxHeartbeats 8000000 in
theorem ok_R {f fS fPs pPs CC : Addr} {fd fdS fdPs : FuncData} {k : Nat} (F : Fun K "_law_right" "_law_right" sR f fd) (sys : ∃ mm, base.Ns sysModules mm)
    (m_sorted : mg "sorted" = none)
    (m_dict : mg "dict" = none)
    (m_repr : mg "repr" = none)
    (m_range : mg "range" = none)
    (GS : FnG P w K mg base k fS fdS ["deal"] (spShown CC))
    (FS : Fun K "_law_shown" "_law_shown" sS fS fdS) (bS : Binds K fdS ["deal"] []) (gS : mg "_law_shown" = some (.ref fS))
    (GPs : FnOk P w K mg base CX0 k fPs fdPs ["self"] (spPSingle CC))
    (PPs : PropOf K CC "single" pPs fPs) (bPs : Binds K fdPs ["self"] [])
    (clC : Cls K CC)
    : FnG P w K mg base (k + 2) f fd ["deal", "three", "own"] (spRight K CC) := by
  refine okG F scR (fun vs H Q E h => ?_) (fun cdv A outer s H vs Q g hr h => ?_)
  · obtain ⟨x, e, l, d, a, c, r, xs, ys, kvs0, kvs, rfl, _⟩ := h
    rfl
  · obtain ⟨x, e, l, d, a, c, r, xs, ys, kvs0, kvs, rfl, hp, hl, hd, ha, hc, hr_, ok, hx30, hs, q⟩ := h
    have nd := scR.nd
    have hu := hr.units
    have hu1 := hu_of hr
    have hr1 := hr.mono (Nat.le_succ k)
    refine ⟨_, C8.pss_cut (ps_set (i := 3) nd rfl (.inl rfl) (pe_callB (call_repr g hu sys) (by rfl) m_repr (by decide +kernel) (pa_cons (pe_op op_cat (pv 1) (pe_lst (pa_cons (pe_callTy (call_dictP rfl) (by rfl) m_dict (by decide +kernel) (pa_cons (pe_lc (own := [("prefix", 4)]) (g := gName 4) (tt := tYes) rfl nd (pi_list (pe_callB (call_sortedD rfl) (by rfl) m_sorted (by decide +kernel) (pa_cons (pv 2) pa_nil))) (blkOk_by (N := NR) (sc := defScope sR) (by decide +kernel)) (fun _ _ _ _ _ => pg_name (i := 4) nd rfl (.inl rfl)) (fun _ _ _ _ _ => pts_nil) (fun _ _ _ _ _ => (pe_tup (pa_cons (pv 4) (pa_cons (pe_dget hu1 (pv 2) (pv 4) (fun _ _ => rfl)) pa_nil))))) pa_nil)) pa_nil))) pa_nil)))
      (pss_cons (ps_for PassesOwn.never rfl (pi_range1 (by rfl) m_range (pa_cons pe_int pa_nil)) (pg_name (i := 5) nd rfl (.inl rfl))
        (pss_cons (ps_if (pt_cmpR op_ne (pe_callG GS g hr1 (by rfl) gS FS.kp bS (pa_cons (pv 0) pa_nil)) (pv 3) (nomark _))
          (pss_one (ps_ret pe_bl)) pss_nil)
        (pss_cons (ps_set (i := 6) nd rfl (.inl rfl) (pe_prop (pv 0) clC PPs GPs hr bPs .nil pass0 rfl))
        (pss_cons (ps_dput hu1 (pv 6) pe_str pe_int rfl)
        (pss_one (ps_expr (pe_dpop1 (pv 6) (pe_ix ix_list (pe_callB (call_sortedD rfl) (by rfl) m_sorted (by decide +kernel) (pa_cons (pv 6) pa_nil)) pe_int (fun _ _ => rfl)) ⟨rfl, rfl, rfl, rfl⟩)))))))
      (pss_one (ps_ret pe_bl))), ?_⟩
    have okS := hs.rows ok
    have yl : ys.length = xs.length := hs.perm.length_eq
    -- due
    refine ⟨fun σ H' => (∃ x4 x5 x6, σ = [some (.ref x), some (.ref l), some (.ref d), some (.str (shownP a c r kvs)), x4, x5, x6]) ∧ Same H H', ?_, ?_⟩
    · refine ⟨.ref l, rfl, .ref d, rfl, d, kvs0, xs, rfl, .inl hd, ok.keys, by omega, fun zs L0 hperm hup nL => ?_⟩
      have s1 := same_upd (o := .lst (zs.map V.str)) nL
      have hL : (upd H L0 (.lst (zs.map V.str))) L0 = some (.lst (zs.map V.str)) := upd_same
      have hd1 := s1 _ _ hd
      have hl1 := s1 _ _ hl
      revert s1 hL hd1 hl1
      generalize upd H L0 (.lst (zs.map V.str)) = H1
      intro s1 hL hd1 hl1
      have znd : zs.Nodup := hperm.nodup_iff.mpr ok.pfx.nd
      refine ⟨L0, rfl, ⟨_, SqL.of hL⟩, fun D nD => ?_⟩
      refine lc_it walk_list (fun i H' => ∃ ps kvs', PairsAt K H' D ownV (zs.take i) ps kvs' ∧ KeptAt kvs0 zs i kvs' ∧ Same H1 H') ⟨[], [], ⟨upd_same, .nil, rfl, fun _ h => absurd h List.not_mem_nil⟩, .nil, same_upd nD⟩
        (fun _ H' _ h => by obtain ⟨_, _, _, _, k⟩ := h; exact SqL.of (k _ _ hL)) ?_ ?_
      · rintro i u H5 H6 hi ⟨ps, kvs', hps, hk, keep⟩ ⟨rfl, hvi⟩
        rw [List.getElem?_map] at hvi
        have hil : i < zs.length := by rw [List.length_map] at hi; exact hi
        rw [List.getElem?_eq_getElem hil] at hvi
        obtain rfl : V.str zs[i] = u := Option.some.inj hvi
        obtain ⟨w, hw, hwm⟩ := val_at ok.keys (hperm.mem_iff.mp (List.getElem_mem hil))
        refine ⟨rfl, yes_if ?_⟩
        refine ⟨.str zs[i], rfl, .ref d, rfl, .str zs[i], rfl, d, w, rfl, by rw [← hw]; exact DGet.k (k := .inr zs[i]) (keep _ _ hd1), by show 2 ≤ sizeLine; decide, fun t nt => ?_⟩
        have pl : ps.length = kvs'.length := hps.prs.length
        have := hk.len
        have := hperm.length_eq
        refine ⟨_, same_upd nt _ _ hps.at_, big_lt (by rw [List.length_map]; omega), ps ++ [t], _, ?_, hk.snoc hil hw, fun b o eb => ?_⟩
        · have e : zs.take (i + 1) = zs.take i ++ [zs[i]] := by rw [List.take_add_one, List.getElem?_eq_getElem hil]; rfl
          rw [e]
          exact hps.snoc (ok.val _ hwm) nt
        · rw [upd_ne (ne_of_none eb nD), upd_ne (ne_of_none (keep b o eb) nt)]
          exact keep b o eb
      · rintro H5 ⟨ps, kvs', hps, hk, keep⟩
        rw [List.length_map] at hps hk
        refine ⟨D, ps, kvs', rfl, SqL.of hps.at_, hps.prs, fun d5 nd5 => ?_⟩
        have hps2 : PairsAt K H5 D ownV zs ps kvs' := by rw [List.take_of_length_le (Nat.le_refl _)] at hps; exact hps
        rw [pair_merge hps2 znd]
        obtain rfl : kvs' = kvs := (hk.done (Nat.le_refl _) hperm ok.pfx.nd hup).uniq ok.pfx.nd hs
        have t1 := same_upd (o := .dK kvs') nd5
        refine ⟨by show 1 ≤ sizeLine; decide, fun M nM => ?_⟩
        have t2 := same_upd (o := .lst [.ref d5]) nM
        have hl5 := t2 _ _ (t1 _ _ (keep _ _ hl1))
        refine ⟨l, M, _, _, rfl, rfl, hl5, upd_same, by show 3 + 1 ≤ sizeLine; decide, fun G nG => ?_⟩
        have t3 := same_upd (o := .lst [.int a, .int c, .int r, .ref d5]) nG
        obtain ⟨N, dr, okd⟩ := okShown (K := K) ha hc hr_ okS (by omega) (t3 _ _ (t2 _ _ (upd_same (H := H5) (a := d5) (o := .dK kvs')))) (upd_same (a := G))
        refine ⟨.ref G, _, N, rfl, dr, okd.sh, Nat.le_trans okd.dp (by decide), Nat.le_trans okd.ln (by decide), ?_⟩
        exact ⟨⟨_, _, _, rfl⟩, s1.trans (keep.trans (t1.trans (t2.trans t3)))⟩
    · rintro σ H1 ⟨⟨x4, x5, x6, rfl⟩, s1⟩
      refine ⟨2, rfl, by decide, by decide, for_range (n := 2) (fun _ σ H' => (∃ x4 x5 x6, σ = [some (.ref x), some (.ref l), some (.ref d), some (.str (shownP a c r kvs)), x4, x5, x6]) ∧ Same H H') ⟨⟨_, _, _, rfl⟩, s1⟩ ?_ ?_⟩
      · rintro i σ H2 hi ⟨⟨x4, x5, x6, rfl⟩, s2⟩
        refine ⟨.ref x, rfl, x, e, a, c, r, ys, kvs, rfl, hp.same s2, ha, hc, hr_, okS, by omega, fun H3 s3 => ?_⟩
        refine ⟨.str (shownP a c r kvs), rfl, rfl, _, rfl, iteNS rfl ?_⟩
        have hp3 := hp.same (s2.trans s3)
        obtain ⟨⟨dx, hx1⟩, he⟩ := id hp3
        refine ⟨.ref x, rfl, x, dx, _, rfl, hx1, x, e, a, c, r, kvs, rfl, hp3, fun d4 nd4 => ?_⟩
        have s4 := same_upd (o := .dK kvs) nd4
        have kl := rows_len okS
        refine ⟨.ref d4, rfl, d4, _, rfl, DPut.k (k := .inr "0101") upd_same (big_lt (by omega)), ?_⟩
        have s5 : Same H3 (upd (upd H3 d4 (.dK kvs)) d4 (.dK (putK kvs (.inr "0101") (.int 7)))) := by rw [upd_upd]; exact same_upd nd4
        have hd5 : (upd (upd H3 d4 (.dK kvs)) d4 (.dK (putK kvs (.inr "0101") (.int 7)))) d4 = some (.dK (putK kvs (.inr "0101") (.int 7))) := upd_same
        revert s5 hd5
        generalize upd (upd H3 d4 (.dK kvs)) d4 (.dK (putK kvs (.inr "0101") (.int 7))) = H5
        intro s5 hd5
        obtain ⟨xs6, ok6, mem6, len6⟩ := okS.put (y := "0101") (v := .int 7) (by decide +kernel) (by decide +kernel) (show ownV (.int 7) from ⟨by decide, by decide⟩)
        refine ⟨.ref d4, rfl, d4, rfl, .inl ⟨_, .inl hd5⟩, .ref d4, rfl, d4, _, xs6, rfl, .inl hd5, ok6.keys, by omega, fun zs L0 hperm hup nL => ?_⟩
        have h0 : 0 < zs.length := by
          rw [hperm.length_eq]
          exact List.length_pos_of_mem ((mem6 "0101").mpr (.inl rfl))
        refine ⟨L0, _, 0, .str zs[0], rfl, rfl, SqL.of upd_same, atI_nat (j := 0) (by rw [List.getElem?_map, List.getElem?_eq_getElem h0]; rfl), ?_⟩
        obtain ⟨u, hu6, _⟩ := val_at ok6.keys (hperm.mem_iff.mp (List.getElem_mem h0))
        have nL4 : d4 ≠ L0 := ne_of_none hd5 nL
        refine ⟨_, .inr zs[0], u, by rw [upd_ne nL4]; exact hd5, rfl, hu6, ⟨_, _, _, rfl⟩, fun b o hb => ?_⟩
        have b3 := s3 _ _ (s2 _ _ hb)
        have b5 := s5 _ _ b3
        rw [upd_ne (ne_of_none b3 nd4), upd_ne (ne_of_none b5 nL)]
        exact b5
      · rintro σ H2 ⟨_, s2⟩
        exact q H2 s2
end

def spLaw (K : PySem.W.Frag) : Sp := fun vs H Q _ => ∃ (a : Addr) (ns : List Int), vs = [.ref a] ∧ SqL K H a (ns.map V.int) ∧ ns.length ≤ 63 ∧ ∀ H', Q (.bl true) H'
/-- all but two is as it was -/
def But2 (p d : Addr) (H H' : Hp) : Prop := ∀ b o, b ≠ p → b ≠ d → H b = some o → H' b = some o
theorem But.two {p d : Addr} {H H' : Hp} (h : But p H H') : But2 p d H H' := fun b o n _ e => h b o n e
theorem Same.two {p d : Addr} {H H' : Hp} (h : Same H H') : But2 p d H H' := fun b o _ _ e => h b o e
theorem But2.trans {p d : Addr} {H H1 H2 : Hp} (a : But2 p d H H1) (b : But2 p d H1 H2) : But2 p d H H2 := fun x o n m e => b x o n m (a x o n m e)
theorem But2.upd {p d : Addr} {H : Hp} {o : HO} : But2 p d H (upd H d o) := fun b x _ n e => by rw [upd_ne n]; exact e
/-- prices and the rows that they should hold, a pair at t -/
def Held1 (C : Addr) (H : Hp) (a c r : Int) (d0 t : Addr) : Prop := ∃ (x e d : Addr) (kvs0 kvs : List (Key × V)) (xs ys : List Str), H t = some (.tup [.ref x, .ref d]) ∧ PriceAt C H x e a c r kvs ∧ H d = some (.dK kvs0) ∧ RowsOk 32 ownV xs kvs0 ∧ xs.length ≤ 20 ∧ Sorted xs kvs0 kvs ys ∧ e ≠ d0 ∧ d ≠ d0
theorem PriceAt.but2 {C : Addr} {H H' : Hp} {p d0 x e : Addr} {a c r : Int} {kvs k0 : List (Key × V)} {o : List V} (k : But2 p d0 H H') (hp : H p = some (.lst o)) (h0 : H d0 = some (.dK k0)) (ne : e ≠ d0) (h : PriceAt C H x e a c r kvs) : PriceAt C H' x e a c r kvs := by
  obtain ⟨⟨dx, h1⟩, h2⟩ := h
  exact ⟨⟨dx, k _ _ (ne_of h1 hp (fun z => nomatch z)) (ne_of h1 h0 (fun z => nomatch z)) h1⟩, k _ _ (ne_of h2 hp (fun z => nomatch z)) ne h2⟩
theorem Held1.but2 {C : Addr} {H H' : Hp} {a c r : Int} {p d0 t : Addr} {k0 : List (Key × V)} {o : List V} (k : But2 p d0 H H') (hp : H p = some (.lst o)) (h0 : H d0 = some (.dK k0)) (h : Held1 C H a c r d0 t) : Held1 C H' a c r d0 t := by
  obtain ⟨x, e, d, kvs0, kvs, xs, ys, ht, hx, hd, ok, few, hs, n1, n2⟩ := h
  exact ⟨x, e, d, kvs0, kvs, xs, ys, k _ _ (ne_of ht hp (fun z => nomatch z)) (ne_of ht h0 (fun z => nomatch z)) ht, hx.but2 k hp h0 n1, k _ _ (ne_of hd hp (fun z => nomatch z)) n2 hd, ok, few, hs, n1, n2⟩
theorem Held1.same {C : Addr} {H H' : Hp} {a c r : Int} {d0 t : Addr} (k : Same H H') (h : Held1 C H a c r d0 t) : Held1 C H' a c r d0 t := by
  obtain ⟨x, e, d, kvs0, kvs, xs, ys, ht, hx, hd, ok, few, hs, n1, n2⟩ := h
  exact ⟨x, e, d, kvs0, kvs, xs, ys, k _ _ ht, hx.same k, k _ _ hd, ok, few, hs, n1, n2⟩
/-- the state within a turn of the inner loop -/
structure InTurn (C : Addr) (H : Hp) (a c r : Int) (p pc l3 x d0 h : Addr) (n j : Nat) (kvs0 : List (Key × V)) (xs : List Str) : Prop where
  own : ∃ e kvs ys, PriceAt C H x e a c r kvs ∧ e ≠ d0 ∧ Sorted xs kvs0 kvs ys
  d0_ : H d0 = some (.dK kvs0)
  ok : RowsOk 32 ownV xs kvs0
  few : xs.length ≤ j
  held : ∃ ts : List Addr, H h = some (.lst (ts.map V.ref)) ∧ ts.length ≤ 2 * j ∧ ∀ t ∈ ts, Held1 C H a c r d0 t
  three : H l3 = some (.lst [.int a, .int c, .int r])
  pen : Pen H p pc n []
  l3p : l3 ≠ p
  hp_ : h ≠ p
theorem InTurn.but {C : Addr} {H H' : Hp} {a c r : Int} {p pc l3 x d0 h : Addr} {n m j : Nat} {kvs0 : List (Key × V)} {xs : List Str} (k : But p H H') (hp : Pen H' p pc m []) (t : InTurn C H a c r p pc l3 x d0 h n j kvs0 xs) : InTurn C H' a c r p pc l3 x d0 h m j kvs0 xs := by
  obtain ⟨e, kvs, ys, h1, h2, h3⟩ := t.own
  obtain ⟨ts, h4, h5, h6⟩ := t.held
  obtain ⟨o, ho⟩ := t.pen.lst
  exact ⟨⟨e, kvs, ys, h1.but2 k.two ho t.d0_ h2, h2, h3⟩, k _ _ (ne_of t.d0_ ho (fun z => nomatch z)) t.d0_, t.ok, t.few, ⟨ts, k _ _ t.hp_ h4, h5, fun u hu => (h6 u hu).but2 k.two ho t.d0_⟩, k _ _ t.l3p t.three, hp, t.l3p, t.hp_⟩
theorem InTurn.same {C : Addr} {H H' : Hp} {a c r : Int} {p pc l3 x d0 h : Addr} {n j : Nat} {kvs0 : List (Key × V)} {xs : List Str} (k : Same H H') (t : InTurn C H a c r p pc l3 x d0 h n j kvs0 xs) : InTurn C H' a c r p pc l3 x d0 h n j kvs0 xs := t.but (.of_same k) (t.pen.keep k)
theorem pick_pfx {x1 x2 : Str} {d : Int} (h0 : 0 ≤ d) (h4 : d < 4) (b1 : isBits x1 = true) (l1 : x1.length ≤ 32) (b2 : isBits x2 = true) (l2 : x2.length ≤ 32) : ∃ y, atI ([.str x1, .str x2, .str "", .str (Txt.mul "0" 32)] : List V) d = some (.str y) ∧ isBits y = true ∧ y.length ≤ 32 := by
  obtain rfl | rfl | rfl | rfl : d = 0 ∨ d = 1 ∨ d = 2 ∨ d = 3 := by omega
  · exact ⟨_, rfl, b1, l1⟩
  · exact ⟨_, rfl, b2, l2⟩
  · exact ⟨_, rfl, by decide +kernel, by decide +kernel⟩
  · exact ⟨_, rfl, by decide +kernel, by decide +kernel⟩
theorem pick_own {z d : Int} (h0 : 0 ≤ d) (h4 : d < 4) (hz : okP z) : ∃ v, atI ([.non, .int 1, .int 999, .int z] : List V) d = some v ∧ ownV v := by
  obtain rfl | rfl | rfl | rfl : d = 0 ∨ d = 1 ∨ d = 2 ∨ d = 3 := by omega
  · exact ⟨_, rfl, trivial⟩
  · exact ⟨_, rfl, by decide, by decide⟩
  · exact ⟨_, rfl, by decide, by decide⟩
  · exact ⟨_, rfl, hz⟩
theorem pick_three {z d : Int} (h0 : 0 ≤ d) (h4 : d < 4) (hz : okP z) : ∃ v, atI ([.int 1, .int 2, .int 999, .int z] : List V) d = some (.int v) ∧ okP v := by
  obtain rfl | rfl | rfl | rfl : d = 0 ∨ d = 1 ∨ d = 2 ∨ d = 3 := by omega
  · exact ⟨_, rfl, by decide, by decide⟩
  · exact ⟨_, rfl, by decide, by decide⟩
  · exact ⟨_, rfl, by decide, by decide⟩
  · exact ⟨_, rfl, hz⟩
theorem rows_nil : RowsOk 32 ownV [] [] := ⟨rfl, ⟨List.nodup_nil, fun _ h => absurd h List.not_mem_nil, fun _ h => absurd h List.not_mem_nil⟩, fun _ h => absurd h List.not_mem_nil⟩
theorem sorted_nil : Sorted [] [] [] [] := ⟨rfl, .nil, rfl, fun _ h => absurd h List.not_mem_nil⟩

theorem p1 : okP 1 := ⟨by decide, by decide⟩
theorem p5 : okP 5 := ⟨by decide, by decide⟩
theorem p6 : okP 6 := ⟨by decide, by decide⟩
theorem p7 : okP 7 := ⟨by decide, by decide⟩
theorem p8 : okP 8 := ⟨by decide, by decide⟩
def four : List Str := [shownP 1 1 1 [], shownP 5 1 1 [], shownP 1 6 1 [], shownP 8 1 7 []]
def FourAt (R : Addr → Int → Int → Int → Prop) : List Addr → Prop
  | [x, y, z, u] => R x 1 1 1 ∧ R y 5 1 1 ∧ R z 1 6 1 ∧ R u 8 1 7
  | _ => False
abbrev Four (C : Addr) (H : Hp) : List Addr → Prop := FourAt fun x a c r => ∃ e, PriceAt C H x e a c r []
abbrev FourL (H : Hp) : List Addr → Prop := FourAt fun l a c r => ∃ d, H l = some (.lst [.int a, .int c, .int r, .ref d]) ∧ H d = some (.dK [])
theorem FourAt.mono {R R' : Addr → Int → Int → Int → Prop} (h : ∀ x a c r, R x a c r → R' x a c r) : ∀ {l : List Addr}, FourAt R l → FourAt R' l
  | [_, _, _, _], ⟨a, b, c, d⟩ => ⟨h _ _ _ _ a, h _ _ _ _ b, h _ _ _ _ c, h _ _ _ _ d⟩
theorem Four.same {C : Addr} {H H' : Hp} {l : List Addr} (s : Same H H') (h : Four C H l) : Four C H' l := FourAt.mono (fun _ _ _ _ ⟨e, p⟩ => ⟨e, p.same s⟩) h
theorem FourAt.at {R : Addr → Int → Int → Int → Prop} {x y z u : Addr} {j : Nat} {v : V} (h : FourAt R [x, y, z, u]) (hv : ([.ref x, .ref y, .ref z, .ref u] : List V)[j]? = some v) : ∃ w a c r, v = .ref w ∧ R w a c r ∧ okP a ∧ okP c ∧ okP r ∧ four[j]? = some (shownP a c r []) := by
  obtain ⟨h1, h2, h3, h4⟩ := h
  match j, hv with
  | 0, hv => cases hv; exact ⟨_, _, _, _, rfl, h1, p1, p1, p1, rfl⟩
  | 1, hv => cases hv; exact ⟨_, _, _, _, rfl, h2, p5, p1, p1, rfl⟩
  | 2, hv => cases hv; exact ⟨_, _, _, _, rfl, h3, p1, p6, p1, rfl⟩
  | 3, hv => cases hv; exact ⟨_, _, _, _, rfl, h4, p8, p1, p7, rfl⟩
  | n + 4, hv => cases hv
abbrev sL : Stmt := top 20
section
variable {P : Program} {w : World} {K : PySem.W.Frag} {mg : Str → Option Value} {base : Heap}
abbrev NL : List Str := ["script", "pen", "turn", "three", "k", "deal", "own", "held", "more", "prefix", "cost_there", "side", "some", "known", "due", "one"]
theorem scL : FnScope NL ["script"] (defScope sL) := ⟨rfl, rfl, rfl, by decide +kernel, rfl, by decide +kernel, by decide +kernel⟩
set_option maxHeartbeats 8000000 in
theorem ok_L {f fP fDr fU fB fV fR fS CC : Addr} {fd fdP fdDr fdU fdB fdV fdR fdS : FuncData} {k : Nat} (F : Fun K "law" "law" sL f fd) (sys : ∃ mm, base.Ns sysModules mm)
    (GP : FnOk P w K mg base CX0 k fP fdP ["script"] (spPen K))
    (FP : Fun K "_law_pen" "_law_pen" sP fP fdP) (bP : Binds K fdP ["script"] []) (gP : mg "_law_pen" = some (.ref fP))
    (m_range : mg "range" = none)
    (GDr : FnOk P w K mg base CX0 k fDr fdDr ["pen", "below"] spDraw)
    (FDr : Fun K "_law_draw" "_law_draw" sDr fDr fdDr) (bDr : Binds K fdDr ["pen", "below"] []) (gDr : mg "_law_draw" = some (.ref fDr))
    (GU : FnOk P w K mg base CX0 k fU fdU ["self", "adding", "changing", "removing"] (spPInit CC))
    (MC : Mk K CC fU) (gC : mg "Prices" = some (.ref CC))
    {gkbU_removing_adding_changing : List Value → List Value → List Value} (kbU_removing_adding_changing : KBn K fdU ["self", "adding", "changing", "removing"] 1 ["removing", "adding", "changing"] gkbU_removing_adding_changing (fun vs zs => vs ++ (zs.drop 1 ++ zs.take 1)))
    (GB : FnOk P w K mg base CX0 k fB fdB ["pen", "size"] spBits)
    (FB : Fun K "_law_bits" "_law_bits" sB fB fdB) (bB : Binds K fdB ["pen", "size"] []) (gB : mg "_law_bits" = some (.ref fB))
    (m_dict : mg "dict" = none)
    (clC : Cls K CC)
    (GV : FnOk P w K mg base CX0 k fV fdV ["self", "prefix", "price"] (spPWith CC))
    (mtV : Meth K CC "with_row" fV) (bV : Binds K fdV ["self", "prefix", "price"] [])
    (GR : FnG P w K mg base k fR fdR ["deal", "three", "own"] (spRight K CC))
    (FR : Fun K "_law_right" "_law_right" sR fR fdR) (bR : Binds K fdR ["deal", "three", "own"] []) (gR : mg "_law_right" = some (.ref fR))
    {dskbU_ : List Value} (kbU_ : Binds K fdU ["self", "adding", "changing", "removing"] dskbU_) (rkbU_ : Vals [.int 1, .int 1, .int 1] dskbU_)
    {gkbU_adding : List Value → List Value → List Value} (kbU_adding : KBn K fdU ["self", "adding", "changing", "removing"] 1 ["adding"] gkbU_adding (fun vs zs => vs ++ (zs ++ (List.replicate 2 (V.int 1)))))
    {gkbU_changing : List Value → List Value → List Value} (kbU_changing : KBn K fdU ["self", "adding", "changing", "removing"] 1 ["changing"] gkbU_changing (fun vs zs => vs ++ ((List.replicate 2 (V.int 1)).take 1 ++ (zs ++ (List.replicate 2 (V.int 1)).drop 1))))
    {gkbU_removing_adding : List Value → List Value → List Value} (kbU_removing_adding : KBn K fdU ["self", "adding", "changing", "removing"] 1 ["removing", "adding"] gkbU_removing_adding (fun vs zs => vs ++ (zs.drop 1 ++ ((List.replicate 1 (V.int 1)) ++ zs.take 1))))
    (GS : FnG P w K mg base k fS fdS ["deal"] (spShown CC))
    (FS : Fun K "_law_shown" "_law_shown" sS fS fdS) (bS : Binds K fdS ["deal"] []) (gS : mg "_law_shown" = some (.ref fS))
    (m_repr : mg "repr" = none)
    : FnG P w K mg base (k + 2) f fd ["script"] (spLaw K) := by
  refine okG F scL (fun vs H Q E h => ?_) (fun cdv A outer s H vs Q g hr h => ?_)
  · obtain ⟨a0, ns, rfl, _⟩ := h
    rfl
  · obtain ⟨a0, ns, rfl, hS, hlen, q⟩ := h
    have nd := scL.nd
    have hu := hr.units
    have hu1 := hu_of hr
    have hr1 := hr.mono (Nat.le_succ k)
    refine ⟨_, pss_cons (ps_set (i := 1) nd rfl (.inr rfl) (pe_call GP hr1 (by rfl) gP FP.kp bP .nil pass0 (pa_cons (pv 0) pa_nil)))
      (pss_cons (ps_for PassesOwn.never rfl (pi_range1 (by rfl) m_range (pa_cons pe_int pa_nil)) (pg_name (i := 2) nd rfl (.inl rfl))
        (C8.pss_cut (ps_setLc (i := 3) (own := [("k", 4)]) (g := gName 4) (tt := tYes) rfl nd rfl rfl (sw_true rfl rfl rfl (by decide +kernel)) (pi_range1 (by rfl) m_range (pa_cons pe_int pa_nil)) (blkOk_by (N := NL) (sc := defScope sL) (by decide +kernel)) (fun _ _ _ _ _ => pg_name (i := 4) nd rfl (.inl rfl)) (fun _ _ _ _ _ => pts_nil) (fun _ _ _ _ _ => (pe_ix (r := rIxL K) ix_list (pe_lst (pa_cons pe_int (pa_cons pe_int (pa_cons pe_int (pa_cons (pe_op op_add pe_int (pe_call GDr hr1 (by rfl) gDr FDr.kp bDr .nil pass0 (pa_cons (pv 1) (pa_cons pe_int pa_nil)))) pa_nil))))) (pe_call GDr hr1 (by rfl) gDr FDr.kp bDr .nil pass0 (pa_cons (pv 1) (pa_cons pe_int pa_nil))) (fun _ _ => rfl))))
        (pss_cons (ps_par3 (i := 5) (j := 6) (l := 7) (by rfl) nd rfl rfl rfl (by decide) (by decide) (by decide) rfl rfl rfl (pa_cons (pe_makeK0 MC GU hr (by rfl) gC kbU_removing_adding_changing pass0 (pk_cons (pe_ix ix_list (pv 3) pe_int (fun _ _ => rfl)) (pk_cons (pe_ix ix_list (pv 3) pe_int (fun _ _ => rfl)) (pk_cons (pe_ix ix_list (pv 3) pe_int (fun _ _ => rfl)) pk_nil)))) (pa_cons pe_dnewK (pa_cons (pe_lst pa_nil) pa_nil))) (by rfl))
        (pss_cons (ps_for PassesOwn.never rfl (pi_range1 (by rfl) m_range (pa_cons (pe_call GDr hr1 (by rfl) gDr FDr.kp bDr .nil pass0 (pa_cons (pv 1) (pa_cons pe_int pa_nil))) pa_nil)) (pg_name (i := 8) nd rfl (.inl rfl))
          (C8.pss_cut (ps_set (i := 9) nd rfl (.inl rfl) (pe_ix ix_list (pe_lst (pa_cons (pe_call GB hr1 (by rfl) gB FB.kp bB .nil pass0 (pa_cons (pv 1) (pa_cons pe_int pa_nil))) (pa_cons (pe_call GB hr1 (by rfl) gB FB.kp bB .nil pass0 (pa_cons (pv 1) (pa_cons pe_int pa_nil))) (pa_cons pe_str (pa_cons (pe_op op_mulS pe_str pe_int) pa_nil))))) (pe_call GDr hr1 (by rfl) gDr FDr.kp bDr .nil pass0 (pa_cons (pv 1) (pa_cons pe_int pa_nil))) (fun _ _ => rfl)))
          (C8.pss_cut (ps_set (i := 10) nd rfl (.inl rfl) (pe_ix ix_list (pe_lst (pa_cons pe_non (pa_cons pe_int (pa_cons pe_int (pa_cons (pe_op op_add pe_int (pe_call GDr hr1 (by rfl) gDr FDr.kp bDr .nil pass0 (pa_cons (pv 1) (pa_cons pe_int pa_nil)))) pa_nil))))) (pe_call GDr hr1 (by rfl) gDr FDr.kp bDr .nil pass0 (pa_cons (pv 1) (pa_cons pe_int pa_nil))) (fun _ _ => rfl)))
          (pss_cons (ps_set (i := 11) nd rfl (.inl rfl) (pe_callTy call_dictD (by rfl) m_dict (by decide +kernel) (pa_cons (pv 6) pa_nil)))
          (pss_cons (ps_dput hu1 (pv 11) pe_str pe_int rfl)
          (pss_cons (ps_set (i := 7) nd rfl (.inl rfl) (pe_op op_cat (pv 7) (pe_lst (pa_cons (pe_tup (pa_cons (pv 5) (pa_cons (pe_callTy call_dictD (by rfl) m_dict (by decide +kernel) (pa_cons (pv 6) pa_nil)) pa_nil))) (pa_cons (pe_tup (pa_cons (pe_meth (pv 5) clC mtV GV hr1 bV .nil pass0 (pa_cons pe_str (pa_cons pe_int pa_nil))) (pa_cons (pv 11) pa_nil))) pa_nil)))))
          (pss_cons (ps_set (i := 5) nd rfl (.inl rfl) (pe_meth (pv 5) clC mtV GV hr1 bV .nil pass0 (pa_cons (pv 9) (pa_cons (pv 10) pa_nil))))
          (pss_one (ps_dput hu1 (pv 6) (pv 9) (pv 10) rfl)))))))))
        (pss_one (ps_for PassesOwn.never rfl (pi_list (pe_op op_cat (pv 7) (pe_lst (pa_cons (pe_tup (pa_cons (pv 5) (pa_cons (pv 6) pa_nil))) pa_nil)))) (pg_tup rfl (pgs_cons (pg_name (i := 12) nd rfl (.inl rfl)) (pgs_cons (pg_name (i := 13) nd rfl (.inl rfl)) pgs_nil)))
          (pss_one (ps_if (pt_not (pt_val (pe_callG GR g hr1 (by rfl) gR FR.kp bR (pa_cons (pv 12) (pa_cons (pv 3) (pa_cons (pv 13) pa_nil))))))
            (pss_one (ps_ret pe_bl)) pss_nil))))))))
      (pss_cons (ps_set (i := 12) nd rfl (.inl rfl) (pe_lst (pa_cons (pe_make0 MC GU hr (by rfl) gC kbU_ rkbU_ pass0) (pa_cons (pe_makeK0 MC GU hr (by rfl) gC kbU_adding pass0 (pk_cons pe_int pk_nil)) (pa_cons (pe_makeK0 MC GU hr (by rfl) gC kbU_changing pass0 (pk_cons pe_int pk_nil)) (pa_cons (pe_makeK0 MC GU hr (by rfl) gC kbU_removing_adding pass0 (pk_cons pe_int (pk_cons pe_int pk_nil))) pa_nil))))))
      (pss_cons (ps_set (i := 14) nd rfl (.inl rfl) (pe_lst (pa_cons (pe_lst (pa_cons pe_int (pa_cons pe_int (pa_cons pe_int (pa_cons pe_dnewK pa_nil))))) (pa_cons (pe_lst (pa_cons pe_int (pa_cons pe_int (pa_cons pe_int (pa_cons pe_dnewK pa_nil))))) (pa_cons (pe_lst (pa_cons pe_int (pa_cons pe_int (pa_cons pe_int (pa_cons pe_dnewK pa_nil))))) (pa_cons (pe_lst (pa_cons pe_int (pa_cons pe_int (pa_cons pe_int (pa_cons pe_dnewK pa_nil))))) pa_nil))))))
      (pss_one (ps_ret (pe_cmpR (op_eqD hu) (pe_lc (own := [("one", 15)]) (g := gName 15) (tt := tYes) rfl nd (pi_list (pv 12)) (blkOk_by (N := NL) (sc := defScope sL) (by decide +kernel)) (fun _ _ _ _ _ => pg_name (i := 15) nd rfl (.inl rfl)) (fun _ _ _ _ _ => pts_nil) (fun _ _ _ _ _ => (pe_callG GS g hr1 (by rfl) gS FS.kp bS (pa_cons (pv 15) pa_nil)))) (pe_lc (own := [("one", 15)]) (g := gName 15) (tt := tYes) rfl nd (pi_list (pv 14)) (blkOk_by (N := NL) (sc := defScope sL) (by decide +kernel)) (fun _ _ _ _ _ => pg_name (i := 15) nd rfl (.inl rfl)) (fun _ _ _ _ _ => pts_nil) (fun _ _ _ _ _ => (pe_callB (r := rRepr K) (call_repr g hu sys) (by rfl) m_repr (by decide +kernel) (pa_cons (pv 15) pa_nil)))) (nomark _))))))), ?_⟩
    refine ⟨.ref a0, rfl, a0, ns, rfl, hS, hlen, fun H0 p c sm0 np nc hp => ?_⟩
    refine ⟨8, rfl, by decide, by decide, for_range (n := 8) (fun i σ H' => (∃ x2 x3 x5 x6 x7 x8 x9 x10 x11 x12 x13, σ = [some (.ref a0), some (.ref p), x2, x3, none, x5, x6, x7, x8, x9, x10, x11, x12, x13, none, none]) ∧ Pen H' p c (600 * i) []) ⟨⟨_, _, _, _, _, _, _, _, _, _, _, rfl⟩, hp⟩ ?_ ?_⟩
    · rintro i σ H1 hi ⟨⟨x2, x3, x5, x6, x7, x8, x9, x10, x11, x12, x13, rfl⟩, hp1⟩
      refine ⟨fun σ H' => ∃ (l3 : Addr) (a c1 r : Int), σ = [some (.ref a0), some (.ref p), some (.int (0 + i)), some (.ref l3), none, x5, x6, x7, x8, x9, x10, x11, x12, x13, none, none] ∧ H' l3 = some (.lst [.int a, .int c1, .int r]) ∧ okP a ∧ okP c1 ∧ okP r ∧ l3 ≠ p ∧ Pen H' p c (600 * i + 6) [], ?_, ?_⟩
      · refine ⟨3, rfl, by decide, by decide, fun D nD => lc_range (n := 3) (fun j H' => ∃ zs : List Int, H' D = some (.lst (zs.map V.int)) ∧ zs.length = j ∧ (∀ z ∈ zs, okP z) ∧ Pen H' p c (600 * i + 2 * j) []) ?_ ?_ ?_⟩
        · exact ⟨[], upd_same, rfl, fun _ h => absurd h List.not_mem_nil, hp1.off (hp1.ne_p nD) (hp1.ne_c nD)⟩
        · rintro j H' hj ⟨zs, hD, hz, hzs, pj⟩
          refine ⟨rfl, yes_if ?_⟩
          have Dp := hp1.ne_p nD
          have Dc := hp1.ne_c nD
          refine ⟨.ref p, rfl, p, c, 600 * i + 2 * j, [], 999, rfl, pj, by show 600 * i + 2 * j ≤ 1000000000000; omega, by decide, by decide, fun d1 H2 d10 d11 b1 p1 => ⟨_, _, rfl, rfl, by show 4 ≤ sizeLine; decide, fun l nl => ?_⟩⟩
          have hD2 := b1 _ _ Dp hD
          have Dl : D ≠ l := ne_of_none hD2 nl
          refine ⟨.ref p, rfl, p, c, 600 * i + 2 * j + 1, [], 4, rfl, p1.keep (same_upd nl), by show 600 * i + 2 * j + 1 ≤ 1000000000000; omega, by decide, by decide, fun d2 H3 d20 d21 b2 p2 => ?_⟩
          obtain ⟨v, hv, okv⟩ := pick_three (z := 1 + d1) d20 d21 ⟨by omega, by omega⟩
          refine ⟨l, _, d2, _, rfl, rfl, SqL.of (b2 l _ (p1.ne_p nl) upd_same), hv, _, b2 _ _ Dp (by rw [upd_ne Dl]; exact hD2), big_lt (by rw [List.length_map]; omega), zs ++ [v], by rw [upd_same, List.map_append]; rfl, by rw [List.length_append, hz]; rfl, fun z hzm => ?_, (p2.off Dp Dc).mono (by omega)⟩
          rcases List.mem_append.mp hzm with h | h
          · exact hzs z h
          · rw [List.mem_singleton.mp h]
            exact okv
        · rintro H' ⟨zs, hD, hz, hzs, pj⟩
          match zs, hz, hzs, hD with
          | [a, c1, r], _, hzs, hD => exact ⟨D, a, c1, r, rfl, hD, hzs a (by simp), hzs c1 (by simp), hzs r (by simp), hp1.ne_p nD, pj⟩
      · rintro σ H2 ⟨l3, a, c1, r, rfl, h3, ha, hc, hr_, l3p, hp2⟩
        -- deal, own, held
        refine ⟨.ref l3, rfl, l3, _, 2, .int r, rfl, rfl, SqL.of h3, atI_nat (j := 2) rfl, .ref l3, rfl, l3, _, 0, .int a, rfl, rfl, SqL.of h3, atI_nat (j := 0) rfl, .ref l3, rfl, l3, _, 1, .int c1, rfl, rfl, SqL.of h3, atI_nat (j := 1) rfl, rfl, rfl, fun x dx nx ndx nex => ?_⟩
        refine ⟨x, dx, a, c1, r, rfl, upd_same, ha, hc, hr_, fun e H3 ne hpr keep => ⟨rfl, ?_⟩⟩
        have s3 : Same H2 H3 := Same.made nx ndx keep
        intro d0 nd0
        have t1 := same_upd (o := .dK []) nd0
        refine ⟨Nat.zero_le _, fun h nh => ?_⟩
        have t2 := same_upd (o := .lst []) nh
        have sA := s3.trans (t1.trans t2)
        have e0 : e ≠ d0 := ne_of_none hpr.dc nd0
        have hpA := hp2.keep sA
        refine ⟨_, _, _, rfl, ?_⟩
        have st0 : InTurn CC (upd (upd H3 d0 (.dK [])) h (.lst [])) a c1 r p c l3 x d0 h (600 * i + 6) 0 [] [] := ⟨⟨e, [], [], (hpr.same t1).same t2, e0, sorted_nil⟩, t2 _ _ upd_same, rows_nil, Nat.le_refl _, ⟨[], upd_same, Nat.le_refl _, fun _ h => absurd h List.not_mem_nil⟩, sA _ _ h3, hpA, l3p, (hp2.keep (s3.trans t1)).ne_p nh⟩
        clear t1 t2 sA hpA
        revert st0
        generalize upd (upd H3 d0 (.dK [])) h (.lst []) = H4
        intro st0
        -- for more
        refine ⟨.ref p, rfl, p, c, 600 * i + 6, [], 9, rfl, st0.pen, by show 600 * i + 6 ≤ 1000000000000; omega, by decide, by decide, fun m H5 m0 m9 b5 p5 => ?_⟩
        have st5 : InTurn CC H5 a c1 r p c l3 x d0 h (600 * i + 7) 0 [] [] := st0.but b5 p5
        refine ⟨m, rfl, by omega, by omega, for_range (n := m.toNat) (fun j σ H' => ∃ (x h : Addr) (kvs0 : List (Key × V)) (xs : List Str) (y8 y9 y10 y11 : Option V), σ = [some (.ref a0), some (.ref p), some (.int (0 + i)), some (.ref l3), none, some (.ref x), some (.ref d0), some (.ref h), y8, y9, y10, y11, x12, x13, none, none] ∧ InTurn CC H' a c1 r p c l3 x d0 h (600 * i + 7 + 60 * j) j kvs0 xs) ⟨x, h, [], [], _, _, _, _, rfl, st5⟩ ?_ ?_⟩
        · rintro j σ H6 hj ⟨x, h, kvs0, xs, y8, y9, y10, y11, rfl, st⟩
          have hj8 : j ≤ 8 := by omega
          -- prefix
          refine ⟨fun σ H' => ∃ y : Str, σ = [some (.ref a0), some (.ref p), some (.int (0 + i)), some (.ref l3), none, some (.ref x), some (.ref d0), some (.ref h), some (.int (0 + j)), some (.str y), y10, y11, x12, x13, none, none] ∧ InTurn CC H' a c1 r p c l3 x d0 h (600 * i + 45 + 60 * j) j kvs0 xs ∧ isBits y = true ∧ y.length ≤ 32, ?_, ?_⟩
          · refine ⟨.ref p, rfl, p, c, _, 3, [], rfl, st.pen, by show 600 * i + 7 + 60 * j + 100 ≤ 1000000000000; omega, by decide, fun z1 H7 b7 p7 zb1 zl1 => ?_⟩
            refine ⟨.ref p, rfl, p, c, _, 32, [], rfl, p7, by show 600 * i + 7 + 60 * j + 1 + 3 + 100 ≤ 1000000000000; omega, by decide, fun z2 H8 b8 p8 zb2 zl2 => ?_⟩
            refine ⟨"0", 32, rfl, rfl, mulOk_of 1 1000 (by decide +kernel) (by decide) (by decide) (by decide) (by decide), by show 4 ≤ sizeLine; decide, fun l nl => ?_⟩
            refine ⟨.ref p, rfl, p, c, _, [], 4, rfl, p8.keep (same_upd nl), by show 600 * i + 7 + 60 * j + 1 + 3 + 1 + 32 ≤ 1000000000000; omega, by decide, by decide, fun d H9 d0_ d4 b9 p9 => ?_⟩
            obtain ⟨y, hy, yb, yl⟩ := pick_pfx d0_ d4 zb1 (Nat.le_trans zl1 (by decide)) zb2 zl2
            refine ⟨l, _, d, _, rfl, rfl, SqL.of (b9 l _ (p8.ne_p nl) upd_same), hy, y, rfl, ?_, yb, yl⟩
            exact st.but (b7.trans (b8.trans ((But.of_same (same_upd nl)).trans b9))) (p9.mono (by omega))
          · rintro σ H7 ⟨y, rfl, st7, yb, yl⟩
            -- cost_there
            refine ⟨fun σ H' => ∃ v : V, σ = [some (.ref a0), some (.ref p), some (.int (0 + i)), some (.ref l3), none, some (.ref x), some (.ref d0), some (.ref h), some (.int (0 + j)), some (.str y), some v, y11, x12, x13, none, none] ∧ InTurn CC H' a c1 r p c l3 x d0 h (600 * i + 7 + 60 * (j + 1)) j kvs0 xs ∧ ownV v, ?_, ?_⟩
            · refine ⟨.ref p, rfl, p, c, _, [], 50, rfl, st7.pen, by show 600 * i + 45 + 60 * j ≤ 1000000000000; omega, by decide, by decide, fun d1 H8 d10 d11 b8 p8 => ⟨_, _, rfl, rfl, by show 4 ≤ sizeLine; decide, fun l nl => ?_⟩⟩
              refine ⟨.ref p, rfl, p, c, _, [], 4, rfl, p8.keep (same_upd nl), by show 600 * i + 45 + 60 * j + 1 ≤ 1000000000000; omega, by decide, by decide, fun d2 H9 d20 d21 b9 p9 => ?_⟩
              obtain ⟨v, hv, okv⟩ := pick_own (z := 1 + d1) d20 d21 ⟨by omega, by omega⟩
              refine ⟨l, _, d2, _, rfl, rfl, SqL.of (b9 l _ (p8.ne_p nl) upd_same), hv, v, rfl, ?_, okv⟩
              exact st7.but (b8.trans ((But.of_same (same_upd nl)).trans b9)) (p9.mono (by omega))
            · rintro σ H8 ⟨v, rfl, st8, hv⟩
              clear st7 st
              obtain ⟨e, kvs, ys, hx, e0, hs⟩ := st8.own
              obtain ⟨ts, hh, hts, hall⟩ := st8.held
              have okS := hs.rows st8.ok
              have yl2 : ys.length = xs.length := hs.perm.length_eq
              have few := st8.few
              have kl := rows_len st8.ok
              refine ⟨.ref d0, rfl, d0, kvs0, rfl, .inl st8.d0_, fun d1 nd1 => ?_⟩
              refine ⟨.ref d1, rfl, d1, _, rfl, DPut.k (k := .inr "111") upd_same (big_lt (by omega)), ?_⟩
              rw [upd_upd]
              have s1 : Same H8 (upd H8 d1 (.dK (putK kvs0 (.inr "111") (.int 9)))) := same_upd nd1
              have hd1 : (upd H8 d1 (.dK (putK kvs0 (.inr "111") (.int 9)))) d1 = some (.dK (putK kvs0 (.inr "111") (.int 9))) := upd_same
              have d10 : d1 ≠ d0 := (ne_of_none st8.d0_ nd1).symm
              revert s1 hd1
              generalize upd H8 d1 (.dK (putK kvs0 (.inr "111") (.int 9))) = A1
              intro s1 hd1
              refine ⟨.ref h, rfl, .ref x, rfl, .ref d0, rfl, d0, kvs0, rfl, .inl (s1 _ _ st8.d0_), fun d2 nd2 => ⟨by show 2 ≤ sizeLine; decide, fun t1 nt1 => ?_⟩⟩
              have d20 : d2 ≠ d0 := (ne_of_none (s1 _ _ st8.d0_) nd2).symm
              have u2 := same_upd (o := .dK kvs0) nd2
              have u3 := same_upd (o := .tup [.ref x, .ref d2]) nt1
              have hd2 := u3 _ _ (upd_same (H := A1) (a := d2) (o := .dK kvs0))
              have ht1 : (upd (upd A1 d2 (.dK kvs0)) t1 (.tup [.ref x, .ref d2])) t1 = some (.tup [.ref x, .ref d2]) := upd_same
              have s2 := u2.trans u3
              revert s2 hd2 ht1
              generalize upd (upd A1 d2 (.dK kvs0)) t1 (.tup [.ref x, .ref d2]) = A2
              intro hd2 ht1 s2
              have hx2 := hx.same (s1.trans s2)
              obtain ⟨⟨dx2, hx2o⟩, _⟩ := id hx2
              refine ⟨.ref x, rfl, x, dx2, _, rfl, hx2o, pf_no _ _ _ _ (by decide +kernel) (by decide +kernel) (by decide +kernel) (by decide +kernel), x, e, a, c1, r, ys, kvs, "111", .int 9, rfl, hx2, ha, hc, hr_, okS, by decide +kernel, by decide +kernel, show ownV (.int 9) from ⟨by decide, by decide⟩, by omega, fun xs2 ok2 mem2 len2 xA eA ysA kvsA A3 nxA neA s3 hsA hpA => ?_⟩
              refine ⟨.ref d1, rfl, by show 2 ≤ sizeLine; decide, fun t2 nt2 => ⟨by show 2 ≤ sizeLine; decide, fun L nL => ?_⟩⟩
              have u4 := same_upd (o := .tup [.ref xA, .ref d1]) nt2
              have u5 := same_upd (o := .lst [.ref t1, .ref t2]) nL
              have ht2 := u5 _ _ (upd_same (H := A3) (a := t2) (o := .tup [.ref xA, .ref d1]))
              have hL : (upd (upd A3 t2 (.tup [.ref xA, .ref d1])) L (.lst [.ref t1, .ref t2])) L = some (.lst [.ref t1, .ref t2]) := upd_same
              have s4 := u4.trans u5
              revert s4 ht2 hL
              generalize upd (upd A3 t2 (.tup [.ref xA, .ref d1])) L (.lst [.ref t1, .ref t2]) = A4
              intro ht2 hL s4
              have s14 := s1.trans (s2.trans (s3.trans s4))
              refine ⟨h, L, _, _, rfl, rfl, s14 _ _ hh, hL, big_of (by rw [List.length_map]; show ts.length + 2 ≤ 1000; omega), fun G nG => ?_⟩
              have u6 := same_upd (o := .lst (ts.map V.ref ++ [.ref t1, .ref t2])) nG
              have hG : (upd A4 G (.lst (ts.map V.ref ++ [.ref t1, .ref t2]))) G = some (.lst (ts.map V.ref ++ [.ref t1, .ref t2])) := upd_same
              have Gp : G ≠ p := (st8.pen.keep s14).ne_p nG
              revert u6 hG
              generalize upd A4 G (.lst (ts.map V.ref ++ [.ref t1, .ref t2])) = A5
              intro u6 hG
              have s15 := s14.trans u6
              have hx5 := hx.same s15
              obtain ⟨⟨dx5, hx5o⟩, _⟩ := id hx5
              refine ⟨.ref x, rfl, x, dx5, _, rfl, hx5o, pf_no _ _ _ _ (by decide +kernel) (by decide +kernel) (by decide +kernel) (by decide +kernel), .str y, rfl, v, rfl, x, e, a, c1, r, ys, kvs, y, v, rfl, hx5, ha, hc, hr_, okS, yb, yl, hv, by omega, fun xs3 ok3 mem3 len3 xB eB ysB kvsB A6 nxB neB s6 hsB hpB => ?_⟩
              have s16 := s15.trans s6
              have hd6 := s16 _ _ st8.d0_
              refine ⟨v, rfl, .ref d0, rfl, .str y, rfl, d0, _, rfl, DPut.k (k := .inr y) hd6 (big_lt (by omega)), ?_⟩
              obtain ⟨xs4, ok4, mem4, len4⟩ := st8.ok.put yb yl hv
              obtain ⟨xs5, ok5, mem5, len5⟩ := st8.ok.put (y := "111") (v := .int 9) (by decide +kernel) (by decide +kernel) (show ownV (.int 9) from ⟨by decide, by decide⟩)
              obtain ⟨o, ho⟩ := (st8.pen.keep s16).lst
              have B2 : But2 p d0 A6 (upd A6 d0 (.dK (putK kvs0 (.inr y) v))) := But2.upd
              have s26 : Same A2 A6 := s3.trans (s4.trans (u6.trans s6))
              have s36 : Same A3 A6 := s4.trans (u6.trans s6)
              have s46 : Same A4 A6 := u6.trans s6
              have nd5 : eB ≠ d0 := (ne_of_none (s15 _ _ st8.d0_) neB).symm
              have ndA : eA ≠ d0 := (ne_of_none (s2 _ _ (s1 _ _ st8.d0_)) neA).symm
              refine ⟨xB, G, putK kvs0 (.inr y) v, xs4, _, _, _, _, rfl, ?_⟩
              have pp := (st8.pen.keep s16)
              refine ⟨⟨eB, kvsB, ysB, hpB.but2 B2 ho hd6 nd5, nd5, hs.put2 hsB ok3 ok4 mem3 mem4⟩, upd_same, ok4, by omega, ⟨ts ++ [t1, t2], ?_, by rw [List.length_append]; show ts.length + 2 ≤ _; omega, fun u hu => ?_⟩, ?_, ?_, st8.l3p, Gp⟩
              · rw [upd_ne (ne_of (s6 _ _ hG) hd6 (fun z => nomatch z)), List.map_append]
                exact s6 _ _ hG
              · refine Held1.but2 B2 ho hd6 ?_
                rcases List.mem_append.mp hu with hu | hu
                · exact (hall u hu).same s16
                · simp only [List.mem_cons, List.not_mem_nil, or_false] at hu
                  rcases hu with rfl | rfl
                  · exact ⟨x, e, d2, kvs0, kvs, xs, ys, s26 _ _ ht1, hx2.same s26, s26 _ _ hd2, st8.ok, by omega, hs, e0, d20⟩
                  · exact ⟨xA, eA, d1, _, kvsA, xs5, ysA, s46 _ _ ht2, hpA.same s36, s36 _ _ (s3 _ _ (s2 _ _ hd1)), ok5, by omega, hs.put2 hsA ok2 ok5 mem2 mem5, ndA, d10⟩
              · rw [upd_ne (ne_of (s16 _ _ st8.three) hd6 (fun z => nomatch z))]
                exact s16 _ _ st8.three
              · have n1 : d0 ≠ p := ne_of hd6 ho (fun z => nomatch z)
                obtain ⟨ns', i', s', P⟩ := id pp
                exact pp.off n1 (ne_of hd6 P.cells (fun z => nomatch z))
        · rintro σ H6 ⟨x, h, kvs0, xs, y8, y9, y10, y11, rfl, st⟩
          obtain ⟨e, kvs, ys, hx, e0, hs⟩ := st.own
          obtain ⟨ts, hh, hts, hall⟩ := st.held
          have few := st.few
          refine ⟨.ref h, rfl, .ref x, rfl, .ref d0, rfl, by show 2 ≤ sizeLine; decide, fun t1 nt1 => ⟨by show 1 ≤ sizeLine; decide, fun L nL => ?_⟩⟩
          have u1 := same_upd (o := .tup [.ref x, .ref d0]) nt1
          have u2 := same_upd (o := .lst [.ref t1]) nL
          have ht1 := u2 _ _ (upd_same (H := H6) (a := t1) (o := .tup [.ref x, .ref d0]))
          have s2 := u1.trans u2
          refine ⟨h, L, _, _, rfl, rfl, s2 _ _ hh, upd_same, big_of (by rw [List.length_map]; show ts.length + 1 ≤ 1000; omega), fun G nG => ?_⟩
          have u3 := same_upd (o := .lst (ts.map V.ref ++ [.ref t1])) nG
          have hG : (upd (upd (upd H6 t1 (.tup [.ref x, .ref d0])) L (.lst [.ref t1])) G (.lst (ts.map V.ref ++ [.ref t1]))) G = some (.lst ((ts ++ [t1]).map V.ref)) := by rw [upd_same, List.map_append]; rfl
          have s3 := s2.trans u3
          have ht3 := u3 _ _ ht1
          revert s3 ht3 hG
          generalize upd (upd (upd H6 t1 (.tup [.ref x, .ref d0])) L (.lst [.ref t1])) G (.lst (ts.map V.ref ++ [.ref t1])) = H7
          intro hG s3 ht3
          have hall2 : ∀ u ∈ ts ++ [t1], ∃ (x e d : Addr) (kvs0 kvs : List (Key × V)) (xs ys : List Str), H7 u = some (.tup [.ref x, .ref d]) ∧ PriceAt CC H7 x e a c1 r kvs ∧ H7 d = some (.dK kvs0) ∧ RowsOk 32 ownV xs kvs0 ∧ xs.length ≤ 20 ∧ Sorted xs kvs0 kvs ys := fun u hu => by
            rcases List.mem_append.mp hu with hu | hu
            · obtain ⟨x, e, d, k0, k1, xs, ys, a1, a2, a3, a4, a5, a6, _, _⟩ := (hall u hu).same s3
              exact ⟨x, e, d, k0, k1, xs, ys, a1, a2, a3, a4, a5, a6⟩
            · rw [List.mem_singleton.mp hu]
              exact ⟨x, e, d0, kvs0, kvs, xs, ys, ht3, hx.same s3, s3 _ _ st.d0_, st.ok, by omega, hs⟩
          refine ⟨G, rfl, ⟨_, SqL.of hG⟩, for_list (K := K) (a := G) (xs := (ts ++ [t1]).map V.ref) (fun _ σ H' => (∃ y12 y13, σ = [some (.ref a0), some (.ref p), some (.int (0 + i)), some (.ref l3), none, some (.ref x), some (.ref d0), some (.ref h), y8, y9, y10, y11, y12, y13, none, none]) ∧ Same H7 H') ⟨⟨_, _, rfl⟩, .refl _⟩ (fun _ _ _ _ h => SqL.of (h.2 _ _ hG)) ?_ ?_⟩
          · rintro jj u σ H8 hu ⟨⟨y12, y13, rfl⟩, s8⟩
            rw [List.getElem?_map] at hu
            obtain ⟨t, htj, rfl⟩ := Option.map_eq_some_iff.mp hu
            obtain ⟨x', e', d', k0, k1, xs', ys', b1, b2, b3, b4, b5, b6⟩ := hall2 t (List.mem_of_getElem? htj)
            refine ⟨t, _, rfl, SqT.of (s8 _ _ b1), rfl, _, _, rfl, _, _, rfl, rfl, ?_⟩
            refine ⟨.ref x', rfl, .ref l3, rfl, .ref d', rfl, x', e', l3, d', a, c1, r, xs', ys', k0, k1, rfl, b2.same s8, s8 _ _ (s3 _ _ st.three), s8 _ _ b3, ha, hc, hr_, b4, by omega, b6, fun H9 s9 => ⟨_, rfl, iteF ?_⟩⟩
            exact ⟨⟨_, _, rfl⟩, s8.trans s9⟩
          · rintro σ H8 ⟨⟨y12, y13, rfl⟩, s8⟩
            exact ⟨⟨_, _, _, _, _, _, _, _, _, _, _, rfl⟩, (st.pen.keep (s3.trans s8)).mono (by omega)⟩
    · rintro σ H1 ⟨⟨x2, x3, x5, x6, x7, x8, x9, x10, x11, x12, x13, rfl⟩, hp1⟩
      intro xA dA nA ndA _
      refine ⟨xA, dA, 1, 1, 1, rfl, upd_same, p1, p1, p1, fun eA HA neA hpA keepA => ⟨rfl, ?_⟩⟩
      have sA : Same H1 HA := Same.made nA ndA keepA
      refine ⟨rfl, rfl, fun xB dB nB ndB _ => ?_⟩
      refine ⟨xB, dB, 5, 1, 1, rfl, upd_same, p5, p1, p1, fun eB HB neB hpB keepB => ⟨rfl, ?_⟩⟩
      have sB : Same HA HB := Same.made nB ndB keepB
      refine ⟨rfl, rfl, fun xC dC nC ndC _ => ?_⟩
      refine ⟨xC, dC, 1, 6, 1, rfl, upd_same, p1, p6, p1, fun eC HC neC hpC keepC => ⟨rfl, ?_⟩⟩
      have sC : Same HB HC := Same.made nC ndC keepC
      refine ⟨rfl, rfl, fun xD dD nD ndD _ => ?_⟩
      refine ⟨xD, dD, 8, 1, 7, rfl, upd_same, p8, p1, p7, fun eD HD neD hpD keepD => ⟨rfl, ?_⟩⟩
      have sD : Same HC HD := Same.made nD ndD keepD
      refine ⟨by show 4 ≤ sizeLine; decide, fun L1 nL1 => ?_⟩
      have sE := same_upd (o := .lst [.ref xA, .ref xB, .ref xC, .ref xD]) nL1
      have hL1 : (upd HD L1 (.lst [.ref xA, .ref xB, .ref xC, .ref xD])) L1 = some (.lst [.ref xA, .ref xB, .ref xC, .ref xD]) := upd_same
      have w1 : Four CC (upd HD L1 (.lst [.ref xA, .ref xB, .ref xC, .ref xD])) [xA, xB, xC, xD] := ⟨⟨eA, hpA.same (sB.trans (sC.trans (sD.trans sE)))⟩, ⟨eB, hpB.same (sC.trans (sD.trans sE))⟩, ⟨eC, hpC.same (sD.trans sE)⟩, ⟨eD, hpD.same sE⟩⟩
      revert hL1 w1
      generalize upd HD L1 (.lst [.ref xA, .ref xB, .ref xC, .ref xD]) = H2
      intro hL1 w1
      intro d1 nd1
      refine ⟨by show 4 ≤ sizeLine; decide, fun l1 nl1 => ?_⟩
      intro d2 nd2
      refine ⟨by show 4 ≤ sizeLine; decide, fun l2 nl2 => ?_⟩
      intro d3 nd3
      refine ⟨by show 4 ≤ sizeLine; decide, fun l3 nl3 => ?_⟩
      intro d4 nd4
      refine ⟨by show 4 ≤ sizeLine; decide, fun l4 nl4 => ⟨by show 4 ≤ sizeLine; decide, fun L2 nL2 => ?_⟩⟩
      have t1 := same_upd (o := .dK []) nd1
      have t2 := same_upd (o := .lst [.int 1, .int 1, .int 1, .ref d1]) nl1
      have t3 := same_upd (o := .dK []) nd2
      have t4 := same_upd (o := .lst [.int 5, .int 1, .int 1, .ref d2]) nl2
      have t5 := same_upd (o := .dK []) nd3
      have t6 := same_upd (o := .lst [.int 1, .int 6, .int 1, .ref d3]) nl3
      have t7 := same_upd (o := .dK []) nd4
      have t8 := same_upd (o := .lst [.int 8, .int 1, .int 7, .ref d4]) nl4
      have t9 := same_upd (o := .lst [.ref l1, .ref l2, .ref l3, .ref l4]) nL2
      have z8 := t8.trans t9
      have z7 := t7.trans z8
      have z6 := t6.trans z7
      have z5 := t5.trans z6
      have z4 := t4.trans z5
      have z3 := t3.trans z4
      have z2 := t2.trans z3
      have z1 := t1.trans z2
      have f1 := z2 _ _ (upd_same (H := H2) (a := d1) (o := .dK []))
      have g1 := z3 _ _ (upd_same (a := l1) (o := .lst [.int 1, .int 1, .int 1, .ref d1]))
      have f2 := z4 _ _ (upd_same (a := d2) (o := .dK []))
      have g2 := z5 _ _ (upd_same (a := l2) (o := .lst [.int 5, .int 1, .int 1, .ref d2]))
      have f3 := z6 _ _ (upd_same (a := d3) (o := .dK []))
      have g3 := z7 _ _ (upd_same (a := l3) (o := .lst [.int 1, .int 6, .int 1, .ref d3]))
      have f4 := z8 _ _ (upd_same (a := d4) (o := .dK []))
      have g4 := t9 _ _ (upd_same (a := l4) (o := .lst [.int 8, .int 1, .int 7, .ref d4]))
      have hL2 := upd_same (H := (upd (upd (upd (upd (upd (upd (upd (upd H2 d1 (.dK [])) l1 (.lst [.int 1, .int 1, .int 1, .ref d1])) d2 (.dK [])) l2 (.lst [.int 5, .int 1, .int 1, .ref d2])) d3 (.dK [])) l3 (.lst [.int 1, .int 6, .int 1, .ref d3])) d4 (.dK [])) l4 (.lst [.int 8, .int 1, .int 7, .ref d4]))) (a := L2) (o := .lst [.ref l1, .ref l2, .ref l3, .ref l4])
      have w2 : FourL _ [l1, l2, l3, l4] := ⟨⟨d1, g1, f1⟩, ⟨d2, g2, f2⟩, ⟨d3, g3, f3⟩, ⟨d4, g4, f4⟩⟩
      have hL1' := z1 _ _ hL1
      have w1' := w1.same z1
      clear t1 t2 t3 t4 t5 t6 t7 t8 t9 z1 z2 z3 z4 z5 z6 z7 z8 f1 f2 f3 f4 g1 g2 g3 g4
      revert hL2 w2 hL1' w1'
      generalize upd (upd (upd (upd (upd (upd (upd (upd (upd H2 d1 (.dK [])) l1 (.lst [.int 1, .int 1, .int 1, .ref d1])) d2 (.dK [])) l2 (.lst [.int 5, .int 1, .int 1, .ref d2])) d3 (.dK [])) l3 (.lst [.int 1, .int 6, .int 1, .ref d3])) d4 (.dK [])) l4 (.lst [.int 8, .int 1, .int 7, .ref d4])) L2 (.lst [.ref l1, .ref l2, .ref l3, .ref l4]) = H3
      intro hL2 w2 hL1' w1'
      refine ⟨.ref L1, rfl, L1, rfl, ⟨_, SqL.of hL1'⟩, fun D nD => ?_⟩
      refine lc_it walk_list (fun j H' => H' D = some (.lst ((four.take j).map V.str)) ∧ Same H3 H') ⟨upd_same, same_upd nD⟩ (fun _ _ _ h => SqL.of (h.2 _ _ hL1')) ?_ ?_
      · rintro j u H5 H6 hj ⟨hD, s6⟩ ⟨rfl, hu⟩
        obtain ⟨x, a, c1, r, rfl, ⟨e, hx⟩, k1, k2, k3, e4⟩ := w1'.at hu
        refine ⟨rfl, yes_if ?_⟩
        refine ⟨.ref x, rfl, x, e, a, c1, r, [], [], rfl, hx.same s6, k1, k2, k3, rows_nil, by show 0 ≤ 40; decide, fun H7 s7 => ?_⟩
        refine ⟨_, s7 _ _ hD, ?_, ?_, fun b o hb => ?_⟩
        · refine big_lt ?_
          rw [List.length_map, List.length_take]
          show min j 4 ≤ 1000
          omega
        · rw [upd_same, List.take_add_one, e4, List.map_append]
          rfl
        · rw [upd_ne (ne_of_none hb nD)]
          exact s7 _ _ (s6 _ _ hb)
      · rintro H5 ⟨hD, s5⟩
        have hD' : H5 D = some (.lst (four.map V.str)) := hD
        refine ⟨.ref L2, rfl, L2, rfl, ⟨_, SqL.of (s5 _ _ hL2)⟩, fun D2 nD2 => ?_⟩
        refine lc_it walk_list (fun j H' => H' D2 = some (.lst ((four.take j).map V.str)) ∧ Same H5 H') ⟨upd_same, same_upd nD2⟩ (fun _ _ _ h => SqL.of (h.2 _ _ (s5 _ _ hL2))) ?_ ?_
        · rintro j u H6 H7 hj ⟨hD2, s7⟩ ⟨rfl, hu⟩
          obtain ⟨l, a, c1, r, rfl, ⟨d, hl, hd⟩, k1, k2, k3, e4⟩ := w2.at hu
          obtain ⟨N, dr, okd⟩ := okShown (K := K) k1 k2 k3 rows_nil (by show 0 ≤ 40; decide) (s7 _ _ (s5 _ _ hd)) (s7 _ _ (s5 _ _ hl))
          refine ⟨rfl, yes_if ?_⟩
          refine ⟨.ref l, rfl, .ref l, _, N, rfl, dr, okd.sh, Nat.le_trans okd.dp (by decide), Nat.le_trans okd.ln (by decide), _, hD2, ?_, ?_, fun b o hb => ?_⟩
          · refine big_lt ?_
            rw [List.length_map, List.length_take]
            show min j 4 ≤ 1000
            omega
          · rw [upd_same, List.take_add_one, e4, List.map_append]
            rfl
          · rw [upd_ne (ne_of_none hb nD2)]
            exact s7 _ _ hb
        · rintro H6 ⟨hD2, s6⟩
          have hD2' : H6 D2 = some (.lst (four.map V.str)) := hD2
          refine ⟨.list (four.map PyData.str), .list (four.map PyData.str), .lst (SqL.of (s6 _ _ hD')) (dpAll_strs four), .lst (SqL.of hD2') (dpAll_strs four), by decide +kernel, by decide +kernel, ?_⟩
          rw [show PyData.eqv (.list (four.map PyData.str)) (.list (four.map PyData.str)) = true by decide +kernel]
          exact q _
end
abbrev sLaw : Stmt := sL
theorem all_mk {l : PySem.W.OpenLaw} {w : World} {K : PySem.W.Frag} {h : Heap} {mg : Str → Option Value} {fa fP fN fDr fB fH fI fW fJ fS fR fL fV fPa fPc fPr fPs fU CC  pPa pPc pPr pPs : Addr} (X : K.In h) (G : h.Ns mainGlobals mg) (hfa : mg "law" = some (.ref fa))
    {odP anP odN anN odDr anDr odB anB odH anH odI anI odW anW odJ anJ odS anS odR anR odL anL odV anV odPa anPa odPc anPc odPr anPr odPs anPs odU anU : Option Addr} {slP slN slDr slB slH slI slW slJ slS slR slL slV slPa slPc slPr slPs slU : Array (Option Value)} {ocP dcP pmP cdP ctP kVP ocN dcN pmN cdN ctN kVN ocDr dcDr pmDr cdDr ctDr kVDr ocB dcB pmB cdB ctB kVB ocH dcH pmH cdH ctH kVH ocI dcI pmI cdI ctI kVI ocW dcW pmW cdW ctW kVW ocJ dcJ pmJ cdJ ctJ kVJ ocS dcS pmS cdS ctS kVS ocR dcR pmR cdR ctR kVR ocL dcL pmL cdL ctL kVL ocV dcV pmV cdV ctV kVV ocPa dcPa pmPa cdPa ctPa kVPa ocPc dcPc pmPc cdPc ctPc kVPc ocPr dcPr pmPr cdPr ctPr kVPr ocPs dcPs pmPs cdPs ctPs kVPs ocU dcU pmU cdU ctU : Value} {tkZ tkY : Tok}
    {rsPa : List Value}
    {rsPc : List Value}
    {rsPr : List Value}
    {rsPs : List Value}
    {kDU : Addr} {ktU0 : Tok} {ktU1 : Tok} {ktU2 : Tok}
    (aP : PySem.W.nsIn K mainGlobals "_law_pen" = some (some (.ref fP)))
    (lP : K.lookup fP = some ⟨ocP, odP, .func (PySem.W.fnOf "_law_pen" "_law_pen" (defArgs sP) (defBody sP) (defScope sP) .none kVP dcP pmP anP cdP ctP), slP⟩)
    (cP : PySem.W.codeIn K cdP "_law_pen" = true) (kP : PySem.W.keepIn K (.ref fP) = true)
    (aN : PySem.W.nsIn K mainGlobals "_law_next" = some (some (.ref fN)))
    (lN : K.lookup fN = some ⟨ocN, odN, .func (PySem.W.fnOf "_law_next" "_law_next" (defArgs sN) (defBody sN) (defScope sN) .none kVN dcN pmN anN cdN ctN), slN⟩)
    (cN : PySem.W.codeIn K cdN "_law_next" = true) (kN : PySem.W.keepIn K (.ref fN) = true)
    (aDr : PySem.W.nsIn K mainGlobals "_law_draw" = some (some (.ref fDr)))
    (lDr : K.lookup fDr = some ⟨ocDr, odDr, .func (PySem.W.fnOf "_law_draw" "_law_draw" (defArgs sDr) (defBody sDr) (defScope sDr) .none kVDr dcDr pmDr anDr cdDr ctDr), slDr⟩)
    (cDr : PySem.W.codeIn K cdDr "_law_draw" = true) (kDr : PySem.W.keepIn K (.ref fDr) = true)
    (aB : PySem.W.nsIn K mainGlobals "_law_bits" = some (some (.ref fB)))
    (lB : K.lookup fB = some ⟨ocB, odB, .func (PySem.W.fnOf "_law_bits" "_law_bits" (defArgs sB) (defBody sB) (defScope sB) .none kVB dcB pmB anB cdB ctB), slB⟩)
    (cB : PySem.W.codeIn K cdB "_law_bits" = true) (kB : PySem.W.keepIn K (.ref fB) = true)
    (aH : PySem.W.nsIn K mainGlobals "has_only" = some (some (.ref fH)))
    (lH : K.lookup fH = some ⟨ocH, odH, .func (PySem.W.fnOf "has_only" "has_only" (defArgs sH) (defBody sH) (defScope sH) .none kVH dcH pmH anH cdH ctH), slH⟩)
    (cH : PySem.W.codeIn K cdH "has_only" = true) (kH : PySem.W.keepIn K (.ref fH) = true)
    (aI : PySem.W.nsIn K mainGlobals "is_prefix" = some (some (.ref fI)))
    (lI : K.lookup fI = some ⟨ocI, odI, .func (PySem.W.fnOf "is_prefix" "is_prefix" (defArgs sI) (defBody sI) (defScope sI) .none kVI dcI pmI anI cdI ctI), slI⟩)
    (cI : PySem.W.codeIn K cdI "is_prefix" = true) (kI : PySem.W.keepIn K (.ref fI) = true)
    (aW : PySem.W.nsIn K mainGlobals "is_whole" = some (some (.ref fW)))
    (lW : K.lookup fW = some ⟨ocW, odW, .func (PySem.W.fnOf "is_whole" "is_whole" (defArgs sW) (defBody sW) (defScope sW) .none kVW dcW pmW anW cdW ctW), slW⟩)
    (cW : PySem.W.codeIn K cdW "is_whole" = true) (kW : PySem.W.keepIn K (.ref fW) = true)
    (aJ : PySem.W.nsIn K mainGlobals "is_price" = some (some (.ref fJ)))
    (lJ : K.lookup fJ = some ⟨ocJ, odJ, .func (PySem.W.fnOf "is_price" "is_price" (defArgs sJ) (defBody sJ) (defScope sJ) .none kVJ dcJ pmJ anJ cdJ ctJ), slJ⟩)
    (cJ : PySem.W.codeIn K cdJ "is_price" = true) (kJ : PySem.W.keepIn K (.ref fJ) = true)
    (aS : PySem.W.nsIn K mainGlobals "_law_shown" = some (some (.ref fS)))
    (lS : K.lookup fS = some ⟨ocS, odS, .func (PySem.W.fnOf "_law_shown" "_law_shown" (defArgs sS) (defBody sS) (defScope sS) .none kVS dcS pmS anS cdS ctS), slS⟩)
    (cS : PySem.W.codeIn K cdS "_law_shown" = true) (kS : PySem.W.keepIn K (.ref fS) = true)
    (aR : PySem.W.nsIn K mainGlobals "_law_right" = some (some (.ref fR)))
    (lR : K.lookup fR = some ⟨ocR, odR, .func (PySem.W.fnOf "_law_right" "_law_right" (defArgs sR) (defBody sR) (defScope sR) .none kVR dcR pmR anR cdR ctR), slR⟩)
    (cR : PySem.W.codeIn K cdR "_law_right" = true) (kR : PySem.W.keepIn K (.ref fR) = true)
    (aL : PySem.W.nsIn K mainGlobals "law" = some (some (.ref fL)))
    (lL : K.lookup fL = some ⟨ocL, odL, .func (PySem.W.fnOf "law" "law" (defArgs sL) (defBody sL) (defScope sL) .none kVL dcL pmL anL cdL ctL), slL⟩)
    (cL : PySem.W.codeIn K cdL "law" = true) (kL : PySem.W.keepIn K (.ref fL) = true)
    (aC : PySem.W.nsIn K mainGlobals "Prices" = some (some (.ref CC))) (pgC : PySem.W.plainGet K CC Str.empty = true) (hdC : PySem.W.hasDictIn K CC = true) (poC : PySem.W.plainOver K CC = true) (saC : PySem.W.findIn K (.ref CC) "__setattr__" = some (some (.builtin "object.__setattr__"))) (mkC : PySem.W.makesIn K CC = true) (kcC : PySem.W.keepIn K (.ref CC) = true)
    (nC_adding : PySem.W.findIn K (.ref CC) "_adding" = some none)
    (nC_changing : PySem.W.findIn K (.ref CC) "_changing" = some none)
    (nC_removing : PySem.W.findIn K (.ref CC) "_removing" = some none)
    (nC_single : PySem.W.findIn K (.ref CC) "_single" = some none)
    (aV : PySem.W.findIn K (.ref CC) "with_row" = some (some (.ref fV))) (iV : PySem.W.isFn K (.ref fV) = true)
    (lV : K.lookup fV = some ⟨ocV, odV, .func (PySem.W.fnOf "with_row" "Prices.with_row" (defArgs sV) (defBody sV) (defScope sV) .none kVV dcV pmV anV cdV ctV), slV⟩)
    (cV : PySem.W.codeIn K cdV "Prices.with_row" = true) (kV : PySem.W.keepIn K (.ref fV) = true)
    (aPa : PySem.W.findIn K (.ref CC) "adding" = some (some (.ref pPa))) (ggPa : PySem.W.specialIn K (.ref pPa) "__get__" = some (some (.builtin "property.__get__"))) (tkPa : PySem.W.takesIn K (.ref pPa) = some true) (rcPa : PySem.W.recIn K pPa "property" = some (.ref fPa :: rsPa))
    (lPa : K.lookup fPa = some ⟨ocPa, odPa, .func (PySem.W.fnOf "adding" "Prices.adding" (defArgs sPa) (defBody sPa) (defScope sPa) .none kVPa dcPa pmPa anPa cdPa ctPa), slPa⟩)
    (cPa : PySem.W.codeIn K cdPa "Prices.adding" = true) (kPa : PySem.W.keepIn K (.ref fPa) = true)
    (aPc : PySem.W.findIn K (.ref CC) "changing" = some (some (.ref pPc))) (ggPc : PySem.W.specialIn K (.ref pPc) "__get__" = some (some (.builtin "property.__get__"))) (tkPc : PySem.W.takesIn K (.ref pPc) = some true) (rcPc : PySem.W.recIn K pPc "property" = some (.ref fPc :: rsPc))
    (lPc : K.lookup fPc = some ⟨ocPc, odPc, .func (PySem.W.fnOf "changing" "Prices.changing" (defArgs sPc) (defBody sPc) (defScope sPc) .none kVPc dcPc pmPc anPc cdPc ctPc), slPc⟩)
    (cPc : PySem.W.codeIn K cdPc "Prices.changing" = true) (kPc : PySem.W.keepIn K (.ref fPc) = true)
    (aPr : PySem.W.findIn K (.ref CC) "removing" = some (some (.ref pPr))) (ggPr : PySem.W.specialIn K (.ref pPr) "__get__" = some (some (.builtin "property.__get__"))) (tkPr : PySem.W.takesIn K (.ref pPr) = some true) (rcPr : PySem.W.recIn K pPr "property" = some (.ref fPr :: rsPr))
    (lPr : K.lookup fPr = some ⟨ocPr, odPr, .func (PySem.W.fnOf "removing" "Prices.removing" (defArgs sPr) (defBody sPr) (defScope sPr) .none kVPr dcPr pmPr anPr cdPr ctPr), slPr⟩)
    (cPr : PySem.W.codeIn K cdPr "Prices.removing" = true) (kPr : PySem.W.keepIn K (.ref fPr) = true)
    (aPs : PySem.W.findIn K (.ref CC) "single" = some (some (.ref pPs))) (ggPs : PySem.W.specialIn K (.ref pPs) "__get__" = some (some (.builtin "property.__get__"))) (tkPs : PySem.W.takesIn K (.ref pPs) = some true) (rcPs : PySem.W.recIn K pPs "property" = some (.ref fPs :: rsPs))
    (lPs : K.lookup fPs = some ⟨ocPs, odPs, .func (PySem.W.fnOf "single" "Prices.single" (defArgs sPs) (defBody sPs) (defScope sPs) .none kVPs dcPs pmPs anPs cdPs ctPs), slPs⟩)
    (cPs : PySem.W.codeIn K cdPs "Prices.single" = true) (kPs : PySem.W.keepIn K (.ref fPs) = true)
    (aU : PySem.W.findIn K (.ref CC) "__init__" = some (some (.ref fU))) (iU : PySem.W.isFn K (.ref fU) = true)
    (lU : K.lookup fU = some ⟨ocU, odU, .func (PySem.W.fnOf "__init__" "Prices.__init__" (defArgs sU) (defBody sU) (defScope sU) .none (.ref kDU) dcU pmU anU cdU ctU), slU⟩)
    (cU : PySem.W.codeIn K cdU "Prices.__init__" = true) (kU : PySem.W.keepIn K (.ref fU) = true)
    (kwU0 : PySem.W.nsIn K kDU "adding" = some (some (.int 1 ktU0)))
    (kwU1 : PySem.W.nsIn K kDU "changing" = some (some (.int 1 ktU1)))
    (kwU2 : PySem.W.nsIn K kDU "removing" = some (some (.int 1 ktU2)))
    (vZ : PySem.W.nsIn K mainGlobals "WIDEST" = some (some (.int 32 tkZ)))
    (vY : PySem.W.nsIn K mainGlobals "HIGHEST_PRICE" = some (some (.int 999 tkY)))
    (z0 : PySem.W.nsIn K mainGlobals "list" = some none)
    (z1 : PySem.W.nsIn K mainGlobals "len" = some none)
    (z2 : PySem.W.nsIn K mainGlobals "range" = some none)
    (z3 : PySem.W.nsIn K mainGlobals "isinstance" = some none)
    (z4 : PySem.W.nsIn K mainGlobals "str" = some none)
    (z5 : PySem.W.nsIn K mainGlobals "int" = some none)
    (z6 : PySem.W.nsIn K mainGlobals "bool" = some none)
    (z7 : PySem.W.nsIn K mainGlobals "dict" = some none)
    (z8 : PySem.W.nsIn K mainGlobals "sorted" = some none)
    (z9 : PySem.W.nsIn K mainGlobals "repr" = some none)
    : ∃ fd : FuncData, (∀ (s : Shared) (v : Value), BindsTo s fd ⟨[v], []⟩ [("script", v)]) ∧ ∀ base : Heap, K.In base → base.Ns mainGlobals mg → (∃ mm, base.Ns sysModules mm) → FnG l.prog w K mg base 7 fa fd ["script"] (spLaw K) := by
  have e := hfa.symm.trans (PySem.W.mg_of X G aL)
  cases e
  have FP := fun_mk (st := sP) lP cP kP
  have bP := FP.binds (ps := ["script"]) fun _ _ _ _ _ _ us hl => match us, hl with | [_], _ => rfl
  have gP := PySem.W.mg_of X G aP
  have FN := fun_mk (st := sN) lN cN kN
  have bN := FN.binds (ps := ["pen"]) fun _ _ _ _ _ _ us hl => match us, hl with | [_], _ => rfl
  have gN := PySem.W.mg_of X G aN
  have FDr := fun_mk (st := sDr) lDr cDr kDr
  have bDr := FDr.binds (ps := ["pen", "below"]) fun _ _ _ _ _ _ us hl => match us, hl with | [_, _], _ => rfl
  have gDr := PySem.W.mg_of X G aDr
  have FB := fun_mk (st := sB) lB cB kB
  have bB := FB.binds (ps := ["pen", "size"]) fun _ _ _ _ _ _ us hl => match us, hl with | [_, _], _ => rfl
  have gB := PySem.W.mg_of X G aB
  have FH := fun_mk (st := sH) lH cH kH
  have bH := FH.binds (ps := ["text", "signs"]) fun _ _ _ _ _ _ us hl => match us, hl with | [_, _], _ => rfl
  have gH := PySem.W.mg_of X G aH
  have FI := fun_mk (st := sI) lI cI kI
  have bI := FI.binds (ps := ["thing", "width"]) fun _ _ _ _ _ _ us hl => match us, hl with | [_, _], _ => rfl
  have gI := PySem.W.mg_of X G aI
  have FW := fun_mk (st := sW) lW cW kW
  have bW := FW.binds (ps := ["thing"]) fun _ _ _ _ _ _ us hl => match us, hl with | [_], _ => rfl
  have gW := PySem.W.mg_of X G aW
  have FJ := fun_mk (st := sJ) lJ cJ kJ
  have bJ := FJ.binds (ps := ["thing"]) fun _ _ _ _ _ _ us hl => match us, hl with | [_], _ => rfl
  have gJ := PySem.W.mg_of X G aJ
  have FS := fun_mk (st := sS) lS cS kS
  have bS := FS.binds (ps := ["deal"]) fun _ _ _ _ _ _ us hl => match us, hl with | [_], _ => rfl
  have gS := PySem.W.mg_of X G aS
  have FR := fun_mk (st := sR) lR cR kR
  have bR := FR.binds (ps := ["deal", "three", "own"]) fun _ _ _ _ _ _ us hl => match us, hl with | [_, _, _], _ => rfl
  have gR := PySem.W.mg_of X G aR
  have FL := fun_mk (st := sL) lL cL kL
  have clC : Cls K CC := ⟨pgC, hdC, poC, saC⟩
  have gC := PySem.W.mg_of X G aC
  have FV := fun_mk (st := sV) lV cV kV
  have bV := FV.binds (ps := ["self", "prefix", "price"]) fun _ _ _ _ _ _ us hl => match us, hl with | [_, _, _], _ => rfl
  have mtV : Meth K CC "with_row" fV := ⟨aV, iV, kV⟩
  have FPa := fun_mk (st := sPa) lPa cPa kPa
  have bPa := FPa.binds (ps := ["self"]) fun _ _ _ _ _ _ us hl => match us, hl with | [_], _ => rfl
  have PPa : PropOf K CC "adding" pPa fPa := ⟨aPa, ggPa, tkPa, ⟨_, rcPa⟩⟩
  have FPc := fun_mk (st := sPc) lPc cPc kPc
  have bPc := FPc.binds (ps := ["self"]) fun _ _ _ _ _ _ us hl => match us, hl with | [_], _ => rfl
  have PPc : PropOf K CC "changing" pPc fPc := ⟨aPc, ggPc, tkPc, ⟨_, rcPc⟩⟩
  have FPr := fun_mk (st := sPr) lPr cPr kPr
  have bPr := FPr.binds (ps := ["self"]) fun _ _ _ _ _ _ us hl => match us, hl with | [_], _ => rfl
  have PPr : PropOf K CC "removing" pPr fPr := ⟨aPr, ggPr, tkPr, ⟨_, rcPr⟩⟩
  have FPs := fun_mk (st := sPs) lPs cPs kPs
  have bPs := FPs.binds (ps := ["self"]) fun _ _ _ _ _ _ us hl => match us, hl with | [_], _ => rfl
  have PPs : PropOf K CC "single" pPs fPs := ⟨aPs, ggPs, tkPs, ⟨_, rcPs⟩⟩
  have FU : FunD K "__init__" "Prices.__init__" (defArgs sU) (defBody sU) (defScope sU) [] [("adding", .int 1), ("changing", .int 1), ("removing", .int 1)] fU _ := ⟨⟨_, _, _, _, _, _, _, _, _, _, rfl, lU, cU, .inl ⟨rfl, rfl⟩, .inr ⟨_, rfl, fun q hq => by
    simp only [List.mem_cons, List.not_mem_nil, or_false] at hq
    rcases hq with rfl | rfl | rfl
    · exact ⟨_, kwU0, _, rfl⟩
    · exact ⟨_, kwU1, _, rfl⟩
    · exact ⟨_, kwU2, _, rfl⟩
    ⟩⟩, kU⟩
  have MC : Mk K CC fU := ⟨mkC, aU, iU, kcC⟩
  have wZ := PySem.W.mg_of X G vZ
  have wY := PySem.W.mg_of X G vY
  have m_list := PySem.W.mg_none_of X G z0
  have m_len := PySem.W.mg_none_of X G z1
  have m_range := PySem.W.mg_none_of X G z2
  have m_isinstance := PySem.W.mg_none_of X G z3
  have m_str := PySem.W.mg_none_of X G z4
  have m_int := PySem.W.mg_none_of X G z5
  have m_bool := PySem.W.mg_none_of X G z6
  have m_dict := PySem.W.mg_none_of X G z7
  have m_sorted := PySem.W.mg_none_of X G z8
  have m_repr := PySem.W.mg_none_of X G z9
  refine ⟨PySem.W.fnOf "law" "law" (defArgs sLaw) (defBody sLaw) (defScope sLaw) .none kVL dcL pmL anL cdL ctL, fun s v => .of_eq rfl, fun base _ _ sys => ?_⟩
  obtain ⟨mvkbU_adding_changing_removing, kbU_adding_changing_removing⟩ := FU.kbinds0 (ps := ["self", "adding", "changing", "removing"]) 1 ["adding", "changing", "removing"] [] (fun vs mz zs => vs ++ zs) (by decide) (by decide +kernel) (fun r1 r2 r3 => r1.append r3) (fun D doc pm an cdv ct us mv ws l1 l2 l3 => by
    match us, l1, mv, l2, ws, l3 with
    | [_], _, [], _, [_, _, _], _ => exact rfl)
  obtain ⟨mvkbU_removing_adding_changing, kbU_removing_adding_changing⟩ := FU.kbinds0 (ps := ["self", "adding", "changing", "removing"]) 1 ["removing", "adding", "changing"] [] (fun vs mz zs => vs ++ (zs.drop 1 ++ zs.take 1)) (by decide) (by decide +kernel) (fun r1 r2 r3 => r1.append ((r3.drop 1).append (r3.take 1))) (fun D doc pm an cdv ct us mv ws l1 l2 l3 => by
    match us, l1, mv, l2, ws, l3 with
    | [_], _, [], _, [_, _, _], _ => exact rfl)
  obtain ⟨mvkbU_adding, kbU_adding⟩ := FU.kbinds0 (ps := ["self", "adding", "changing", "removing"]) 1 ["adding"] [("changing", V.int 1), ("removing", V.int 1)] (fun vs mz zs => vs ++ (zs ++ mz)) (by decide) (by decide +kernel) (fun r1 r2 r3 => r1.append (r3.append r2)) (fun D doc pm an cdv ct us mv ws l1 l2 l3 => by
    match us, l1, mv, l2, ws, l3 with
    | [_], _, [_, _], _, [_], _ => exact ⟨_, _, _, _, _, _, rfl, rfl, _, _, _, _, _, _, rfl, rfl, rfl⟩)
  obtain ⟨mvkbU_changing, kbU_changing⟩ := FU.kbinds0 (ps := ["self", "adding", "changing", "removing"]) 1 ["changing"] [("adding", V.int 1), ("removing", V.int 1)] (fun vs mz zs => vs ++ (mz.take 1 ++ (zs ++ mz.drop 1))) (by decide) (by decide +kernel) (fun r1 r2 r3 => r1.append ((r2.take 1).append (r3.append (r2.drop 1)))) (fun D doc pm an cdv ct us mv ws l1 l2 l3 => by
    match us, l1, mv, l2, ws, l3 with
    | [_], _, [_, _], _, [_], _ => exact ⟨_, _, _, _, _, _, rfl, rfl, _, _, _, _, _, _, rfl, rfl, rfl⟩)
  obtain ⟨mvkbU_removing_adding, kbU_removing_adding⟩ := FU.kbinds0 (ps := ["self", "adding", "changing", "removing"]) 1 ["removing", "adding"] [("changing", V.int 1)] (fun vs mz zs => vs ++ (zs.drop 1 ++ (mz ++ zs.take 1))) (by decide) (by decide +kernel) (fun r1 r2 r3 => r1.append ((r3.drop 1).append (r2.append (r3.take 1)))) (fun D doc pm an cdv ct us mv ws l1 l2 l3 => by
    match us, l1, mv, l2, ws, l3 with
    | [_], _, [_], _, [_, _], _ => exact ⟨_, _, _, _, _, _, rfl, rfl, rfl⟩)
  obtain ⟨mvkbU_removing, kbU_removing⟩ := FU.kbinds0 (ps := ["self", "adding", "changing", "removing"]) 1 ["removing"] [("adding", V.int 1), ("changing", V.int 1)] (fun vs mz zs => vs ++ (mz ++ zs)) (by decide) (by decide +kernel) (fun r1 r2 r3 => r1.append (r2.append r3)) (fun D doc pm an cdv ct us mv ws l1 l2 l3 => by
    match us, l1, mv, l2, ws, l3 with
    | [_], _, [_, _], _, [_], _ => exact ⟨_, _, _, _, _, _, rfl, rfl, _, _, _, _, _, _, rfl, rfl, rfl⟩)
  obtain ⟨dskbU_, rkbU_, kbU_⟩ := FU.binds0 (ps := ["self", "adding", "changing", "removing"]) 1 (by decide) rfl (fun D doc pm an cdv ct us ks l1 l2 => by
    match us, l1, ks, l2 with
    | [_], _, [_, _, _], _ => exact ⟨_, _, _, _, _, _, rfl, rfl, _, _, _, _, _, _, rfl, rfl, _, _, _, _, _, _, rfl, rfl, rfl⟩)
  have GP := (ok_pen (P := l.prog) (w := w) (base := base) (mg := mg) (k := 0) FP m_list)
  have GDr := (ok_draw (P := l.prog) (w := w) (base := base) (mg := mg) (k := 0) FDr FN bN gN m_len)
  have GB := (ok_bits (P := l.prog) (w := w) (base := base) (mg := mg) FB GDr FDr bDr gDr m_range)
  have GI := (ok_pfx (P := l.prog) (w := w) (base := base) (mg := mg) (k := 0) FI FH bH gH m_isinstance m_str m_len)
  have GW := (ok_whole (P := l.prog) (w := w) (base := base) (mg := mg) (k := 0) FW m_isinstance m_int m_bool)
  have GJ := ok_J (P := l.prog) (w := w) (base := base) (mg := mg) (k := 1) FJ wY (GW.mono (by decide)) FW bW gW
  have GU := ok_U (P := l.prog) (w := w) (base := base) (mg := mg) (k := 2) FU (GJ.mono (by decide)) FJ bJ gJ clC nC_adding nC_changing nC_removing nC_single
  have GPa := ok_Pa (P := l.prog) (w := w) (base := base) (mg := mg) (k := 0) FPa clC nC_adding
  have GPc := ok_Pc (P := l.prog) (w := w) (base := base) (mg := mg) (k := 0) FPc clC nC_changing
  have GPr := ok_Pr (P := l.prog) (w := w) (base := base) (mg := mg) (k := 0) FPr clC nC_removing
  have GPs := ok_Ps (P := l.prog) (w := w) (base := base) (mg := mg) (k := 0) FPs clC nC_single m_dict
  have GV := ok_V (P := l.prog) (w := w) (base := base) (mg := mg) (k := 3) FV wZ (GI.mono (by decide)) FI bI gI (GJ.mono (by decide)) FJ bJ gJ clC nC_single (GU.mono (by decide)) MC gC nC_removing nC_changing nC_adding kbU_adding_changing_removing m_sorted
  have GS := ok_S (P := l.prog) (w := w) (base := base) (mg := mg) (k := 1) FS sys (GPa.mono (by decide)) PPa bPa clC (GPc.mono (by decide)) PPc bPc (GPr.mono (by decide)) PPr bPr (GPs.mono (by decide)) PPs bPs m_repr
  have GR := ok_R (P := l.prog) (w := w) (base := base) (mg := mg) (k := 3) FR sys m_sorted m_dict m_repr m_range (GS.mono (by decide)) FS bS gS (GPs.mono (by decide)) PPs bPs clC
  exact (ok_L (P := l.prog) (w := w) (base := base) (mg := mg) (k := 5) FL sys (GP.mono (by decide)) FP bP gP m_range (GDr.mono (by decide)) FDr bDr gDr (GU.mono (by decide)) MC gC kbU_removing_adding_changing (GB.mono (by decide)) FB bB gB m_dict clC (GV.mono (by decide)) mtV bV (GR.mono (by decide)) FR bR gR kbU_ rkbU_ kbU_adding kbU_changing kbU_removing_adding (GS.mono (by decide)) FS bS gS m_repr).mono (by decide)
end Kt
open PySem PySem.W PyProof.Rows
set_option maxRecDepth 100000 in
set_option maxHeartbeats 0 in
theorem PySem.Challenge.cw_keptroutes_k23_prices_made_holds : PySem.Challenge.rw_keptroutes_k23_prices_made.Holds := by
  w_on; o_law; k_head; (case hw => w_witness2)
  k_fill
  refine Kt.walkG (l := PySem.Challenge.rw_keptroutes_k23_prices_made) (n := 63) (k := 7) (x := "script") (sp := fun w => Kt.spLaw _) rfl (by decide) rfl ?him ⟨rfl, by decide, by decide⟩ (fun w h Y => PySem.W.kIn_of Y) ?F (fun _ _ a ns hl hS => ⟨a, ns, rfl, hS, hl, fun _ => rfl⟩)
  case him => rfl
  case F =>
    intro w mg fa h KX G hmg
    refine' Kt.all_mk KX G hmg ?aP ?lP ?cP ?kP ?aN ?lN ?cN ?kN ?aDr ?lDr ?cDr ?kDr ?aB ?lB ?cB ?kB ?aH ?lH ?cH ?kH ?aI ?lI ?cI ?kI ?aW ?lW ?cW ?kW ?aJ ?lJ ?cJ ?kJ ?aS ?lS ?cS ?kS ?aR ?lR ?cR ?kR ?aL ?lL ?cL ?kL ?aC ?pgC ?hdC ?poC ?saC ?mkC ?kcC ?nC_adding ?nC_changing ?nC_removing ?nC_single ?aV ?iV ?lV ?cV ?kV ?aPa ?ggPa ?tkPa ?rcPa ?lPa ?cPa ?kPa ?aPc ?ggPc ?tkPc ?rcPc ?lPc ?cPc ?kPc ?aPr ?ggPr ?tkPr ?rcPr ?lPr ?cPr ?kPr ?aPs ?ggPs ?tkPs ?rcPs ?lPs ?cPs ?kPs ?aU ?iU ?lU ?cU ?kU ?kwU0 ?kwU1 ?kwU2 ?vZ ?vY ?z0 ?z1 ?z2 ?z3 ?z4 ?z5 ?z6 ?z7 ?z8 ?z9
    (case aP => k_is); (case lP => k_is); (case cP => k_is); (case kP => k_is); (case aN => k_is); (case lN => k_is); (case cN => k_is); (case kN => k_is); (case aDr => k_is); (case lDr => k_is); (case cDr => k_is); (case kDr => k_is); (case aB => k_is); (case lB => k_is); (case cB => k_is); (case kB => k_is); (case aH => k_is); (case lH => k_is); (case cH => k_is); (case kH => k_is); (case aI => k_is); (case lI => k_is); (case cI => k_is); (case kI => k_is); (case aW => k_is); (case lW => k_is); (case cW => k_is); (case kW => k_is); (case aJ => k_is); (case lJ => k_is); (case cJ => k_is); (case kJ => k_is); (case aS => k_is); (case lS => k_is); (case cS => k_is); (case kS => k_is); (case aR => k_is); (case lR => k_is); (case cR => k_is); (case kR => k_is); (case aL => k_is); (case lL => k_is); (case cL => k_is); (case kL => k_is); (case aC => k_is); (case pgC => k_is); (case hdC => k_is); (case poC => k_is); (case saC => k_is); (case mkC => k_is); (case kcC => k_is); (case nC_adding => k_is); (case nC_changing => k_is); (case nC_removing => k_is); (case nC_single => k_is); (case aV => k_is); (case iV => k_is); (case lV => k_is); (case cV => k_is); (case kV => k_is); (case aPa => k_is); (case ggPa => k_is); (case tkPa => k_is); (case rcPa => k_is); (case lPa => k_is); (case cPa => k_is); (case kPa => k_is); (case aPc => k_is); (case ggPc => k_is); (case tkPc => k_is); (case rcPc => k_is); (case lPc => k_is); (case cPc => k_is); (case kPc => k_is); (case aPr => k_is); (case ggPr => k_is); (case tkPr => k_is); (case rcPr => k_is); (case lPr => k_is); (case cPr => k_is); (case kPr => k_is); (case aPs => k_is); (case ggPs => k_is); (case tkPs => k_is); (case rcPs => k_is); (case lPs => k_is); (case cPs => k_is); (case kPs => k_is); (case aU => k_is); (case iU => k_is); (case lU => k_is); (case cU => k_is); (case kU => k_is); (case kwU0 => k_is); (case kwU1 => k_is); (case kwU2 => k_is); (case vZ => k_is); (case vY => k_is); (case z0 => k_is); (case z1 => k_is); (case z2 => k_is); (case z3 => k_is); (case z4 => k_is); (case z5 => k_is); (case z6 => k_is); (case z7 => k_is); (case z8 => k_is); (case z9 => k_is)

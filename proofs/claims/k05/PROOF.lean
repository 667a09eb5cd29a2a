import PyProof.Rows.All
import Wide.All
import OpenK.AllK
import Wide.FinOn
import HandS.ForMost
import HandS.Codes
import HandS.IsInst
import HandS.StrMore
import HandS.DictComp
import HandS.Walk
import HandS.Style
import HandS.Conv
import PyProof.ReprRoads
import PySem.Challenge.RW_keptroutes_k05_longest_prefixes
set_option Elab.async false
set_option linter.all false
set_option maxRecDepth 100000
set_option maxHeartbeats 4000000
namespace Kt
open PySem PySem.Spec PyProof.Rows L2
/-! ### defs that may call repr: no repr is under way around them -/
structure FnG (P : Program) (w : World) (K : PySem.W.Frag) (mg : Str → Option Value) (base : Heap) (k : Nat) (f : Addr) (fd : FuncData) (ps : List Str) (sp : Sp) : Prop where
  many : ∀ vs H Q E, sp vs H Q E → vs.length = ps.length
  go : ∀ (A : Around), A.guards = some [] → ∀ (outer : List Env) (s : Shared) (H : Hp) (args : Args) (us : List Value) (vs : List V) (Q : VK), Room k A → Env0 P w K mg base A outer s H →
    BindsTo s fd args (ps.zip us) → Vals vs us → sp vs H Q E0 → codeAny (model P w) A (.call (.ref f) args) (CR CX0 outer P w H s Q E0) s
theorem FnG.mono {P : Program} {w : World} {K : PySem.W.Frag} {mg : Str → Option Value} {base : Heap} {j k : Nat} {f : Addr} {fd : FuncData} {ps : List Str} {sp : Sp} (F : FnG P w K mg base j f fd ps sp) (h : j ≤ k) : FnG P w K mg base k f fd ps sp :=
  ⟨F.many, fun A g outer s H args us vs Q hr => F.go A g outer s H args us vs Q (hr.mono h)⟩
section
variable {P : Program} {w : World} {K : PySem.W.Frag} {mg : Str → Option Value} {base : Heap}
/-- a def's promise, from its body, where no repr is under way -/
theorem okG {x qual : Str} {st : Stmt} {f : Addr} {fd : FuncData} {N ps : List Str} {k : Nat} {sp : Sp} (F : Fun K x qual st f fd) (S : FnScope N ps (defScope st)) (many : ∀ vs H Q E, sp vs H Q E → vs.length = ps.length)
    (body : ∀ (cdv : Value) (A : Around) (outer : List Env) (s : Shared) (H : Hp) (vs : List V) (Q : VK), A.guards = some [] → Room k (A.deeper (envOfC qual (defScope st) s.heap.objs.size f cdv)) → sp vs H Q E0 →
      ∃ t, PSs (cxOf CX0 P w K mg base N qual (defScope st) f cdv A outer s H E0).nox (defBody st) t ∧ t { nx := fun _ H' => Q .non H', rt := Q } (start N vs) H) : FnG P w K mg base (k + 1) f fd ps sp := by
  obtain ⟨oc, od, kV, doc, pm, an, cdv, ct, osl, rfl, lk, hcd⟩ := F.ex
  refine ⟨many, fun A g outer s H args us vs Q room e0 bind rel want => ?_⟩
  have old : ∀ b o, base.get? b = some o → s.heap.get? b = some o := fun b o e => (e0.bs b o e).1
  have KX : K.In s.heap := e0.mod.kin.keeps old
  have lim : s.heap.NoLimit := e0.mod.nolimit.keeps old
  have kinds : ∀ y ∈ ps.zip us, (defScope st).names.lookup y.1 = some .local ∨ ((defScope st).names.lookup y.1 = some .cell ∧ ((cellsFrom (s.heap.objs.size + 1) (defScope st).names []).lookup y.1).isSome = true) := by
    rintro ⟨n, v⟩ hy
    rcases S.par n (List.of_mem_zip hy).1 with q | q
    · exact .inl q
    · exact .inr ⟨q, PySem.W.cellsFrom_some _ _ _ (.inl q)⟩
  refine codeAny_call_function room.depth (KX _ _ lk) rfl S.co S.gen rfl (PySem.W.codeRec_of KX hcd) (bind _ _ _ _ (wpAny_newFunctionEnv_cells S.kind kinds fun env he s1 x => ?_))
  subst he
  obtain ⟨t, ht, hq⟩ := body cdv A outer s H vs Q g (room.deeper _) want
  have I := inv_start (CX := CX0) (E := E0) S room.hd e0 (many _ _ _ _ want) rel x
  refine ⟨lim.keeps x.toInCall.keep, codeAny_func (wpAny_mono (ht.nox.run [] s1 (start N vs) H _ I hq) (fun fl s' hs => ?_) fun e s' hs => hs)⟩
  cases fl with
  | ret u =>
    obtain ⟨v, σ', H', J, rv, q⟩ := hs
    exact ⟨v, H', J.os, J.bare, J.base, J.hok, rv, q⟩
  | next =>
    obtain ⟨σ', H', J, q⟩ := hs
    exact ⟨V.non, H', J.os, J.bare, J.base, J.hok, rfl, q⟩
  | brk =>
    obtain ⟨_, _, _, q⟩ := hs
    exact q.elim
  | cont =>
    obtain ⟨_, _, _, q⟩ := hs
    exact q.elim
end
/-- f(a, ..) of such a def, within such a def -/
theorem pe_callG {X : Cx} {k : Nat} {f : Addr} {fd : FuncData} {ps : List Str} {sp : Sp} {x : Str} {p pos : Pos} {e : Expr} {es : List Expr} {t : TA} (F : FnG X.prog X.w X.K X.mg X.base k f fd ps sp) (g : X.A.guards = some []) (hr : Room k X.A) (hg : Gl X x) (hm : X.mg x = some (.ref f))
    (hk : PySem.W.keepIn X.K (.ref f) = true) (hb : Binds X.K fd ps []) (ha : PA X (e :: es) t) (hdb : (x == ("__debug__" : Str)) = false := by decide)
    (he : starEach (e :: es) X.env = (false, eval e X.env) :: starEach es X.env := by rfl) (hpl : (backTo pos (starEach es X.env)).any (·.1) = false := by rfl) : PE X (.Call (.Name x p) (e :: es) [] pos) (tCall sp [] E0 t) := by
  constructor
  intro pins s σ H Q I h
  refine wpAny_Call_Name_kw (ld_glob I hg hm (PySem.W.callWith_K (h₀ := X.base) I.ok.mod.kin hk (thn (ha.run pos pins s σ H _ I h) ?_) he hpl) hdb)
  rintro us s1 ⟨vs, H1, I1, r, q⟩
  refine ⟨I1.kIn, ?_⟩
  have r2 : Vals (vs ++ []) (us ++ []) := r.append .nil
  have hl : (us ++ []).length = ps.length := by rw [← r2.length]; exact F.many _ _ _ _ q
  refine wpAny_call (codeAny_mono (F.go X.A g X.stack s1 H1 ⟨us, []⟩ (us ++ []) (vs ++ []) Q hr I1.env0 (hb s1 us I1.kIn hl) r2 q) fun res s' hq => ?_)
  match res, hq with
  | .ok (.ret u), hq => exact I1.after hq
/-! ### the end of a law whose promise is of this kind -/
theorem law_callG {P : Program} {w : World} {K : PySem.W.Frag} {mg mb : Str → Option Value} {k : Nat} {fa a : Addr} {fd : FuncData} {x : Str} {sp : Sp} {s₁ : Shared} {vs : List Value} {ns : List Int}
    (KX : K.In s₁.heap) (hns : s₁.heap.Ns mainGlobals mg) (hb : s₁.heap.Ns builtinsNs mb) (hbb : ∀ x : Str, x ≠ "__name__" → mb x = bootBuiltins x) (hlim : s₁.heap.NoLimit) (hsys : ∃ mm, s₁.heap.Ns sysModules mm) (hg : s₁.gens = #[])
    (ha : s₁.heap.get? a = some { cls := .type "list", data := .seq vs.toArray }) (hi : IntsAre vs ns) (hl : ns.length ≤ sizeLine) (hr : Room k callerA)
    (F : ∀ base : Heap, K.In base → base.Ns mainGlobals mg → (∃ mm, base.Ns sysModules mm) → FnG P w K mg base k fa fd [x] sp) (hbind : ∀ (s : Shared) (u : Value), BindsTo s fd ⟨[u], []⟩ [(x, u)])
    (hsp : ∀ H : Hp, SqL K H a (ns.map V.int) → sp [.ref a] H (fun v _ => v = .bl true) E0) :
    codeAny (model P w) callerA (.call (.ref fa) ⟨[.ref a], []⟩) (fun r s' => r = .ok (.ret (.bool true)) ∧ OldK s₁.heap s'.heap ∧ s'.os = s₁.os ∧ AllBare s'.gens) s₁ := by
  have rv := vals_ints hi
  have lenV := hi.length
  have main : ∀ H : Hp, SqL K H a (ns.map V.int) → HOk P w H s₁.heap → (∀ b, H b ≠ none → b = a ∧ K.lookup a = none ∧ ∃ u, H b = some (.frz { cls := .type "list", data := .seq vs.toArray } u)) →
      codeAny (model P w) callerA (.call (.ref fa) ⟨[.ref a], []⟩) (fun r s' => r = .ok (.ret (.bool true)) ∧ OldK s₁.heap s'.heap ∧ s'.os = s₁.os ∧ AllBare s'.gens) s₁ := by
    intro H hS ok only
    have free : ∀ {b : Addr} {o : Obj}, s₁.heap.get? b = some o → (H b ≠ none → False) → (hidT s₁.heap H).get? b = some o := fun {b o} e n => hidT_get e (by
      cases q : H b with
      | none => rfl
      | some u => exact (n (by rw [q]; exact fun z => nomatch z)).elim)
    have dct : ∀ {b : Addr} {m : Str → Option Value}, s₁.heap.Ns b m → (hidT s₁.heap H).Ns b m := by
      rintro b m ⟨o, es, ep, e, d, r⟩
      refine ⟨o, es, ep, free e fun n => ?_, d, r⟩
      obtain ⟨rfl, _, _⟩ := only b n
      rw [ha] at e
      cases e
      cases d
    have kin : K.In (hidT s₁.heap H) := fun b o e => free (KX b o e) fun n => by
      obtain ⟨rfl, z, _⟩ := only b n
      rw [z] at e
      cases e
    have mod : Mod K mg (hidT s₁.heap H) := ⟨kin, dct hns, ⟨mb, dct hb, hbb⟩, by obtain ⟨mc, h1, h2⟩ := hlim; exact ⟨mc, dct h1, h2⟩⟩
    have sys : ∃ mm, (hidT s₁.heap H).Ns sysModules mm := by obtain ⟨mm, h⟩ := hsys; exact ⟨mm, dct h⟩
    have env : Env0 P w K mg (hidT s₁.heap H) callerA [] s₁ H := ⟨rfl, mod, fun _ _ => of_hidT, Nat.le_of_eq (hidT_size _ _), trivial, fun _ hb => absurd hb List.not_mem_nil, ok, .of_eq hg⟩
    refine codeAny_mono ((F _ kin (dct hns) sys).go callerA rfl [] s₁ H ⟨[.ref a], []⟩ [.ref a] [.ref a] _ hr env (hbind s₁ (.ref a)) (.cons rfl .nil) (hsp H hS)) fun r s' h => ?_
    match r, h with
    | .ok (.ret u), ⟨v, H', os, bare, un, ok', rel, q⟩ =>
      subst q
      cases (show u = Value.bool true from rel)
      refine ⟨rfl, OldK.of_keep fun b o e => ?_, os, bare⟩
      cases q : H b with
      | none => exact un.keep b o e q (fun z => nomatch z) fun z => nomatch z
      | some u =>
        obtain ⟨rfl, _, u', z⟩ := only b (by rw [q]; exact fun z => nomatch z)
        rw [ha] at e
        cases e
        exact (ok' b _ (un.frzs b _ _ z)).1
  cases hk : K.lookup a with
  | some o =>
    have e := KX a o hk
    rw [ha] at e
    cases e
    exact main (fun _ => none) (.inr ⟨_, vs.toArray, _, hk, rfl, rfl, rfl, by rw [List.size_toArray, lenV]; exact hl, rv⟩) (fun b u z => nomatch (show (none : Option HO) = some u from z)) fun b z => absurd rfl z
  | none =>
    refine main (fun b => if b = a then some (.frz { cls := .type "list", data := .seq vs.toArray } (.lst (ns.map V.int))) else none) (.inl (.inr ⟨_, if_pos rfl⟩)) (fun b u z => ?_) fun b z => ?_
    · by_cases q : b = a
      · dsimp only at z
        rw [if_pos q] at z
        cases z
        rw [q]
        exact ⟨ha, by rw [List.length_map]; exact hl, vs, _, rv, ha⟩
      · dsimp only at z
        rw [if_neg q] at z
        cases z
    · by_cases q : b = a
      · exact ⟨q, hk, _, if_pos q⟩
      · exact absurd (if_neg q) z
theorem walkG {l : PySem.W.OpenLaw} {n k : Nat} {q : Program} {loose : List Str} {XP : (Str → Option Value) → Heap → Prop} {YP : World → Heap → Prop} {d : DefRec} {K : Params → PySem.W.Frag} {sp : World → Sp} {x : Str} (hn : l.most = some n) (hn2 : n ≤ sizeLine) (hdf : d.params.defaults = [])
    (him : importsNone q = true) (hr : Room k callerA) (hY : ∀ (w : World) (h : Heap), YP w h → (K w.params).In h)
    (F : ∀ (w : World) (mg : Str → Option Value) (fa : Addr) (h : Heap), (K w.params).In h → h.Ns mainGlobals mg → mg d.name = some (.ref fa) →
      ∃ fd : FuncData, (∀ (s : Shared) (u : Value), BindsTo s fd ⟨[u], []⟩ [(x, u)]) ∧ ∀ base : Heap, (K w.params).In base → base.Ns mainGlobals mg → (∃ mm, base.Ns sysModules mm) → FnG l.prog w (K w.params) mg base k fa fd [x] (sp w))
    (hsp : ∀ (w : World) (H : Hp) (a : Addr) (ns : List Int), ns.length ≤ n → SqL (K w.params) H a (ns.map V.int) → sp w [.ref a] H (fun v _ => v = .bl true) E0) : PySem.W.WalkO q loose XP YP l.row.toRowW d [] (fun f vs => PySem.call f vs) :=
  Att.attach_call hn hdf fun w _ _ mg _ fa _ _ _ _ a _ ns G Y _ _ _ hmg hobj hints hlen hg => by
    have KX := hY w _ Y
    obtain ⟨fd, hb, hF⟩ := F w mg fa _ KX G.T.g hmg
    obtain ⟨mm, hm, _⟩ := (G.T.seer him).mods
    exact law_callG KX G.T.g G.T.b G.T.builtins G.T.nolimit ⟨mm, hm⟩ hg hobj hints (Nat.le_trans hlen hn2) hr hF hb fun H hS => hsp w H a ns hlen hS
/-! ### repr of data: none, bools, ints, texts, lists, tuples, dicts by ints and texts -/
def keyD : Key → PyData
  | .inl i => .int i
  | .inr x => .str x
mutual
/-- in the heap H the value is this data -/
inductive Dr (K : PySem.W.Frag) (H : Hp) (N : Addr → Prop) : V → PyData → Prop
  | non : Dr K H N .non .none
  | bl (b : Bool) : Dr K H N (.bl b) (.bool b)
  | int (i : Int) : Dr K H N (.int i) (.int i)
  | str (x : Str) : Dr K H N (.str x) (.str x)
  | lst {a : Addr} {xs : List V} {ds : List PyData} (n : N a) (h : SqL K H a xs) (all : DrAll K H N xs ds) : Dr K H N (.ref a) (.list ds)
  | tup {a : Addr} {xs : List V} {ds : List PyData} (n : N a) (h : SqT K H a xs) (all : DrAll K H N xs ds) : Dr K H N (.ref a) (.tuple ds)
  | dic {a : Addr} {kvs : List (Key × V)} {ds : List (PyData × PyData)} (n : N a) (h : Rd H a (.dK kvs)) (all : DrKv K H N kvs ds) : Dr K H N (.ref a) (.dict ds)
inductive DrAll (K : PySem.W.Frag) (H : Hp) (N : Addr → Prop) : List V → List PyData → Prop
  | nil : DrAll K H N [] []
  | cons {v : V} {vs : List V} {d : PyData} {ds : List PyData} (h : Dr K H N v d) (t : DrAll K H N vs ds) : DrAll K H N (v :: vs) (d :: ds)
inductive DrKv (K : PySem.W.Frag) (H : Hp) (N : Addr → Prop) : List (Key × V) → List (PyData × PyData) → Prop
  | nil : DrKv K H N [] []
  | cons {k : Key} {v : V} {kvs : List (Key × V)} {d : PyData} {ds : List (PyData × PyData)} (h : Dr K H N v d) (t : DrKv K H N kvs ds) : DrKv K H N ((k, v) :: kvs) ((keyD k, d) :: ds)
end
mutual
theorem Dr.move {K : PySem.W.Frag} {H H' : Hp} {N N' : Addr → Prop} (k : ∀ a o, N a → H a = some o → H' a = some o) (m : ∀ a, N a → N' a) : ∀ {v : V} {d : PyData}, Dr K H N v d → Dr K H' N' v d
  | _, _, .non => .non
  | _, _, .bl b => .bl b
  | _, _, .int i => .int i
  | _, _, .str x => .str x
  | _, _, .lst (a := a) n h all => .lst (m _ n) (by
    rcases h with (h | ⟨o, h⟩) | h
    · exact .inl (.inl (k _ _ n h))
    · exact .inl (.inr ⟨o, k _ _ n h⟩)
    · exact .inr h) (all.move k m)
  | _, _, .tup n h all => .tup (m _ n) (by
    rcases h with (h | ⟨o, h⟩) | h
    · exact .inl (.inl (k _ _ n h))
    · exact .inl (.inr ⟨o, k _ _ n h⟩)
    · exact .inr h) (all.move k m)
  | _, _, .dic n h all => .dic (m _ n) (by
    rcases h with h | ⟨o, h⟩
    · exact .inl (k _ _ n h)
    · exact .inr ⟨o, k _ _ n h⟩) (all.move k m)
theorem DrAll.move {K : PySem.W.Frag} {H H' : Hp} {N N' : Addr → Prop} (k : ∀ a o, N a → H a = some o → H' a = some o) (m : ∀ a, N a → N' a) : ∀ {vs : List V} {ds : List PyData}, DrAll K H N vs ds → DrAll K H' N' vs ds
  | _, _, .nil => .nil
  | _, _, .cons h t => .cons (h.move k m) (t.move k m)
theorem DrKv.move {K : PySem.W.Frag} {H H' : Hp} {N N' : Addr → Prop} (k : ∀ a o, N a → H a = some o → H' a = some o) (m : ∀ a, N a → N' a) : ∀ {kvs : List (Key × V)} {ds : List (PyData × PyData)}, DrKv K H N kvs ds → DrKv K H' N' kvs ds
  | _, _, .nil => .nil
  | _, _, .cons h t => .cons (h.move k m) (t.move k m)
end
theorem DrAll.len {K : PySem.W.Frag} {H : Hp} {N : Addr → Prop} : ∀ {vs : List V} {ds : List PyData}, DrAll K H N vs ds → vs.length = ds.length
  | _, _, .nil => rfl
  | _, _, .cons _ t => congrArg (· + 1) t.len
theorem DrAll.snoc {K : PySem.W.Frag} {H : Hp} {N : Addr → Prop} {v : V} {d : PyData} (h : Dr K H N v d) : ∀ {vs : List V} {ds : List PyData}, DrAll K H N vs ds → DrAll K H N (vs ++ [v]) (ds ++ [d])
  | _, _, .nil => .cons h .nil
  | _, _, .cons h1 t => .cons h1 (t.snoc h)
theorem DrAll.get {K : PySem.W.Frag} {H : Hp} {N : Addr → Prop} : ∀ {vs : List V} {ds : List PyData} {i : Nat} {v : V}, DrAll K H N vs ds → vs[i]? = some v → ∃ d, ds[i]? = some d ∧ Dr K H N v d
  | _, _, _, _, .nil, e => by simp at e
  | _, _, 0, _, .cons h _, e => ⟨_, rfl, by
    have e' := Option.some.inj e
    rw [← e']
    exact h⟩
  | _, _, i + 1, v, .cons _ t, e => t.get (i := i) (v := v) e
theorem read_key {h : Heap} {k : Key} {u : Value} (e : keyIs k u = true) : Reads h u (keyD k) [] := by
  rcases keyIs_shape e with ⟨i, t, rfl, rfl⟩ | ⟨x, t, rfl, rfl⟩
  · exact .int i t
  · exact .str x t
section
variable {X : Cx} {pins : List (Addr × Obj)} {σ : L2.St} {H : Hp} {s : Shared} {N : Addr → Prop}
theorem no_sys_list (I : Inv X pins σ H s) (sys : ∃ mm, X.base.Ns sysModules mm) {a : Addr} {o : Obj} {its : Array Value} {n : Nat} (e : s.heap.get? a = some o) (d : o.data = .seq its n) : a ≠ sysModules := by
  rintro rfl
  obtain ⟨mm, o', es, ep, e', d', _⟩ := sys
  rw [I.bk _ _ e'] at e
  cases e
  rw [d] at d'
  cases d'
mutual
theorem Dr.reads (I : Inv X pins σ H s) (sys : ∃ mm, X.base.Ns sysModules mm) : ∀ (d : PyData) (v : V) (u : Value), Dr X.K H N v d → RelV v u → ∃ as, Reads s.heap u d as ∧ sysModules ∉ as
  | .none, _, _, h, r => by
    cases h
    cases r
    exact ⟨_, Reads.none, List.not_mem_nil⟩
  | .bool b, _, _, h, r => by
    cases h
    cases r
    exact ⟨_, Reads.bool b, List.not_mem_nil⟩
  | .int i, _, _, h, r => by
    cases h
    obtain ⟨t, rfl⟩ := r
    exact ⟨_, Reads.int i t, List.not_mem_nil⟩
  | .str x, _, _, h, r => by
    cases h
    obtain ⟨t, rfl⟩ := r
    exact ⟨_, Reads.str x t, List.not_mem_nil⟩
  | .list ds, _, _, h, r => by
    cases h with
    | lst _ hs ha =>
      cases r
      obtain ⟨its, rv, ⟨o, n, ho, hc, _, hd⟩, _⟩ := I.list hs
      obtain ⟨as, hr, hn⟩ := DrAll.reads I sys ds _ its ha rv
      exact ⟨_, Reads.list ho hc hd hr, fun m => (List.mem_cons.mp m).elim (fun e => no_sys_list I sys ho hd e.symm) hn⟩
  | .tuple ds, _, _, h, r => by
    cases h with
    | tup _ hs ha =>
      cases r
      obtain ⟨its, rv, ⟨o, ho, hc, n, hd⟩, _⟩ := I.tuple hs
      obtain ⟨as, hr, hn⟩ := DrAll.reads I sys ds _ its ha rv
      exact ⟨_, Reads.tuple ho hc hd hr, hn⟩
  | .dict ds, _, _, h, r => by
    cases h with
    | dic _ hs ha =>
      cases r
      obtain ⟨_, hsys, vs, rel, o, es, ep, ho, hc, hd, _, ps, _⟩ := dk_rd I.hok hs
      obtain ⟨as, bs, h1, h2, h3, h4⟩ := DrKv.reads I sys ds _ vs es.toList ha rel ps
      refine ⟨_, Reads.dict ho hc.1 hd h1 h2, fun m => ?_⟩
      rcases List.mem_append.mp m with m | m
      · rcases List.mem_cons.mp m with e | m
        · rw [← e] at hsys
          cases hsys
        · exact h3 m
      · exact h4 m
theorem DrAll.reads (I : Inv X pins σ H s) (sys : ∃ mm, X.base.Ns sysModules mm) : ∀ (ds : List PyData) (vs : List V) (us : List Value), DrAll X.K H N vs ds → Vals vs us → ∃ as, ReadsAll s.heap us ds as ∧ sysModules ∉ as
  | [], _, _, h, r => by
    cases h
    cases r
    exact ⟨_, ReadsAll.nil, List.not_mem_nil⟩
  | d :: ds, _, _, h, r => by
    cases h with
    | cons h1 h2 =>
      cases r with
      | cons r1 r2 =>
        obtain ⟨as, q1, n1⟩ := Dr.reads I sys d _ _ h1 r1
        obtain ⟨bs, q2, n2⟩ := DrAll.reads I sys ds _ _ h2 r2
        exact ⟨_, ReadsAll.cons q1 q2, fun m => (List.mem_append.mp m).elim n1 n2⟩
theorem DrKv.reads (I : Inv X pins σ H s) (sys : ∃ mm, X.base.Ns sysModules mm) : ∀ (ds : List (PyData × PyData)) (kvs : List (Key × V)) (vs : List (Key × Value)) (es : List DictEntry), DrKv X.K H N kvs ds → KV kvs vs → Pairs (mixKind X.prog X.w) es vs →
    ∃ as bs, ReadsAll s.heap (es.map (·.key)) (ds.map (·.1)) as ∧ ReadsAll s.heap (es.map (·.val)) (ds.map (·.2)) bs ∧ sysModules ∉ as ∧ sysModules ∉ bs
  | [], _, _, _, h, r, p => by
    cases h
    cases r
    cases p
    exact ⟨_, _, ReadsAll.nil, ReadsAll.nil, List.not_mem_nil, List.not_mem_nil⟩
  | (_, d) :: ds, _, _, _, h, r, p => by
    cases h with
    | cons h1 h2 =>
      cases r with
      | cons r1 r2 =>
        cases p with
        | cons p1 p2 p3 =>
          obtain ⟨e1, e2⟩ := r1
          obtain ⟨as, q1, n1⟩ := Dr.reads I sys d _ _ h1 e2
          obtain ⟨bs, cs, q2, q3, n2, n3⟩ := DrKv.reads I sys ds _ _ _ h2 r2 p3
          have e1' : _ = _ := e1
          rw [← e1'] at p1
          refine ⟨[] ++ bs, as ++ cs, ReadsAll.cons (read_key p1) q2, ReadsAll.cons (by show Reads _ (DictEntry.val _) d as; rw [p2]; exact q1) q3, by rw [List.nil_append]; exact n2, fun m => (List.mem_append.mp m).elim n1 n3⟩
end
end
/-- repr(x) -/
def rRepr (K : PySem.W.Frag) : List V → Hp → VK → Prop := fun xs H Q => ∃ (x : V) (d : PyData) (N : Addr → Prop), xs = [x] ∧ Dr K H N x d ∧ d.showable = true ∧ d.depth ≤ 60 ∧ d.shown.length ≤ sizeLine ∧ Q (.str d.shown) H
theorem call_repr {X : Cx} (g : X.A.guards = some []) (hu : X.A.units + 64 < cLine) (sys : ∃ mm, X.base.Ns sysModules mm) : CallR X (.builtin "repr") (rRepr X.K) := by
  intro pins s σ H xs us Q I r h
  obtain ⟨x, d, N, rfl, hd, hs, hz, hl, q⟩ := h
  obtain ⟨u, rfl, r1⟩ := vals1 r
  obtain ⟨as, hr, hn⟩ := Dr.reads I sys d x u hd r1
  have fin : ∀ (u : Tok) h' tk, (∀ b o, s.heap.get? b = some o → h'.get? b = some o) → EP X pins σ Q (.str d.shown u) { s with heap := h', toks := tk } := fun u h' tk hk => ⟨.str d.shown, H, I.kept hk, ⟨u, rfl⟩, q⟩
  cases hd with
  | non =>
    cases r1
    exact PySem.P.repr_of_none (fin _ s.heap _ fun _ _ e => e)
  | bl b =>
    cases r1
    cases b <;> exact PySem.P.repr_of_bool (fin _ s.heap _ fun _ _ e => e)
  | int i =>
    obtain ⟨t, rfl⟩ := r1
    exact PySem.P.repr_of_int (of_decide_eq_true (by simpa only [PyData.showable] using hs)) (fin _ s.heap _ fun _ _ e => e)
  | str z =>
    obtain ⟨t, rfl⟩ := r1
    exact PySem.P.repr_of_str (fin _ s.heap _ fun _ _ e => e) (by simpa only [PyData.shown] using hl)
  | lst _ h1 h2 =>
    cases r1
    exact repr_of_reads' (h₀ := s.heap) hr hs (fun _ => hn) g (by omega) (fun _ _ e => e) (fun h' u tk hk => fin u h' tk hk) hl
  | tup _ h1 h2 =>
    cases r1
    exact repr_of_reads' (h₀ := s.heap) hr hs (fun _ => hn) g (by omega) (fun _ _ e => e) (fun h' u tk hk => fin u h' tk hk) hl
  | dic _ h1 h2 =>
    cases r1
    exact repr_of_reads' (h₀ := s.heap) hr hs (fun _ => hn) g (by omega) (fun _ _ e => e) (fun h' u tk hk => fin u h' tk hk) hl
/-! ### texts -/
def onlyOf (y x : Str) : Bool := x.cps.toList.all fun c => y.cps.contains c
theorem takeWhile_full {α : Type} (p : α → Bool) : ∀ l : List α, decide ((l.takeWhile p).length = l.length) = l.all p
  | [] => rfl
  | a :: r => by
    have ih := takeWhile_full p r
    rw [List.takeWhile_cons, List.all_cons]
    cases ha : p a with
    | true =>
      rw [if_pos rfl, List.length_cons, List.length_cons, ← ih]
      simp
    | false =>
      rw [if_neg Bool.false_ne_true]
      simp
theorem empty_str : ("" : Str) = ⟨#[]⟩ := by decide +kernel
theorem str_ext {x y : Str} (h : x.cps.toList = y.cps.toList) : x = y := by
  cases x
  cases y
  congr 1
  exact Array.toList_inj.mp h
theorem lstrip_empty (x y : Str) : decide (V.str (Txt.lstripChars x y) = V.str "") = onlyOf y x := by
  have e : Txt.lstripChars x y = ⟨x.cps.extract (x.cps.toList.takeWhile y.cps.contains).length x.cps.size⟩ := stripBy_eq y.cps.contains true false x
  have h := takeWhile_full (fun c => y.cps.contains c) x.cps.toList
  unfold onlyOf
  rw [← h]
  apply decide_eq_decide.mpr
  have le : (x.cps.toList.takeWhile fun c => y.cps.contains c).length ≤ x.cps.toList.length := (List.takeWhile_sublist _).length_le
  constructor
  · intro q
    have q1 : Txt.lstripChars x y = "" := V.str.inj q
    rw [e, empty_str] at q1
    have q2 : (x.cps.extract (x.cps.toList.takeWhile y.cps.contains).length x.cps.size).size = 0 := by rw [Str.mk.inj q1]; rfl
    rw [Array.size_extract] at q2
    have q3 : x.cps.toList.length = x.cps.size := Array.length_toList
    have q4 : (x.cps.toList.takeWhile y.cps.contains).length ≤ x.cps.toList.length := le
    show (x.cps.toList.takeWhile y.cps.contains).length = _
    omega
  · intro q
    have q0 : (x.cps.toList.takeWhile y.cps.contains).length = x.cps.size := by
      rw [← Array.length_toList]
      exact q
    congr 1
    rw [e, empty_str, q0]
    congr 1
    simp
/-- bits alone -/
def isBits (x : Str) : Bool := onlyOf "01" x
/-- is_prefix -/
def isPfx (v : V) (w : Int) : Bool := match v with
  | .str x => decide ((x.length : Int) ≤ w) && isBits x
  | _ => false
def isStrV : V → Bool
  | .str _ => true
  | _ => false
/-- a value whose type isinstance reads: text or not -/
def TyS (K : PySem.W.Frag) (H : Hp) (v : V) : Prop := ∃ t : String, TyX K H v (.type t) ∧ PySem.W.kitOne K (.type t) (.type "str") = some (isStrV v)
theorem kit_f {K : PySem.W.Frag} {t : String} (h : kitB t "str" = some false) : PySem.W.kitOne K (.type t) (.type "str") = some false := kit_ty h
theorem TyS.of {K : PySem.W.Frag} {H : Hp} {N : Addr → Prop} {v : V} {d : PyData} (h : Dr K H N v d) : TyS K H v := by
  cases h with
  | non => exact ⟨_, .base .non, kit_f (by decide +kernel)⟩
  | bl b => exact ⟨_, .base (.bl b), kit_f (by decide +kernel)⟩
  | int i => exact ⟨_, .base (.int i), kit_f (by decide +kernel)⟩
  | str x => exact ⟨_, .base (.str x), kit_ty (r := true) (by decide +kernel)⟩
  | lst _ h _ =>
    rcases h with (h | ⟨o, h⟩) | ⟨o, _, _, h, hc, _⟩
    · exact ⟨_, .base (.lst h), kit_f (by decide +kernel)⟩
    · exact ⟨_, .base (.frz h), kit_f (by decide +kernel)⟩
    · exact ⟨_, .kList h hc, kit_f (by decide +kernel)⟩
  | tup _ h _ =>
    rcases h with (h | ⟨o, h⟩) | ⟨o, _, _, h, hc, _⟩
    · exact ⟨_, .base (.tup h), kit_f (by decide +kernel)⟩
    · exact ⟨_, .fTuple h, kit_f (by decide +kernel)⟩
    · exact ⟨_, .kTuple h hc, kit_f (by decide +kernel)⟩
  | dic _ h _ =>
    rcases h with h | ⟨o, h⟩
    · exact ⟨_, .base (.dK h), kit_f (by decide +kernel)⟩
    · exact ⟨_, .fDict h, kit_f (by decide +kernel)⟩
/-! ### the pen -/
/-- a pen stands at p: its numbers at c, its place i, its stock s, what was appended -/
def penL (c : Addr) (i s : Int) (m : List V) : HO := .lst (.ref c :: .int i :: .int s :: m)
structure PenAt (H : Hp) (p : Addr) (n : Nat) (m : List V) (c : Addr) (ns : List Int) (i s : Int) : Prop where
  at_ : H p = some (penL c i s m)
  cells : H c = some (.lst (ns.map V.int))
  len : ns.length ≤ 60
  i0 : 0 ≤ i
  i1 : i ≤ n
  s0 : 0 ≤ s
theorem PenAt.ne {H : Hp} {p c : Addr} {n : Nat} {m : List V} {ns : List Int} {i s : Int} (h : PenAt H p n m c ns i s) : c ≠ p := fun e => by
  have h1 := h.cells
  rw [e, h.at_] at h1
  have h2 := HO.lst.inj (Option.some.inj h1)
  cases ns with
  | nil => cases h2
  | cons x r => cases (List.cons.inj h2).1
theorem PenAt.mono {H : Hp} {p c : Addr} {n k : Nat} {m : List V} {ns : List Int} {i s : Int} (h : PenAt H p n m c ns i s) (hk : n ≤ k) : PenAt H p k m c ns i s :=
  ⟨h.at_, h.cells, h.len, h.i0, by have := h.i1; omega, h.s0⟩
/-- the pen behind a draw -/
theorem PenAt.next {H : Hp} {p c : Addr} {n k : Nat} {m : List V} {ns : List Int} {i s i' s' : Int} (h : PenAt H p n m c ns i s) (h0 : 0 ≤ i') (h1 : i' ≤ k) (h2 : 0 ≤ s') : PenAt (upd H p (penL c i' s' m)) p k m c ns i' s' :=
  ⟨upd_same, by rw [upd_ne h.ne]; exact h.cells, h.len, h0, h1, h2⟩
theorem PenAt.keep {H H' : Hp} {p c : Addr} {n : Nat} {m : List V} {ns : List Int} {i s : Int} (h : PenAt H p n m c ns i s) (k : Same H H') : PenAt H' p n m c ns i s :=
  ⟨k _ _ h.at_, k _ _ h.cells, h.len, h.i0, h.i1, h.s0⟩
/-- a pen at p, its numbers at c, whatever it holds -/
def Pen (H : Hp) (p c : Addr) (n : Nat) (m : List V) : Prop := ∃ ns i s, PenAt H p n m c ns i s
theorem Pen.keep {H H' : Hp} {p c : Addr} {n : Nat} {m : List V} (h : Pen H p c n m) (k : Same H H') : Pen H' p c n m := by
  obtain ⟨ns, i, s, h⟩ := h
  exact ⟨ns, i, s, h.keep k⟩
theorem Pen.mono {H : Hp} {p c : Addr} {n k : Nat} {m : List V} (h : Pen H p c n m) (hk : n ≤ k) : Pen H p c k m := by
  obtain ⟨ns, i, s, h⟩ := h
  exact ⟨ns, i, s, h.mono hk⟩
theorem Pen.ne_p {H : Hp} {p c : Addr} {n : Nat} {m : List V} (h : Pen H p c n m) {a : Addr} (e : H a = none) : a ≠ p := by
  obtain ⟨ns, i, s, h⟩ := h
  rintro rfl
  rw [h.at_] at e
  cases e
theorem Pen.ne_c {H : Hp} {p c : Addr} {n : Nat} {m : List V} (h : Pen H p c n m) {a : Addr} (e : H a = none) : a ≠ c := by
  obtain ⟨ns, i, s, h⟩ := h
  rintro rfl
  rw [h.cells] at e
  cases e
/-- a store elsewhere -/
theorem Pen.off {H : Hp} {p c : Addr} {n : Nat} {m : List V} (h : Pen H p c n m) {a : Addr} {o : HO} (h1 : a ≠ p) (h2 : a ≠ c) : Pen (upd H a o) p c n m := by
  obtain ⟨ns, i, s, h⟩ := h
  exact ⟨ns, i, s, by rw [upd_ne h1.symm]; exact h.at_, by rw [upd_ne h2.symm]; exact h.cells, h.len, h.i0, h.i1, h.s0⟩
/-- all but p is as it was -/
def But (p : Addr) (H H' : Hp) : Prop := ∀ b o, b ≠ p → H b = some o → H' b = some o
theorem But.refl (p : Addr) (H : Hp) : But p H H := fun _ _ _ e => e
theorem But.trans {p : Addr} {H H1 H2 : Hp} (a : But p H H1) (b : But p H1 H2) : But p H H2 := fun c o n e => b c o n (a c o n e)
theorem But.of_same {p : Addr} {H H' : Hp} (h : Same H H') : But p H H' := fun b o _ e => h b o e
theorem But.upd {p : Addr} {H : Hp} {o : HO} : But p H (upd H p o) := fun b x n e => by rw [upd_ne n]; exact e
/-- what is free behind was free ahead -/
theorem But.free {p : Addr} {H H' : Hp} (e : But p H H') {a : Addr} (n : a ≠ p) (h : H' a = none) : H a = none := by
  cases q : H a with
  | none => rfl
  | some o =>
    rw [e a o n q] at h
    cases h
theorem But.seq {K : PySem.W.Frag} {p : Addr} {H H' : Hp} {a : Addr} {xs : List V} (e : But p H H') (hn : a ≠ p) (h : SqL K H a xs) : SqL K H' a xs := by
  rcases h with (h | ⟨o, h⟩) | h
  · exact .inl (.inl (e _ _ hn h))
  · exact .inl (.inr ⟨o, e _ _ hn h⟩)
  · exact .inr h
theorem PenAt.but {H H' : Hp} {p c : Addr} {n k : Nat} {m : List V} {ns : List Int} {i s i' s' : Int} (h : PenAt H p n m c ns i s) (hb : But p H H') (e : H' p = some (penL c i' s' m)) (h0 : 0 ≤ i') (h1 : i' ≤ k) (h2 : 0 ≤ s') : PenAt H' p k m c ns i' s' :=
  ⟨e, hb _ _ h.ne h.cells, h.len, h0, h1, h2⟩
/-- no call makes more turns of the pen -/
abbrev PB : Nat := 1000000000000
def spPen (K : PySem.W.Frag) : Sp := fun vs H Q _ => ∃ (a : Addr) (ns : List Int), vs = [.ref a] ∧ SqL K H a (ns.map V.int) ∧ ns.length ≤ 63 ∧ ∀ H' p c, Same H H' → H p = none → H c = none → Pen H' p c 0 [] → Q (.ref p) H'
def spNext : Sp := fun vs H Q _ => ∃ (p : Addr) (n : Nat) (m : List V) (c : Addr) (ns : List Int) (i s : Int), vs = [.ref p] ∧ PenAt H p n m c ns i s ∧ n ≤ PB ∧
  ∀ (x : Int) (H' : Hp), 0 ≤ x → But p H H' → PenAt H' p (n + 1) m c ns (i + 1) s → Q (.int x) H'
def spDraw : Sp := fun vs H Q _ => ∃ (p c : Addr) (n : Nat) (m : List V) (below : Int), vs = [.ref p, .int below] ∧ Pen H p c n m ∧ n ≤ PB ∧ 0 < below ∧ below < 1073741824 ∧
  ∀ (d : Int) (H' : Hp), 0 ≤ d → d < below → But p H H' → Pen H' p c (n + 1) m → Q (.int d) H'
theorem sixty {ns : List Int} : HT.sIx ns.length 0 none = 0 ∧ HT.sIx ns.length ns.length (some 60) ≤ 60 := by
  refine ⟨HT.sIx_none _ _, ?_⟩
  rw [show HT.sIx ns.length ns.length (some 60) = min 60 ns.length from HT.sIx_nat ns.length ns.length 60]
  omega
theorem cut60 (ns : List Int) : ∃ ms : List Int, cutV (ns.map V.int) none (some 60) = ms.map V.int ∧ ms.length ≤ 60 := by
  unfold cutV
  refine ⟨(ns.drop (HT.sIx (ns.map V.int).length 0 none)).take (HT.sIx (ns.map V.int).length (ns.map V.int).length (some 60) - HT.sIx (ns.map V.int).length 0 none), ?_, ?_⟩
  · rw [List.map_take, List.map_drop]
  · rw [List.length_take, List.length_map]
    have h := (sixty (ns := ns)).2
    omega
theorem same_upd {H : Hp} {p : Addr} {o : HO} (h : H p = none) : Same H (upd H p o) := fun b x e => by
  rw [upd_ne (ne_of_none e h)]
  exact e
theorem ix1 {a b c : V} {m : List V} : ixN (a :: b :: c :: m).length 1 = some 1 := by
  unfold ixN
  rw [if_pos (by decide), if_pos (by rw [List.length_cons, List.length_cons]; omega)]
  rfl
theorem ix2 {a b c : V} {m : List V} : ixN (a :: b :: c :: m).length 2 = some 2 := by
  unfold ixN
  rw [if_pos (by decide), if_pos (by rw [List.length_cons, List.length_cons, List.length_cons]; omega)]
  rfl
theorem dpAll_ints {K : PySem.W.Frag} {H : Hp} : ∀ ns : List Int, DpAll K H (ns.map V.int) (ns.map PyData.int)
  | [] => .nil
  | n :: r => .cons (.int n) (dpAll_ints r)
theorem eqv_nil (ns : List Int) : PyData.eqv (.list (ns.map PyData.int)) (.list []) = decide (ns = []) := by
  cases ns with
  | nil => rfl
  | cons x r => rfl
/-! ### what the reprs of small data come to -/
structure OkD (L B : Nat) (d : PyData) : Prop where
  sh : d.showable = true
  dp : d.depth ≤ L
  ln : d.shown.length ≤ B
theorem OkD.mono {L B L' B' : Nat} {d : PyData} (h : OkD L B d) (h1 : L ≤ L') (h2 : B ≤ B') : OkD L' B' d := ⟨h.sh, Nat.le_trans h.dp h1, Nat.le_trans h.ln h2⟩
theorem comma_len : ((", " : String) : Str).length = 2 := by decide +kernel
theorem join_le : ∀ ts : List Str, (Str.join ", " ts).length ≤ (ts.map fun t => t.length + 2).sum
  | [] => Nat.zero_le _
  | [x] => by
    show x.length ≤ _
    rw [List.map_cons, List.sum_cons]
    omega
  | x :: y :: r => by
    have ih := join_le (y :: r)
    show (x ++ ((", " : String) : Str) ++ Str.join ", " (y :: r)).length ≤ _
    rw [strLen_append, strLen_append, comma_len, List.map_cons, List.sum_cons]
    omega
theorem sum_le_of {l : List Str} {B : Nat} (h : ∀ t ∈ l, t.length ≤ B) : (l.map fun t => t.length + 2).sum ≤ l.length * (B + 2) := by
  induction l with
  | nil => exact Nat.zero_le _
  | cons x r ih =>
    have h1 := h x List.mem_cons_self
    have h2 := ih fun t ht => h t (List.mem_cons_of_mem _ ht)
    rw [List.map_cons, List.sum_cons, List.length_cons, Nat.succ_mul]
    omega
theorem shownAll_map : ∀ ds : List PyData, PyData.shownAll ds = ds.map PyData.shown
  | [] => PyData.shownAll_nil
  | d :: ds => by rw [PyData.shownAll_cons, shownAll_map ds, List.map_cons]
theorem showableAll_all : ∀ {ds : List PyData}, (∀ d ∈ ds, d.showable = true) → PyData.showableAll ds = true := PySem.Spec.showableAll_of
theorem depthAll_le {L : Nat} : ∀ {ds : List PyData}, (∀ d ∈ ds, d.depth ≤ L) → PyData.depthAll ds ≤ L
  | [], _ => by simp only [PyData.depthAll]; exact Nat.zero_le _
  | d :: ds, h => by
    have h1 := h d List.mem_cons_self
    have h2 := depthAll_le fun x hx => h x (List.mem_cons_of_mem _ hx)
    simp only [PyData.depthAll]
    omega
theorem OkD.list {L B n : Nat} {ds : List PyData} (hn : ds.length ≤ n) (h : ∀ d ∈ ds, OkD L B d) : OkD (L + 1) (n * (B + 2) + 2) (.list ds) := by
  refine ⟨by simp only [PyData.showable]; exact showableAll_all fun d hd => (h d hd).sh, ?_, ?_⟩
  · have := depthAll_le fun d hd => (h d hd).dp
    simp only [PyData.depth]
    omega
  · rw [PyData.shown_list, shownAll_map, strLen_append, strLen_append]
    have h1 := join_le (ds.map PyData.shown)
    have h2 := sum_le_of (l := ds.map PyData.shown) (B := B) fun t ht => by
      obtain ⟨d, hd, rfl⟩ := List.mem_map.mp ht
      exact (h d hd).ln
    rw [List.length_map] at h2
    have h3 := Nat.mul_le_mul_right (B + 2) hn
    have e1 : ((("[" : String) : Str)).length = 1 := by decide +kernel
    have e2 : ((("]" : String) : Str)).length = 1 := by decide +kernel
    omega
theorem OkD.tuple {L B n : Nat} {ds : List PyData} (hn : ds.length ≤ n) (h : ∀ d ∈ ds, OkD L B d) : OkD (L + 1) (n * (B + 2) + 3) (.tuple ds) := by
  refine ⟨by simp only [PyData.showable]; exact showableAll_all fun d hd => (h d hd).sh, ?_, ?_⟩
  · have := depthAll_le fun d hd => (h d hd).dp
    simp only [PyData.depth]
    omega
  · rw [PyData.shown_tuple, shownAll_map, strLen_append, strLen_append]
    have h1 := join_le (ds.map PyData.shown)
    have h2 := sum_le_of (l := ds.map PyData.shown) (B := B) fun t ht => by
      obtain ⟨d, hd, rfl⟩ := List.mem_map.mp ht
      exact (h d hd).ln
    rw [List.length_map] at h2
    have h3 := Nat.mul_le_mul_right (B + 2) hn
    have e1 : ((("(" : String) : Str)).length = 1 := by decide +kernel
    have e2 : (((if (ds.length == 1) = true then ",)" else ")" : String) : Str)).length ≤ 2 := by split <;> decide +kernel
    omega
theorem depthKv_le {L : Nat} : ∀ {ds : List (PyData × PyData)}, (∀ d ∈ ds, d.1.depth ≤ L ∧ d.2.depth ≤ L) → PyData.depthKv ds ≤ L
  | [], _ => by simp only [PyData.depthKv]; exact Nat.zero_le _
  | (a, b) :: ds, h => by
    have h1 : a.depth ≤ L ∧ b.depth ≤ L := h (a, b) List.mem_cons_self
    have h2 := depthKv_le fun x hx => h x (List.mem_cons_of_mem _ hx)
    simp only [PyData.depthKv]
    omega
theorem shownKv_map : ∀ ds : List (PyData × PyData), PyData.shownKv ds = ds.map fun p => p.1.shown ++ ((": " : String) : Str) ++ p.2.shown
  | [] => PyData.shownKv_nil
  | (a, b) :: ds => by rw [PyData.shownKv_cons, shownKv_map ds, List.map_cons]
theorem OkD.dict {L B C n : Nat} {ds : List (PyData × PyData)} (hn : ds.length ≤ n) (h : ∀ d ∈ ds, OkD L C d.1 ∧ OkD L B d.2) : OkD (L + 1) (n * (C + B + 4) + 2) (.dict ds) := by
  refine ⟨by simp only [PyData.showable]; exact PySem.Spec.showableKv_of fun d hd => ⟨(h d hd).1.sh, (h d hd).2.sh⟩, ?_, ?_⟩
  · have := depthKv_le fun d hd => ⟨(h d hd).1.dp, (h d hd).2.dp⟩
    simp only [PyData.depth]
    omega
  · rw [PyData.shown_dict, shownKv_map, strLen_append, strLen_append]
    have h1 := join_le (ds.map fun p => p.1.shown ++ ((": " : String) : Str) ++ p.2.shown)
    have e0 : (((": " : String) : Str)).length = 2 := by decide +kernel
    have h2 := sum_le_of (l := ds.map fun p => p.1.shown ++ ((": " : String) : Str) ++ p.2.shown) (B := C + B + 2) fun t ht => by
      obtain ⟨d, hd, rfl⟩ := List.mem_map.mp ht
      have z1 := (h d hd).1.ln
      have z2 := (h d hd).2.ln
      rw [strLen_append, strLen_append, e0]
      omega
    rw [List.length_map] at h2
    have h3 := Nat.mul_le_mul_right (C + B + 2 + 2) hn
    have e1 : ((("{" : String) : Str)).length = 1 := by decide +kernel
    have e2 : ((("}" : String) : Str)).length = 1 := by decide +kernel
    have e3 : C + B + 2 + 2 = C + B + 4 := by omega
    rw [e3] at h2 h3
    omega
/-! ### dicts made of pairs -/
theorem putK_end {kvs : List (Key × V)} {k : Key} {v : V} (h : k ∉ kvs.map (·.1)) : putK kvs k v = kvs ++ [(k, v)] := by
  unfold putK
  rw [if_neg]
  intro q
  obtain ⟨p, hp, e⟩ := List.any_eq_true.mp q
  exact h (List.mem_map.mpr ⟨p, hp, of_decide_eq_true e⟩)
theorem mergeK_nd : ∀ (more kvs : List (Key × V)), ((kvs ++ more).map (·.1)).Nodup → mergeK kvs more = kvs ++ more
  | [], kvs, _ => (List.append_nil _).symm
  | (k, v) :: r, kvs, h => by
    have e : kvs ++ (k, v) :: r = (kvs ++ [(k, v)]) ++ r := by rw [List.append_assoc]; rfl
    have hk : k ∉ kvs.map (·.1) := fun m => by
      rw [List.map_append, List.nodup_append] at h
      exact h.2.2 k m k (by rw [List.map_cons]; exact List.mem_cons_self) rfl
    show mergeK (putK kvs k v) r = _
    rw [putK_end hk, e]
    rw [e] at h
    exact mergeK_nd r _ h
theorem DrKv.zip {K : PySem.W.Frag} {H : Hp} {N : Addr → Prop} : ∀ (ks : List Key) {vs : List V} {ds : List PyData}, DrAll K H N vs ds → DrKv K H N (ks.zip vs) ((ks.map keyD).zip ds)
  | [], _, _, _ => .nil
  | _ :: _, _, _, .nil => .nil
  | k :: ks, _, _, .cons h t => .cons h (DrKv.zip ks t)
theorem nodup_zip {α β : Type} {ks : List α} (h : ks.Nodup) : ∀ vs : List β, ((ks.zip vs).map (·.1)).Nodup := fun vs => by
  have e : (ks.zip vs).map (·.1) = ks.take vs.length := by
    induction ks generalizing vs with
    | nil => cases vs <;> rfl
    | cons k ks ih =>
      cases vs with
      | nil => rfl
      | cons v vs =>
        show k :: (ks.zip vs).map (·.1) = _
        rw [ih (List.nodup_cons.mp h).2]
        rfl
  rw [e]
  exact h.sublist (List.take_sublist _ _)
/-- a comprehension without tests: the item is kept -/
theorem yes_if {σ : L2.St} {H : Hp} {A B : Hp → Prop} (h : A H) : tYes σ H fun b H3 => if b = true then A H3 else B H3 := by
  unfold tYes
  dsimp only
  rw [if_pos rfl]
  exact h
/-! ### texts made of texts -/
/-- the signs of a text -/
abbrev sg (x : Str) : List Nat := x.cps.toList
theorem sg_len (x : Str) : (sg x).length = x.length := Array.length_toList
theorem sg_app (x y : Str) : sg (x ++ y) = sg x ++ sg y := by
  show ((x.cps ++ y.cps).toList : List Nat) = _
  rw [Array.toList_append]
theorem sg_empty : sg "" = [] := by rw [show ("" : Str) = ⟨#[]⟩ from empty_str]
theorem app_empty (x : Str) : x ++ ((("" : String) : Str)) = x := str_ext (by
  show sg (x ++ _) = sg x
  rw [sg_app, sg_empty, List.append_nil])
theorem sg_join : ∀ ys : List Str, sg (Txt.join "" ys) = (ys.map sg).flatten := by
  intro ys
  show sg (Builtin.Str.glued "" ys) = _
  rw [StrLaws.glued_eq_join]
  induction ys with
  | nil => rfl
  | cons y r ih =>
    cases r with
    | nil =>
      show sg y = _
      rw [List.map_cons, List.map_nil, List.flatten_cons, List.flatten_nil, List.append_nil]
    | cons z t =>
      show sg (y ++ ((("" : String) : Str)) ++ Str.join "" (z :: t)) = _
      rw [app_empty, sg_app, ih, List.map_cons (a := y), List.flatten_cons]
/-- a text that is not long, of signs that repr writes short -/
structure Sm (n : Nat) (x : Str) : Prop where
  ln : x.length ≤ n
  ch : ∀ c ∈ sg x, c < 128
theorem Sm.mono {n m : Nat} {x : Str} (h : Sm n x) (hm : n ≤ m) : Sm m x := ⟨Nat.le_trans h.ln hm, h.ch⟩
theorem Sm.app {n m : Nat} {x y : Str} (h : Sm n x) (h' : Sm m y) : Sm (n + m) (x ++ y) := ⟨by
  rw [strLen_append]
  exact Nat.add_le_add h.ln h'.ln, fun c hc => by
  rw [sg_app] at hc
  exact (List.mem_append.mp hc).elim (h.ch c) (h'.ch c)⟩
theorem Sm.cut {n : Nat} {x : Str} (h : Sm n x) (lo hi : Option Int) : Sm n (cutS x lo hi) := ⟨Nat.le_trans (cutS_length x lo hi) h.ln, fun c hc => by
  have e : sg (cutS x lo hi) = ((sg x).drop (HT.sIx x.length 0 lo)).take (HT.sIx x.length x.length hi - HT.sIx x.length 0 lo) := rfl
  rw [e] at hc
  exact h.ch c (List.mem_of_mem_drop (List.mem_of_mem_take hc))⟩
theorem Sm.one {c : Nat} (h : c < 128) : Sm 1 ⟨#[c]⟩ := ⟨Nat.le_refl _, fun d hd => by
  have hd' : d ∈ [c] := hd
  rw [List.mem_singleton.mp hd']
  exact h⟩
theorem Sm.join {ys : List Str} (h : ∀ y ∈ ys, Sm 1 y) : Sm ys.length (Txt.join "" ys) := by
  constructor
  · rw [← sg_len, sg_join]
    induction ys with
    | nil => exact Nat.le_refl _
    | cons y r ih =>
      have h1 := (h y List.mem_cons_self).ln
      have h2 := ih fun z hz => h z (List.mem_cons_of_mem _ hz)
      rw [List.map_cons, List.flatten_cons, List.length_append, List.length_cons, sg_len]
      omega
  · intro c hc
    rw [sg_join] at hc
    obtain ⟨l, hl, hc⟩ := List.mem_flatten.mp hc
    obtain ⟨y, hy, rfl⟩ := List.mem_map.mp hl
    exact (h y hy).ch c hc
theorem Sm.ok {n B : Nat} {x : Str} (h : Sm n x) (hb : 10 * n + 2 ≤ B) : OkD 0 B (.str x) := by
  refine ⟨by simp only [PyData.showable], by simp only [PyData.depth]; exact Nat.le_refl _, ?_⟩
  rw [PyData.shown_str]
  have h1 := StrLaws.reprText_len x fun c hc => Nat.lt_of_lt_of_le (h.ch c hc) (by decide)
  have h2 := h.ln
  omega
theorem sum_ones {ys : List Str} (h : ∀ y ∈ ys, Sm 1 y) : (ys.map (·.length)).sum ≤ ys.length := by
  induction ys with
  | nil => exact Nat.le_refl _
  | cons y r ih =>
    have h1 := (h y List.mem_cons_self).ln
    have h2 := ih fun z hz => h z (List.mem_cons_of_mem _ hz)
    rw [List.map_cons, List.sum_cons, List.length_cons]
    omega
/-- text * number -/
def rMulS : R2 := fun x y H Q => ∃ z n, x = .str z ∧ y = .int n ∧ MulOk z n ∧ Q (.str (Txt.mul z n)) H
theorem op_mulS {X : Cx} : OpR X (binaryOp .Mult) rMulS := by
  intro pins s σ H x y v u Q I rx ry h
  obtain ⟨z, n, rfl, rfl, ok, q⟩ := h
  obtain ⟨t, rfl⟩ := rx
  obtain ⟨t', rfl⟩ := ry
  exact SB.mul ok fun t k => ⟨.str _, H, I.tok _, ⟨_, rfl⟩, q⟩
theorem foldl_app (l : List (Array Nat)) : ∀ a : Array Nat, (l.foldl (· ++ ·) a).toList = a.toList ++ (l.map Array.toList).flatten := by
  induction l with
  | nil => intro a; simp
  | cons x r ih =>
    intro a
    rw [List.foldl_cons, ih, Array.toList_append, List.map_cons, List.flatten_cons, List.append_assoc]
theorem mul_sm {x : Str} {n : Nat} (h : Sm 1 x) (h1 : 2 ≤ n) (hx : (x.length == 0) = false) : Sm n (Txt.mul x (n : Int)) := by
  have e : Txt.mul x (n : Int) = ⟨(List.replicate n x.cps).foldl (· ++ ·) #[]⟩ := by
    unfold Txt.mul
    rw [if_neg (by omega), hx, show ((n : Int) == 1) = false from beq_eq_false_iff_ne.mpr (by omega)]
    rfl
  have e2 : sg (Txt.mul x (n : Int)) = (List.replicate n (sg x)).flatten := by
    rw [e]
    show ((List.replicate n x.cps).foldl (· ++ ·) #[]).toList = _
    rw [foldl_app, List.map_replicate]
    rfl
  constructor
  · rw [← sg_len, e2, List.length_flatten, List.map_replicate, List.sum_replicate_nat, sg_len]
    have := h.ln
    exact Nat.le_trans (Nat.mul_le_mul_left n this) (by omega)
  · intro c hc
    rw [e2] at hc
    obtain ⟨l, hl, hc⟩ := List.mem_flatten.mp hc
    rw [(List.mem_replicate.mp hl).2] at hc
    exact h.ch c hc
/-- bit in ['0', '1'] -/
theorem bit_in (c : Nat) : inV (.str ⟨#[c]⟩) [.str "0", .str "1"] = (("01" : Str)).cps.contains c := by
  have e0 : ("0" : Str) = ⟨#[48]⟩ := by decide +kernel
  have e1 : ("1" : Str) = ⟨#[49]⟩ := by decide +kernel
  have e2 : (("01" : Str)).cps = #[48, 49] := by decide +kernel
  have eq1 : ∀ d : Nat, eqV (.str ⟨#[d]⟩) (.str ⟨#[c]⟩) = (c == d) := fun d => by
    show ((⟨#[d]⟩ : Str) == ⟨#[c]⟩) = (c == d)
    rw [Bool.eq_iff_iff, beq_iff_eq, beq_iff_eq]
    constructor
    · intro h
      have h2 : ([d] : List Nat) = [c] := congrArg Array.toList (Str.mk.inj h)
      exact (List.cons.inj h2).1.symm
    · rintro rfl
      rfl
  rw [e0, e1, e2]
  show (eqV (.str ⟨#[48]⟩) (.str ⟨#[c]⟩) || (eqV (.str ⟨#[49]⟩) (.str ⟨#[c]⟩) || false)) = _
  rw [eq1, eq1, Bool.eq_iff_iff]
  simp
/-! ### rows -/
theorem bits_sm {x : Str} (h : isBits x = true) : ∀ c ∈ sg x, c < 128 := fun c hc => by
  have h1 := List.all_eq_true.mp h c hc
  have e2 : (("01" : Str)).cps = #[48, 49] := by decide +kernel
  rw [e2] at h1
  simp at h1
  omega
theorem bits_iff {x : Str} : isBits x = true ↔ ∀ c ∈ sg x, c = 48 ∨ c = 49 := by
  have e2 : (("01" : Str)).cps = #[48, 49] := by decide +kernel
  unfold isBits onlyOf
  rw [e2, List.all_eq_true]
  constructor
  · intro h c hc
    have := h c hc
    simp at this
    omega
  · intro h c hc
    have := h c hc
    simp
    omega
theorem bits_app {x y : Str} (h : isBits x = true) (h' : isBits y = true) : isBits (x ++ y) = true := bits_iff.mpr fun c hc => by
  rw [sg_app] at hc
  exact (List.mem_append.mp hc).elim (bits_iff.mp h c) (bits_iff.mp h' c)
theorem bits_sub {x y : Str} (h : isBits x = true) (k : ∀ c ∈ sg y, c ∈ sg x) : isBits y = true := bits_iff.mpr fun c hc => bits_iff.mp h c (k c hc)
theorem sg_cut (x : Str) (lo hi : Option Int) : sg (cutS x lo hi) = ((sg x).drop (HT.sIx x.length 0 lo)).take (HT.sIx x.length x.length hi - HT.sIx x.length 0 lo) := rfl
theorem bits_cut {x : Str} (h : isBits x = true) (lo hi : Option Int) : isBits (cutS x lo hi) = true := bits_sub h fun c hc => by
  rw [sg_cut] at hc
  exact List.mem_of_mem_drop (List.mem_of_mem_take hc)
/-- x[:k] -/
theorem sg_take (x : Str) (k : Nat) : sg (cutS x none (some (k : Int))) = (sg x).take k := by
  rw [sg_cut, HT.sIx_none, HT.sIx_nat, List.drop_zero, Nat.sub_zero, ← sg_len]
  rcases Nat.le_total k (sg x).length with h | h
  · rw [Nat.min_eq_left h]
  · rw [Nat.min_eq_right h, List.take_length, List.take_of_length_le h]
theorem take_len (x : Str) (k : Nat) : (cutS x none (some (k : Int))).length ≤ k := by
  rw [← sg_len, sg_take, List.length_take]
  omega
theorem bits_empty : isBits "" = true := by decide +kernel
theorem flat_str (xs : List Str) : (xs.map V.str).all flatV = true := by
  induction xs with
  | nil => rfl
  | cons x r ih => exact ih
theorem inV_str (x : Str) (xs : List Str) : inV (.str x) (xs.map V.str) = decide (x ∈ xs) := by
  induction xs with
  | nil => rfl
  | cons y r ih =>
    have e : inV (.str x) ((y :: r).map V.str) = ((y == x) || inV (.str x) (r.map V.str)) := rfl
    rw [e, ih, Bool.eq_iff_iff, Bool.or_eq_true, beq_iff_eq, decide_eq_true_iff, decide_eq_true_iff, List.mem_cons]
    exact ⟨fun h => h.imp Eq.symm id, fun h => h.imp Eq.symm id⟩
theorem dpAll_strs {K : PySem.W.Frag} {H : Hp} : ∀ xs : List Str, DpAll K H (xs.map V.str) (xs.map PyData.str)
  | [] => .nil
  | x :: r => .cons (.str x) (dpAll_strs r)
theorem shaped_strs {xs : List Str} (h : ∀ x ∈ xs, isBits x = true) : SeqAt.shaped (.list (xs.map PyData.str)) = true := by
  have h1 : PyData.canLayAll0 (xs.map PyData.str) = true := by
    induction xs with
    | nil => simp only [List.map_nil, PyData.canLayAll0]
    | cons x r ih =>
      rw [List.map_cons]
      simp only [PyData.canLayAll0, PyData.canLay0]
      rw [ih fun y hy => h y (List.mem_cons_of_mem _ hy), Bool.and_true]
      unfold PyData.strOk
      have hx := bits_sm (h x List.mem_cons_self)
      rw [Array.all_eq_true']
      intro c hc
      have := hx c (Array.mem_toList_iff.mpr hc)
      exact decide_eq_true (by omega)
  have h2 : PyData.depthAll (xs.map PyData.str) ≤ 0 := depthAll_le fun d hd => by
    obtain ⟨x, _, rfl⟩ := List.mem_map.mp hd
    simp only [PyData.depth]
    exact Nat.le_refl _
  unfold SeqAt.shaped
  rw [Bool.and_eq_true]
  refine ⟨by simp only [PyData.canLay0]; exact h1, decide_eq_true ?_⟩
  simp only [PyData.depth]
  omega
theorem eqv_nilS (xs : List Str) : PyData.eqv (.list (xs.map PyData.str)) (.list []) = decide (xs = []) := by
  cases xs with
  | nil => rfl
  | cons x r => rfl
/-- the prefixes of a map of this width, each once -/
structure PfxL (w : Nat) (xs : List Str) : Prop where
  nd : xs.Nodup
  bits : ∀ x ∈ xs, isBits x = true
  len : ∀ x ∈ xs, x.length ≤ w
/-- rows: prefixes of this width with values of this kind -/
structure RowsOk (w : Nat) (vok : V → Prop) (xs : List Str) (kvs : List (Key × V)) : Prop where
  keys : kvs.map (·.1) = xs.map Sum.inr
  pfx : PfxL w xs
  val : ∀ kv ∈ kvs, vok kv.2
def isIntV : V → Prop
  | .int _ => True
  | _ => False
def spBits : Sp := fun vs H Q _ => ∃ (p c : Addr) (n z : Nat) (m : List V), vs = [.ref p, .int z] ∧ Pen H p c n m ∧ n + 100 ≤ PB ∧ z ≤ 40 ∧
  ∀ (x : Str) (H' : Hp), But p H H' → Pen H' p c (n + 1 + z) m → isBits x = true → x.length ≤ z → Q (.str x) H'
def spSize : Sp := fun vs H Q _ => ∃ (p c : Addr) (n : Nat) (m : List V), vs = [.ref p] ∧ Pen H p c n m ∧ n + 100 ≤ PB ∧ m.length ≤ 1 ∧
  ∀ (z : Nat) (m' : List V) (H' : Hp), But p H H' → Pen H' p c (n + 1) m' → m'.length ≤ 1 → 1 ≤ z → z ≤ 32 → Q (.int z) H'
def spPrefixes : Sp := fun vs H Q _ => ∃ (p c : Addr) (n z k : Nat) (m : List V), vs = [.ref p, .int z, .int k] ∧ Pen H p c n m ∧ n + 1000 ≤ PB ∧ z ≤ 32 ∧ k ≤ 20 ∧
  ∀ (l : Addr) (xs : List Str) (H' : Hp), But p H H' → Pen H' p c (n + 1 + 8 * k) m → H l = none → H' l = some (.lst (xs.map V.str)) → PfxL z xs → xs.length ≤ k → Q (.ref l) H'
/-! ### types as isinstance reads them -/
def isIntish : V → Bool
  | .int _ => true
  | .bl _ => true
  | _ => false
def isBoolV : V → Bool
  | .bl _ => true
  | _ => false
def isWholeV : V → Bool
  | .int _ => true
  | _ => false
def isWidthV : V → Bool
  | .int z => decide ((1 : Int) ≤ z) && decide (z ≤ 32)
  | _ => false
structure TyI (K : PySem.W.Frag) (H : Hp) (v : V) (t : String) : Prop where
  ty : TyX K H v (.type t)
  int : PySem.W.kitOne K (.type t) (.type "int") = some (isIntish v)
  bool : PySem.W.kitOne K (.type t) (.type "bool") = some (isBoolV v)
theorem kitv {K : PySem.W.Frag} {t c : String} {b : Bool} (h : kitB t c = some b) : PySem.W.kitOne K (.type t) (.type c) = some b := kit_ty h
theorem TyI.of {K : PySem.W.Frag} {H : Hp} {N : Addr → Prop} {v : V} {d : PyData} (h : Dr K H N v d) : ∃ t, TyI K H v t := by
  cases h with
  | non => exact ⟨_, .base .non, kitv (b := false) (by decide +kernel), kitv (b := false) (by decide +kernel)⟩
  | bl b => exact ⟨_, .base (.bl b), kitv (b := true) (by decide +kernel), kitv (b := true) (by decide +kernel)⟩
  | int i => exact ⟨_, .base (.int i), kitv (b := true) (by decide +kernel), kitv (b := false) (by decide +kernel)⟩
  | str x => exact ⟨_, .base (.str x), kitv (b := false) (by decide +kernel), kitv (b := false) (by decide +kernel)⟩
  | lst _ h _ =>
    rcases h with (h | ⟨o, h⟩) | ⟨o, _, _, h, hc, _⟩
    · exact ⟨_, .base (.lst h), kitv (b := false) (by decide +kernel), kitv (b := false) (by decide +kernel)⟩
    · exact ⟨_, .base (.frz h), kitv (b := false) (by decide +kernel), kitv (b := false) (by decide +kernel)⟩
    · exact ⟨_, .kList h hc, kitv (b := false) (by decide +kernel), kitv (b := false) (by decide +kernel)⟩
  | tup _ h _ =>
    rcases h with (h | ⟨o, h⟩) | ⟨o, _, _, h, hc, _⟩
    · exact ⟨_, .base (.tup h), kitv (b := false) (by decide +kernel), kitv (b := false) (by decide +kernel)⟩
    · exact ⟨_, .fTuple h, kitv (b := false) (by decide +kernel), kitv (b := false) (by decide +kernel)⟩
    · exact ⟨_, .kTuple h hc, kitv (b := false) (by decide +kernel), kitv (b := false) (by decide +kernel)⟩
  | dic _ h _ =>
    rcases h with h | ⟨o, h⟩
    · exact ⟨_, .base (.dK h), kitv (b := false) (by decide +kernel), kitv (b := false) (by decide +kernel)⟩
    · exact ⟨_, .fDict h, kitv (b := false) (by decide +kernel), kitv (b := false) (by decide +kernel)⟩
/-! ### locked and as it was -/
theorem upd_back {H : Hp} {d : Addr} {u o : HO} (h : H d = some u) : upd (upd H d o) d u = H := by
  rw [upd_upd]
  funext b
  by_cases hb : b = d
  · rw [hb, upd_same, h]
  · rw [upd_ne hb]
/-- a dict comprehension over any walk -/
theorem dc_it {J : It} {n : Nat} {G : Hp → Prop} {Y : Nat → Hp → V → Hp → Prop} (w : Walk J n G Y) {g : TG} {tt : TT} {tk tv : TE} {vs : List Nat} {σ : L2.St} {H1 : Hp} {D : Addr} {Qd : Hp → Prop} (Pv : Nat → Hp → Prop) (h0 : Pv 0 (upd H1 D (.dK []))) (hG : ∀ i H, i ≤ n → Pv i H → G H)
    (hs : ∀ i x H H', i < n → Pv i H → Y i H x H' → g x (wipe σ vs) H' fun σ2 H2 => wipe σ2 vs = wipe σ vs ∧ tt σ2 H2 fun b H3 =>
      if b = true then tk σ2 H3 fun y H4 => tv σ2 H4 fun z H5 => ∃ kvs k, y = kV k ∧ H5 D = some (.dK kvs) ∧ kvs.length < sizeLine ∧ Pv (i + 1) (upd H5 D (.dK (putK kvs k z))) else Pv (i + 1) H3) (hd : ∀ H, Pv n H → Qd H) :
    ∃ W : Nat → Nat → Hp → Prop, (∃ m, W 0 m (upd H1 D (.dK []))) ∧ ∀ i m H, W i m H → (J.stop i H ∧ Qd H) ∨ (J.go i H ∧ ∃ Nx : Hp → Prop, (∀ H', Nx H' → ∃ m', m' < m ∧ W (i + 1) m' H') ∧
      ∀ x H', J.yld i H x H' → g x (wipe σ vs) H' fun σ2 H2 => wipe σ2 vs = wipe σ vs ∧ tt σ2 H2 fun b H3 =>
        if b = true then tk σ2 H3 fun y H4 => tv σ2 H4 fun z H5 => ∃ kvs k, y = kV k ∧ H5 D = some (.dK kvs) ∧ kvs.length < sizeLine ∧ Nx (upd H5 D (.dK (putK kvs k z))) else Nx H3) := by
  refine ⟨fun i m H => m + i = n ∧ Pv i H, ⟨n, rfl, h0⟩, ?_⟩
  rintro i m H ⟨hm, p⟩
  have q := hG i H (by omega) p
  rcases Nat.lt_or_ge i n with lt | ge
  · exact .inr ⟨w.goes i H lt q, Pv (i + 1), fun H' p' => ⟨m - 1, by omega, by omega, p'⟩, fun x H' y => hs i x H H' lt p (w.yields i H x H' lt q y)⟩
  · obtain rfl : i = n := by omega
    exact .inl ⟨w.stops H q, hd H p⟩
/-! ### prefixes of texts -/
def Pre (y x : Str) : Prop := sg y <+: sg x
instance (y x : Str) : Decidable (Pre y x) := inferInstanceAs (Decidable (sg y <+: sg x))
theorem startswith_iff (x y : Str) : Txt.startswith x y = decide (Pre y x) := by
  have e : Txt.startswith x y = (decide (0 + y.length ≤ x.length) && ((x.cps.extract 0 (0 + y.length)) == y.cps)) := rfl
  rw [e, Bool.eq_iff_iff, Bool.and_eq_true, decide_eq_true_iff, decide_eq_true_iff, beq_iff_eq]
  have e2 : (x.cps.extract 0 (0 + y.length)).toList = (sg x).take y.length := by simp [sg]
  constructor
  · rintro ⟨_, h⟩
    have h2 : (sg x).take y.length = sg y := by rw [← e2, h]
    show sg y <+: sg x
    rw [← h2]
    exact List.take_prefix _ _
  · intro h
    have h1 : sg y = (sg x).take (sg y).length := List.prefix_iff_eq_take.mp h
    have h3 := h.length_le
    rw [sg_len, sg_len] at h3
    refine ⟨by omega, ?_⟩
    apply Array.toList_inj.mp
    rw [e2, ← sg_len y]
    exact h1.symm
theorem pre_take (x : Str) (k : Nat) : Pre (cutS x none (some (k : Int))) x := by
  show sg _ <+: sg x
  rw [sg_take]
  exact List.take_prefix _ _
theorem pre_eq {x y : Str} (h : Pre y x) : y = cutS x none (some (y.length : Int)) := str_ext (by
  show sg y = sg _
  rw [sg_take, ← sg_len]
  exact List.prefix_iff_eq_take.mp h)
theorem pre_len {x y : Str} (h : Pre y x) : y.length ≤ x.length := by
  have := List.IsPrefix.length_le h
  rw [sg_len, sg_len] at this
  exact this
/-- the longest of xs with which x begins -/
def IsLong (xs : List Str) (x : Str) : Option Str → Prop
  | none => ∀ y ∈ xs, ¬ Pre y x
  | some y => y ∈ xs ∧ Pre y x ∧ ∀ z ∈ xs, Pre z x → z.length ≤ y.length
theorem IsLong.uniq {xs ys : List Str} {x : Str} (hm : ∀ y, y ∈ xs ↔ y ∈ ys) : ∀ {r r' : Option Str}, IsLong xs x r → IsLong ys x r' → r = r'
  | none, none, _, _ => rfl
  | none, some y, h, h' => absurd h'.2.1 (h y ((hm y).mpr h'.1))
  | some y, none, h, h' => absurd h.2.1 (h' y ((hm y).mp h.1))
  | some y, some z, h, h' => by
    have h1 := h.2.2 z ((hm z).mpr h'.1) h'.2.1
    have h2 := h'.2.2 y ((hm y).mp h.1) h.2.1
    have e : y.length = z.length := by omega
    rw [pre_eq h.2.1, pre_eq h'.2.1, e]
def optV : Option Str → V
  | none => .non
  | some x => .str x
/-! ### dicts by texts -/
theorem valV_mem {kvs : List (Key × V)} {k : Key} : (valV kvs k).isSome = true ↔ k ∈ kvs.map (·.1) := by
  unfold valV
  rw [Option.isSome_map, List.find?_isSome, List.mem_map]
  constructor
  · rintro ⟨p, hp, e⟩
    exact ⟨p, hp, of_decide_eq_true e⟩
  · rintro ⟨p, hp, e⟩
    exact ⟨p, hp, decide_eq_true e⟩
theorem inr_mem {kvs : List (Key × V)} {xs : List Str} (h : kvs.map (·.1) = xs.map Sum.inr) (y : Str) : (Sum.inr y : Key) ∈ kvs.map (·.1) ↔ y ∈ xs := by
  rw [h, List.mem_map]
  constructor
  · rintro ⟨z, hz, e⟩
    rw [← Sum.inr.inj e]
    exact hz
  · intro hy
    exact ⟨y, hy, rfl⟩
theorem key_at {kvs : List (Key × V)} {xs : List Str} (h : kvs.map (·.1) = xs.map Sum.inr) {i : Nat} {k : Key} {v : V} (e : kvs[i]? = some (k, v)) : ∃ y, xs[i]? = some y ∧ k = .inr y := by
  have h1 : (kvs.map (·.1))[i]? = some k := by rw [List.getElem?_map, e]; rfl
  rw [h, List.getElem?_map] at h1
  cases hx : xs[i]? with
  | none => rw [hx] at h1; cases h1
  | some y =>
    rw [hx] at h1
    exact ⟨y, rfl, (Option.some.inj h1).symm⟩
theorem valV_some {kvs : List (Key × V)} (nd : (kvs.map (·.1)).Nodup) {k : Key} {v : V} (h : (k, v) ∈ kvs) : valV kvs k = some v := by
  induction kvs with
  | nil => cases h
  | cons p r ih =>
    obtain ⟨k', v'⟩ := p
    rw [List.map_cons, List.nodup_cons] at nd
    rcases List.mem_cons.mp h with e | h
    · cases e
      exact valV_pos rfl
    · have hne : k' ≠ k := fun e => nd.1 (by rw [e]; exact List.mem_map.mpr ⟨_, h, rfl⟩)
      have hz := ih nd.2 h
      unfold valV at hz ⊢
      rw [List.find?_cons_of_neg (by simpa using hne)]
      exact hz
/-! ### the lines of a law: a new dict by drawn prefixes -/
theorem SqT.but {K : PySem.W.Frag} {p a : Addr} {H H' : Hp} {o : List V} {xs : List V} (e : But p H H') (hp : H p = some (.lst o)) (h : SqT K H a xs) : SqT K H' a xs := by
  rcases h with (h | ⟨u, h⟩) | h
  · exact .inl (.inl (e _ _ (ne_of h hp (fun z => nomatch z)) h))
  · exact .inl (.inr ⟨u, e _ _ (ne_of h hp (fun z => nomatch z)) h⟩)
  · exact .inr h
theorem SqT.same {K : PySem.W.Frag} {a : Addr} {H H' : Hp} {xs : List V} (e : Same H H') (h : SqT K H a xs) : SqT K H' a xs := by
  rcases h with (h | ⟨u, h⟩) | h
  · exact .inl (.inl (e _ _ h))
  · exact .inl (.inr ⟨u, e _ _ h⟩)
  · exact .inr h
def spLines (vok : V → Prop) (most : Nat) : Sp := fun vs H Q _ => ∃ (p c : Addr) (n z : Nat) (m : List V), vs = [.ref p, .int z] ∧ Pen H p c n m ∧ n + 1000 ≤ PB ∧ z ≤ 32 ∧
  ∀ (d : Addr) (xs : List Str) (kvs : List (Key × V)) (H' : Hp), But p H H' → H d = none → H' d = some (.dK kvs) → RowsOk z vok xs kvs → xs.length ≤ most → Pen H' p c (n + 200) m → Q (.ref d) H'
theorem Pen.lst {H : Hp} {p c : Addr} {n : Nat} {m : List V} (h : Pen H p c n m) : ∃ o, H p = some (.lst o) := by
  obtain ⟨ns, i, s, h⟩ := h
  exact ⟨_, h.at_⟩
/-- the loop of such a dict: pairs of a prefix and a value that is drawn -/
structure PairsAt (K : PySem.W.Frag) (H : Hp) (D : Addr) (vok : V → Prop) (xs : List Str) (ps : List Addr) (kvs : List (Key × V)) : Prop where
  at_ : H D = some (.lst (ps.map V.ref))
  prs : Paired (fun a kv => SqT K H a [kV kv.1, kv.2]) ps kvs
  keys : kvs.map (·.1) = xs.map Sum.inr
  val : ∀ kv ∈ kvs, vok kv.2
theorem PairsAt.but {K : PySem.W.Frag} {H H' : Hp} {D p : Addr} {vok : V → Prop} {xs : List Str} {ps : List Addr} {kvs : List (Key × V)} {o : List V} (h : PairsAt K H D vok xs ps kvs) (e : But p H H') (hp : H p = some (.lst o)) (hD : D ≠ p) : PairsAt K H' D vok xs ps kvs :=
  ⟨e _ _ hD h.at_, h.prs.mono fun _ _ t => SqT.but e hp t, h.keys, h.val⟩
theorem PairsAt.same {K : PySem.W.Frag} {H H' : Hp} {D : Addr} {vok : V → Prop} {xs : List Str} {ps : List Addr} {kvs : List (Key × V)} (h : PairsAt K H D vok xs ps kvs) (e : Same H H') : PairsAt K H' D vok xs ps kvs :=
  ⟨e _ _ h.at_, h.prs.mono fun _ _ t => SqT.same e t, h.keys, h.val⟩
theorem PairsAt.snoc {K : PySem.W.Frag} {H : Hp} {D : Addr} {vok : V → Prop} {xs : List Str} {ps : List Addr} {kvs : List (Key × V)} (h : PairsAt K H D vok xs ps kvs) {y : Str} {v : V} (hv : vok v) {t : Addr} (ht : H t = none) :
    PairsAt K (upd (upd H t (.tup [.str y, v])) D (.lst (ps.map V.ref ++ [.ref t]))) D vok (xs ++ [y]) (ps ++ [t]) (kvs ++ [(.inr y, v)]) := by
  have nt : t ≠ D := fun e => by
    rw [e, h.at_] at ht
    cases ht
  refine ⟨by rw [upd_same, List.map_append]; rfl, Paired.snoc (h.prs.mono fun a kv q => ?_) (.inl (.inl (by rw [upd_ne nt, upd_same]; rfl))), by rw [List.map_append, List.map_append, h.keys]; rfl, fun kv hk => ?_⟩
  · refine SqT.but (p := D) (H := upd H t (.tup [.str y, v])) .upd (by rw [upd_ne nt.symm]; exact h.at_) (SqT.same (same_upd ht) q)
  · rcases List.mem_append.mp hk with hk | hk
    · exact h.val kv hk
    · rw [List.mem_singleton.mp hk]
      exact hv
theorem pair_merge {K : PySem.W.Frag} {H : Hp} {D : Addr} {vok : V → Prop} {xs : List Str} {ps : List Addr} {kvs : List (Key × V)} (h : PairsAt K H D vok xs ps kvs) (nd : xs.Nodup) : mergeK [] kvs = kvs := by
  have e : (([] ++ kvs : List (Key × V)).map (·.1)).Nodup := by
    rw [List.nil_append, h.keys]
    exact nd.map Sum.inr (fun a b h e => h (Sum.inr.inj e))
  rw [mergeK_nd kvs [] e, List.nil_append]
/-- such a list made one longer: what stood else is as it was -/
theorem pairs_old {H H1 H3 : Hp} {D t p : Addr} {o1 o2 : HO} (hD : H D = none) (b1 : But p H H1) (b3 : But p H1 H3) (ht : H3 t = none) : But p H (upd (upd H3 t o1) D o2) := fun a o na ha => by
  have h1 := b3 a o na (b1 a o na ha)
  rw [upd_ne (ne_of_none ha hD), upd_ne (ne_of_none h1 ht)]
  exact h1
/-! ### lists of spots -/
theorem sg_mul (c n : Nat) : sg (Txt.mul ⟨#[c]⟩ (n : Int)) = List.replicate n c := by
  unfold Txt.mul
  by_cases h0 : (n : Int) < 1
  · rw [if_pos h0]
    have : n = 0 := by omega
    subst this
    rfl
  · rw [if_neg h0]
    by_cases h1 : n = 1
    · subst h1
      rfl
    · have e : (((n : Int) == 1) || ((⟨#[c]⟩ : Str).length == 0)) = false := by
        rw [show ((n : Int) == 1) = false from beq_eq_false_iff_ne.mpr (by omega)]
        rfl
      rw [e, if_neg Bool.false_ne_true]
      show ((List.replicate ((n : Int)).toNat (#[c] : Array Nat)).foldl (· ++ ·) #[]).toList = _
      rw [foldl_app, Int.toNat_natCast, List.map_replicate]
      show [] ++ (List.replicate n [c]).flatten = _
      rw [List.nil_append]
      induction n with
      | zero => rfl
      | succ k ih => 
        clear ih h0 h1 e
        induction k with
        | zero => rfl
        | succ j ih => rw [List.replicate_succ, List.flatten_cons, ih]; rfl
theorem zero_is : ("0" : Str) = ⟨#[48]⟩ := by decide +kernel
theorem one_is : ("1" : Str) = ⟨#[49]⟩ := by decide +kernel
theorem mul_ok1 {x : Str} {n : Nat} (hx : x.length ≤ 1) (hn : n ≤ 1000) : MulOk x (n : Int) := mulOk_of 1 1000 hx (by omega) (by omega) (by decide) (by decide)
theorem zeros_bits (n : Nat) : isBits (Txt.mul "0" (n : Int)) = true ∧ (Txt.mul "0" (n : Int)).length = n := by
  rw [zero_is]
  refine ⟨bits_iff.mpr fun c hc => ?_, ?_⟩
  · rw [sg_mul] at hc
    exact .inl (List.mem_replicate.mp hc).2
  · rw [← sg_len, sg_mul, List.length_replicate]
theorem ones_bits (n : Nat) : isBits (Txt.mul "1" (n : Int)) = true ∧ (Txt.mul "1" (n : Int)).length = n := by
  rw [one_is]
  refine ⟨bits_iff.mpr fun c hc => ?_, ?_⟩
  · rw [sg_mul] at hc
    exact .inr (List.mem_replicate.mp hc).2
  · rw [← sg_len, sg_mul, List.length_replicate]
/-- texts of bits, none longer than z -/
def AllS (z : Nat) (vs : List V) : Prop := ∀ v ∈ vs, ∃ x, v = .str x ∧ isBits x = true ∧ x.length ≤ z
theorem AllS.nil {z : Nat} : AllS z [] := fun _ h => absurd h List.not_mem_nil
theorem AllS.app {z : Nat} {vs us : List V} (h : AllS z vs) (h' : AllS z us) : AllS z (vs ++ us) := fun v hv => (List.mem_append.mp hv).elim (h v) (h' v)
theorem AllS.one {z : Nat} {x : Str} (h1 : isBits x = true) (h2 : x.length ≤ z) : AllS z [.str x] := fun v hv => ⟨x, List.mem_singleton.mp hv, h1, h2⟩
theorem AllS.rev {z : Nat} {vs : List V} (h : AllS z vs) : AllS z vs.reverse := fun v hv => h v (List.mem_reverse.mp hv)
theorem AllS.strs {z : Nat} {xs : List Str} (h : PfxL z xs) : AllS z (xs.map V.str) := fun v hv => by
  obtain ⟨x, hx, rfl⟩ := List.mem_map.mp hv
  exact ⟨x, rfl, h.bits x hx, h.len x hx⟩
theorem big_of {n : Nat} (h : n ≤ 1000) : n ≤ sizeLine := Nat.le_trans h (by decide)
theorem big_lt {n : Nat} (h : n ≤ 1000) : n < sizeLine := Nat.lt_of_le_of_lt h (by decide)
/-! ### rows whatever their order and however often they come -/
structure RowsAcc (w : Nat) (vok : V → Prop) (kvs : List (Key × V)) : Prop where
  nd : (kvs.map (·.1)).Nodup
  all : ∀ kv ∈ kvs, ∃ y, kv.1 = .inr y ∧ isBits y = true ∧ y.length ≤ w ∧ vok kv.2
theorem RowsAcc.put {w : Nat} {vok : V → Prop} {kvs : List (Key × V)} (h : RowsAcc w vok kvs) {y : Str} {v : V} (h1 : isBits y = true) (h2 : y.length ≤ w) (h3 : vok v) : RowsAcc w vok (putK kvs (.inr y) v) := by
  by_cases hm : (Sum.inr y : Key) ∈ kvs.map (·.1)
  · have e : putK kvs (.inr y) v = kvs.map (fun kv => if kv.1 = .inr y then (kv.1, v) else kv) := by
      unfold putK
      rw [if_pos]
      obtain ⟨p, hp, e⟩ := List.mem_map.mp hm
      exact List.any_eq_true.mpr ⟨p, hp, decide_eq_true e⟩
    rw [e]
    constructor
    · rw [List.map_map]
      have e2 : (Prod.fst ∘ fun kv : Key × V => if kv.1 = .inr y then (kv.1, v) else kv) = Prod.fst := by
        funext kv
        show (if kv.1 = .inr y then (kv.1, v) else kv).1 = kv.1
        split <;> rfl
      rw [e2]
      exact h.nd
    · intro kv hkv
      obtain ⟨p, hp, rfl⟩ := List.mem_map.mp hkv
      by_cases hy : p.1 = .inr y
      · rw [if_pos hy]
        exact ⟨y, hy, h1, h2, h3⟩
      · rw [if_neg hy]
        exact h.all p hp
  · rw [putK_end hm]
    constructor
    · rw [List.map_append, List.nodup_append]
      refine ⟨h.nd, List.nodup_cons.mpr ⟨List.not_mem_nil, List.nodup_nil⟩, fun a ha b hb e => hm ?_⟩
      have e2 : b = .inr y := List.mem_singleton.mp hb
      rw [← e2, ← e]
      exact ha
    · intro kv hkv
      rcases List.mem_append.mp hkv with hkv | hkv
      · exact h.all kv hkv
      · rw [List.mem_singleton.mp hkv]
        exact ⟨y, rfl, h1, h2, h3⟩
theorem RowsAcc.merge {w : Nat} {vok : V → Prop} : ∀ {more kvs : List (Key × V)}, RowsAcc w vok kvs → (∀ kv ∈ more, ∃ y, kv.1 = .inr y ∧ isBits y = true ∧ y.length ≤ w ∧ vok kv.2) → RowsAcc w vok (mergeK kvs more)
  | [], _, h, _ => h
  | (k, v) :: r, kvs, h, hm => by
    obtain ⟨y, e, h1, h2, h3⟩ := hm (k, v) List.mem_cons_self
    have e' : k = .inr y := e
    subst e'
    show RowsAcc w vok (mergeK (putK kvs (.inr y) v) r)
    exact RowsAcc.merge (h.put h1 h2 h3) fun kv hk => hm kv (List.mem_cons_of_mem _ hk)
theorem RowsAcc.ok {w : Nat} {vok : V → Prop} {kvs : List (Key × V)} (h : RowsAcc w vok kvs) : ∃ xs, RowsOk w vok xs kvs ∧ xs.length = kvs.length := by
  have key : ∀ l : List (Key × V), (∀ kv ∈ l, ∃ y, kv.1 = .inr y ∧ isBits y = true ∧ y.length ≤ w ∧ vok kv.2) → ∃ xs : List Str, l.map (·.1) = xs.map Sum.inr ∧ (∀ x ∈ xs, isBits x = true ∧ x.length ≤ w) := by
    intro l
    induction l with
    | nil => exact fun _ => ⟨[], rfl, fun _ h => absurd h List.not_mem_nil⟩
    | cons p r ih =>
      intro hl
      obtain ⟨xs, e, hx⟩ := ih fun kv hk => hl kv (List.mem_cons_of_mem _ hk)
      obtain ⟨y, ey, h1, h2, _⟩ := hl p List.mem_cons_self
      refine ⟨y :: xs, by rw [List.map_cons, List.map_cons, e, ey], fun x hx' => ?_⟩
      rcases List.mem_cons.mp hx' with rfl | hx'
      · exact ⟨h1, h2⟩
      · exact hx x hx'
  obtain ⟨xs, e, hx⟩ := key kvs h.all
  refine ⟨xs, ⟨e, ⟨?_, fun x hx' => (hx x hx').1, fun x hx' => (hx x hx').2⟩, fun kv hk => by obtain ⟨_, _, _, _, h⟩ := h.all kv hk; exact h⟩, ?_⟩
  · have hn := h.nd
    rw [e] at hn
    exact List.Pairwise.of_map Sum.inr (fun a b h e => h (by rw [e])) hn
  · have := congrArg List.length e
    rw [List.length_map, List.length_map] at this
    exact this.symm
def top (i : Nat) : Stmt := PySem.Challenge.pw_keptroutes_k05_longest_prefixes.main.body.getD i (.Pass ⟨0, 0, 0, 0⟩)
abbrev sWhole : Stmt := top 7
abbrev sWidth : Stmt := top 8
abbrev sHas : Stmt := top 9
abbrev sPfx : Stmt := top 10
abbrev sCls : Stmt := top 11
abbrev sPen : Stmt := top 13
abbrev sNext : Stmt := top 14
abbrev sDraw : Stmt := top 15
abbrev sBits : Stmt := top 16
abbrev sSize : Stmt := top 17
abbrev sPrefixes : Stmt := top 18
abbrev sNumbers : Stmt := top 20
abbrev sMatch : Stmt := top 21
abbrev sLaw : Stmt := top 22
section
variable {P : Program} {w : World} {K : PySem.W.Frag} {mg : Str → Option Value} {base : Heap}
theorem scPen : FnScope ["script"] ["script"] (defScope sPen) := ⟨rfl, rfl, rfl, by decide +kernel, rfl, by decide +kernel, by decide +kernel⟩
theorem ok_pen {f : Addr} {fd : FuncData} {k : Nat} (F : Fun K "_law_pen" "_law_pen" sPen f fd) (ml : mg "list" = none) : FnOk P w K mg base CX0 (k + 1) f fd ["script"] (spPen K) := by
  refine F.ok scPen (fun vs H Q E h => ?_) (fun cdv A outer s H vs Q E hr h => ?_)
  · obtain ⟨a, ns, rfl, _⟩ := h
    rfl
  · obtain ⟨a, ns, rfl, hS, hlen, q⟩ := h
    refine ⟨_, pss_one (ps_ret (pe_lst (pa_cons (pe_callTy call_list_of (by rfl) ml (by decide +kernel) (pa_cons (pe_slice sl_list (pv 0) po_none (po_some pe_int)) pa_nil)) (pa_cons pe_int (pa_cons pe_int pa_nil))))), ?_⟩
    obtain ⟨ms, em, hm⟩ := cut60 ns
    refine ⟨.ref a, rfl, 60, rfl, a, ns.map V.int, rfl, hS, fun b nb => ?_⟩
    rw [em]
    refine ⟨b, _, rfl, .inl (.inl (.inl upd_same)), fun c nc => ?_⟩
    refine ⟨by show 3 ≤ sizeLine; decide, fun p np => ?_⟩
    have s1 : Same H (upd H b (.lst (ms.map V.int))) := same_upd nb
    have s2 := same_upd (o := .lst (ms.map V.int)) nc
    have s3 := same_upd (o := penL c 0 0 []) np
    have nf : H p = none := (s1.trans s2).free np
    refine q _ p c (s1.trans (s2.trans s3)) nf (s1.free nc) ⟨ms, 0, 0, upd_same, ?_, hm, Int.le_refl _, Int.le_refl _, Int.le_refl _⟩
    exact s3 _ _ upd_same
theorem scNext : FnScope ["pen", "index", "cell", "low", "mid", "top"] ["pen"] (defScope sNext) := ⟨rfl, rfl, rfl, by decide +kernel, rfl, by decide +kernel, by decide +kernel⟩
theorem ok_next {f : Addr} {fd : FuncData} {k : Nat} (F : Fun K "_law_next" "_law_next" sNext f fd) (ml : mg "len" = none) : FnOk P w K mg base CX0 (k + 1) f fd ["pen"] spNext := by
  refine F.ok scNext (fun vs H Q E h => ?_) (fun cdv A outer s H vs Q E hr h => ?_)
  · obtain ⟨p, n, m, c, ns, i, z, rfl, _⟩ := h
    rfl
  · obtain ⟨p, n, m, c, ns, i, z, rfl, hp, hn, q⟩ := h
    have nd := scNext.nd
    have hu := hr.units
    refine ⟨_, pss_cons (ps_set (i := 1) nd rfl (.inl rfl) (pe_ix ix_list (pv 0) pe_int (fun _ _ => rfl)))
      (pss_cons (ps_asg (pe_op op_add (pv 1) pe_int) (pg_sub (pv 0) pe_int set_list))
      (pss_cons (ps_set (i := 2) nd rfl (.inl rfl) (pe_op op_add (pe_op op_mul (pv 1) pe_int) pe_int))
      (C8.pss_cut (ps_if (pt_cmpR (op_neD hu) (pe_ix ix_list (pv 0) pe_int (fun _ _ => rfl)) (pe_lst pa_nil) (nomark _))
        (pss_one (ps_set (i := 2) nd rfl (.inl rfl) (pe_ix ix_list (pe_ix ix_list (pv 0) pe_int (fun _ _ => rfl))
          (pe_op op_mod (pv 1) (pe_callB call_len_seq (by rfl) ml PySem.boot_len (pa_cons (pe_ix ix_list (pv 0) pe_int (fun _ _ => rfl)) pa_nil))) (fun _ _ => rfl)))) pss_nil)
      (C8.pss_cut (ps_if (PW.pt (pw_and (pt_cmpR op_lt (pv 1) (pe_callB call_len_seq (by rfl) ml PySem.boot_len (pa_cons (pe_ix ix_list (pv 0) pe_int (fun _ _ => rfl)) pa_nil)) (nomark _))
          (pw_and1 (pt_cmpR op_ge (pv 2) (pe_op op_pow pe_int pe_int) (nomark _)))))
        (pss_one (ps_ret (pv 2))) pss_nil)
      (C8.pss_cut (ps_set (i := 3) nd rfl (.inl rfl) (pe_op op_mod (pe_op op_add (pe_op op_add (pe_op op_mod (pv 2) pe_int) (pe_op op_mul (pv 1) pe_int)) pe_int) pe_int))
      (C8.pss_cut (ps_set (i := 4) nd rfl (.inl rfl) (pe_op op_mod (pe_op op_add (pe_op op_add (pe_op op_mul (pv 3) (pv 3)) (pe_op op_mul (pv 1) pe_int)) pe_int) pe_int))
      (C8.pss_cut (ps_set (i := 5) nd rfl (.inl rfl) (pe_op op_mod (pe_op op_add (pe_op op_add (pe_op op_mul (pv 4) (pv 4)) (pv 3)) (pe_op op_mul (pe_op op_mul (pv 1) (pv 1)) pe_int)) pe_int))
      (pss_one (ps_ret (pe_op op_add (pe_op op_mul (pe_op op_add (pe_op op_mul (pv 5) pe_int) (pv 4)) pe_int) (pv 3)))))))))))  , ?_⟩
    have hpL : H p = some (.lst (.ref c :: .int i :: .int z :: m)) := hp.at_
    have ncp : c ≠ p := hp.ne
    -- index = pen[1]; pen[1] = index + 1
    refine ⟨.ref p, rfl, p, _, 1, .int i, rfl, rfl, SqL.of hpL, atI_nat (j := 1) rfl, ?_⟩
    refine ⟨.int i, rfl, i, 1, rfl, rfl, .ref p, rfl, p, _, 1, 1, rfl, rfl, hpL, ix1, ?_⟩
    have e1 : (V.ref c :: .int i :: .int z :: m).set 1 (.int (i + 1)) = .ref c :: .int (i + 1) :: .int z :: m := rfl
    rw [e1]
    generalize hH : upd H p (.lst (.ref c :: .int (i + 1) :: .int z :: m)) = H1
    have h1 : H1 p = some (.lst (.ref c :: .int (i + 1) :: .int z :: m)) := by rw [← hH, upd_same]
    have hc1 : H1 c = some (.lst (ns.map V.int)) := by rw [← hH, upd_ne ncp]; exact hp.cells
    have b1 : But p H H1 := by rw [← hH]; exact But.upd
    -- cell = index * 1049 + 29
    refine ⟨.int i, rfl, _, _, rfl, rfl, .inr ⟨by decide, by decide⟩, _, _, rfl, rfl, ?_⟩
    have hi0 := hp.i0
    have hi1 := hp.i1
    have hnB : n ≤ 1000000000000 := hn
    -- pen[0] != []
    refine ⟨fun σ H2 => ∃ cell : Int, σ = [some (.ref p), some (.int i), some (.int cell), none, none, none] ∧ H2 p = some (.lst (.ref c :: .int (i + 1) :: .int z :: m)) ∧ H2 c = some (.lst (ns.map V.int)) ∧ But p H H2, ?_, ?_⟩
    · refine ⟨.ref p, rfl, p, _, 0, .ref c, rfl, rfl, SqL.of h1, atI_nat (j := 0) rfl, Nat.zero_le _, fun e ne => ?_⟩
      have s2 : Same H1 (upd H1 e (.lst [])) := same_upd ne
      have hp2 : (upd H1 e (.lst [])) p = some (.lst (.ref c :: .int (i + 1) :: .int z :: m)) := s2 _ _ h1
      have hc2 : (upd H1 e (.lst [])) c = some (.lst (ns.map V.int)) := s2 _ _ hc1
      have b2 : But p H (upd H1 e (.lst [])) := b1.trans (.of_same s2)
      refine ⟨.list (ns.map PyData.int), .list [], .lst (SqL.of hc2) (dpAll_ints ns), .lst (SqL.of upd_same) .nil, PySem.W.ke_shaped_ints ns, rfl, _, rfl, ?_⟩
      rw [eqv_nil]
      by_cases hz : ns = []
      · rw [decide_eq_true hz]
        refine iteF ?_
        exact ⟨_, rfl, hp2, hc2, b2⟩
      · rw [decide_eq_false hz]
        refine iteT ?_
        have hl : 0 < ns.length := List.length_pos_iff.mpr hz
        have hlt : (i % (ns.length : Int)).toNat < ns.length := by
          have h1 := Int.emod_nonneg i (show (ns.length : Int) ≠ 0 by omega)
          have h2 := Int.emod_lt_of_pos i (show (0 : Int) < ns.length by omega)
          omega
        have hnn := Int.emod_nonneg i (show (ns.length : Int) ≠ 0 by omega)
        have g : atI (ns.map V.int) (i % (((ns.map V.int).length : Nat) : Int)) = some (.int ns[(i % (ns.length : Int)).toNat]) := by
          rw [List.length_map]
          refine at_of (j := (i % (ns.length : Int)).toNat) (by omega) ?_
          rw [List.getElem?_map, List.getElem?_eq_getElem hlt]
          rfl
        refine ⟨.ref p, rfl, p, _, 0, .ref c, rfl, rfl, SqL.of hp2, atI_nat (j := 0) rfl, .int i, rfl, .ref p, rfl, p, _, 0, .ref c, rfl, rfl, SqL.of hp2, atI_nat (j := 0) rfl,
          c, _, rfl, .inl (SqL.of hc2), _, _, rfl, rfl, by rw [List.length_map]; omega, c, _, _, _, rfl, rfl, SqL.of hc2, g, ?_⟩
        exact ⟨_, rfl, hp2, hc2, b2⟩
    · rintro σ H2 ⟨cell, rfl, hp2, hc2, b2⟩
      have fin : ∀ x : Int, 0 ≤ x → Q (.int x) H2 := fun x hx => q x H2 hx b2 (hp.but b2 hp2 (by omega) (by omega) hp.s0)
      have m1 := Int.emod_nonneg (cell % 2147483587 + i * 70061 + 53) (show (2147483587 : Int) ≠ 0 by decide)
      have m2 := Int.emod_lt_of_pos (cell % 2147483587 + i * 70061 + 53) (show (0 : Int) < 2147483587 by decide)
      have M0 : (2147483587 : Int) ≠ 0 := by decide
      have M1 : (0 : Int) < 2147483587 := by decide
      have M2 : (0 : Int) < 2147483563 := by decide
      have M3 : (0 : Int) < 2147483549 := by decide
      refine ⟨fun σ' H' => σ' = [some (.ref p), some (.int i), some (.int cell), none, none, none] ∧ H' = H2, ?_, ?_⟩
      · refine ⟨.int i, rfl, .ref p, rfl, p, _, 0, .ref c, rfl, rfl, SqL.of hp2, atI_nat (j := 0) rfl, c, _, rfl, .inl (SqL.of hc2), _, _, rfl, rfl, _, rfl, ?_⟩
        refine ite2 (fun _ => ?_) (fun _ => iteF ⟨rfl, rfl⟩)
        refine ⟨.int cell, rfl, _, _, rfl, rfl, ⟨by decide, by decide, by decide⟩, _, _, rfl, rfl, _, rfl, ?_⟩
        refine ite2 (fun hc => ?_) (fun _ => ⟨rfl, rfl⟩)
        have hc' : (10 : Int) ^ 18 ≤ cell := of_decide_eq_true hc
        exact ⟨.int cell, rfl, fin cell (by omega)⟩
      · rintro σ' H' ⟨rfl, rfl⟩
        refine ⟨fun σ' Ha => Ha = H' ∧ ∃ low : Int, 0 ≤ low ∧ low < 2147483587 ∧ σ' = [some (.ref p), some (.int i), some (.int cell), some (.int low), none, none], ?_, ?_⟩
        · refine ⟨.int cell, rfl, _, _, rfl, rfl, M1, .int i, rfl, _, _, rfl, rfl, .inr ⟨by decide, by decide⟩, _, _, rfl, rfl, _, _, rfl, rfl, _, _, rfl, rfl, M1, ?_⟩
          exact ⟨rfl, _, Int.emod_nonneg _ M0, Int.emod_lt_of_pos _ M1, rfl⟩
        rintro σ' Hb ⟨rfl, low, l1, l2, rfl⟩
        refine ⟨fun σ' Ha => Ha = Hb ∧ ∃ mid : Int, 0 ≤ mid ∧ mid < 2147483563 ∧ σ' = [some (.ref p), some (.int i), some (.int cell), some (.int low), some (.int mid), none], ?_, ?_⟩
        · refine ⟨.int low, rfl, .int low, rfl, _, _, rfl, rfl, .inl ⟨by omega, by omega⟩, .int i, rfl, _, _, rfl, rfl, .inr ⟨by decide, by decide⟩, _, _, rfl, rfl, _, _, rfl, rfl, _, _, rfl, rfl, M2, ?_⟩
          exact ⟨rfl, _, Int.emod_nonneg _ (by decide), Int.emod_lt_of_pos _ M2, rfl⟩
        rintro σ' Hc ⟨rfl, mid, d1, d2, rfl⟩
        refine ⟨fun σ' Ha => Ha = Hc ∧ ∃ tp : Int, 0 ≤ tp ∧ σ' = [some (.ref p), some (.int i), some (.int cell), some (.int low), some (.int mid), some (.int tp)], ?_, ?_⟩
        · refine ⟨.int mid, rfl, .int mid, rfl, _, _, rfl, rfl, .inl ⟨by omega, by omega⟩, .int low, rfl, _, _, rfl, rfl, .int i, rfl, .int i, rfl, _, _, rfl, rfl, .inl ⟨by omega, by omega⟩, _, _, rfl, rfl, .inr ⟨by decide, by decide⟩, _, _, rfl, rfl, _, _, rfl, rfl, M3, ?_⟩
          exact ⟨rfl, _, Int.emod_nonneg _ (by decide), rfl⟩
        rintro σ' H3 ⟨rfl, tp, t1, rfl⟩
        refine ⟨.int tp, rfl, _, _, rfl, rfl, .inr ⟨by decide, by decide⟩, .int mid, rfl, _, _, rfl, rfl, _, _, rfl, rfl, .inr ⟨by decide, by decide⟩, .int low, rfl, _, _, rfl, rfl, ?_⟩
        exact fin _ (by show 0 ≤ (tp * 2147483587 + mid) * 2147483563 + low; omega)
theorem scDraw : FnScope ["pen", "below", "digit"] ["pen", "below"] (defScope sDraw) := ⟨rfl, rfl, rfl, by decide +kernel, rfl, by decide +kernel, by decide +kernel⟩
theorem ok_draw {f fN : Addr} {fd fdN : FuncData} {k : Nat} (F : Fun K "_law_draw" "_law_draw" sDraw f fd) (FN : Fun K "_law_next" "_law_next" sNext fN fdN) (bN : Binds K fdN ["pen"] []) (gN : mg "_law_next" = some (.ref fN)) (ml : mg "len" = none) :
    FnOk P w K mg base CX0 (k + 2) f fd ["pen", "below"] spDraw := by
  have GN : FnOk P w K mg base CX0 (k + 1) fN fdN ["pen"] spNext := ok_next FN ml
  refine F.ok scDraw (fun vs H Q E h => ?_) (fun cdv A outer s H vs Q E hr h => ?_)
  · obtain ⟨p, c, n, m, below, rfl, _⟩ := h
    rfl
  · obtain ⟨p, c, n, m, below, rfl, ⟨ns, i, z, hp⟩, hn, hb0, hb1, q⟩ := h
    have nd := scDraw.nd
    refine ⟨_, C8.pss_cut (ps_if (pt_cmpR op_lt (pe_ix ix_list (pv 0) pe_int (fun _ _ => rfl)) (pv 1) (nomark _))
        (pss_one (ps_asg (pe_call GN hr (by rfl) gN FN.kp bN .nil pass0 (pa_cons (pv 0) pa_nil)) (pg_sub (pv 0) pe_int set_list))) pss_nil)
      (pss_cons (ps_set (i := 2) nd rfl (.inl rfl) (pe_op op_mod (pe_ix ix_list (pv 0) pe_int (fun _ _ => rfl)) (pv 1)))
      (pss_cons (ps_asg (pe_op op_fdiv (pe_ix ix_list (pv 0) pe_int (fun _ _ => rfl)) (pv 1)) (pg_sub (pv 0) pe_int set_list))
      (pss_one (ps_ret (pv 2))))), ?_⟩
    refine ⟨fun σ H2 => σ = [some (.ref p), some (.int below), none] ∧ But p H H2 ∧ ∃ i z, PenAt H2 p (n + 1) m c ns i z, ?_, ?_⟩
    · refine ⟨.ref p, rfl, p, _, 2, .int z, rfl, rfl, SqL.of hp.at_, atI_nat (j := 2) rfl, .int below, rfl, _, _, rfl, rfl, _, rfl, ?_⟩
      refine ite2 (fun _ => ?_) (fun _ => ⟨rfl, .refl _ _, i, z, hp.mono (Nat.le_succ _)⟩)
      refine ⟨.ref p, rfl, p, n, m, c, ns, i, z, rfl, hp, hn, fun x H1 hx b1 hp1 => ?_⟩
      refine ⟨.ref p, rfl, p, _, 2, 2, rfl, rfl, hp1.at_, ix2, ?_⟩
      exact ⟨rfl, b1.trans .upd, i + 1, x, hp1.next hp1.i0 hp1.i1 hx⟩
    · rintro σ H2 ⟨rfl, b2, i', z', hp2⟩
      refine ⟨.ref p, rfl, p, _, 2, .int z', rfl, rfl, SqL.of hp2.at_, atI_nat (j := 2) rfl, .int below, rfl, _, _, rfl, rfl, hb0, ?_⟩
      refine ⟨.ref p, rfl, p, _, 2, .int z', rfl, rfl, SqL.of hp2.at_, atI_nat (j := 2) rfl, .int below, rfl, _, _, rfl, rfl, ⟨hb0, hb1⟩, .ref p, rfl, p, _, 2, 2, rfl, rfl, hp2.at_, ix2, ?_⟩
      refine ⟨_, rfl, q _ _ (Int.emod_nonneg _ (by omega)) (Int.emod_lt_of_pos _ hb0) (b2.trans .upd) ⟨ns, i', z' / below, hp2.next hp2.i0 hp2.i1 (Int.ediv_nonneg hp2.s0 (by omega))⟩⟩
end
/-! ### has_only, is_prefix -/
def spHas : Sp := fun vs H Q _ => ∃ x y : Str, vs = [.str x, .str y] ∧ x.length ≤ sizeLine ∧ Q (.bl (onlyOf y x)) H
def spPfx (K : PySem.W.Frag) : Sp := fun vs H Q _ => ∃ (v : V) (w : Int), vs = [v, .int w] ∧ TyS K H v ∧ (∀ x, v = .str x → x.length ≤ sizeLine) ∧ Q (.bl (isPfx v w)) H
section
variable {P : Program} {w : World} {K : PySem.W.Frag} {mg : Str → Option Value} {base : Heap}
theorem scHas : FnScope ["text", "signs"] ["text", "signs"] (defScope sHas) := ⟨rfl, rfl, rfl, by decide +kernel, rfl, by decide +kernel, by decide +kernel⟩
theorem ok_has {f : Addr} {fd : FuncData} {k : Nat} (F : Fun K "has_only" "has_only" sHas f fd) : FnOk P w K mg base CX0 (k + 1) f fd ["text", "signs"] spHas := by
  refine F.ok scHas (fun vs H Q E h => ?_) (fun cdv A outer s H vs Q E hr h => ?_)
  · obtain ⟨x, y, rfl, _⟩ := h
    rfl
  · obtain ⟨x, y, rfl, hl, q⟩ := h
    refine ⟨_, pss_one (ps_ret (pe_cmpR op_eq (pe_bm PySem.F.plainAttrs_str PySem.F.slot_str_lstrip PySem.F.type_str_lstrip mt_lstripChars (pv 0) (pa_cons (pv 1) pa_nil)) pe_str (nomark _))), ?_⟩
    refine ⟨.str x, rfl, rfl, .str y, rfl, x, y, rfl, rfl, hl, rfl, ?_⟩
    show Q (.bl (decide (V.str (Txt.lstripChars x y) = V.str ""))) H
    rw [lstrip_empty]
    exact q
theorem scPfx : FnScope ["thing", "width"] ["thing", "width"] (defScope sPfx) := ⟨rfl, rfl, rfl, by decide +kernel, rfl, by decide +kernel, by decide +kernel⟩
theorem ok_pfx {f fH : Addr} {fd fdH : FuncData} {k : Nat} (F : Fun K "is_prefix" "is_prefix" sPfx f fd) (FH : Fun K "has_only" "has_only" sHas fH fdH) (bH : Binds K fdH ["text", "signs"] []) (gH : mg "has_only" = some (.ref fH))
    (mi : mg "isinstance" = none) (ms : mg "str" = none) (ml : mg "len" = none) : FnOk P w K mg base CX0 (k + 2) f fd ["thing", "width"] (spPfx K) := by
  have GH : FnOk P w K mg base CX0 (k + 1) fH fdH ["text", "signs"] spHas := ok_has FH
  refine F.ok scPfx (fun vs H Q E h => ?_) (fun cdv A outer s H vs Q E hr h => ?_)
  · obtain ⟨v, w, rfl, _⟩ := h
    rfl
  · obtain ⟨v, w, rfl, ⟨t, ty, kt⟩, hl, q⟩ := h
    refine ⟨_, pss_one (ps_ret (pe_and (pe_callB call_isi (by rfl) mi (by decide +kernel) (pa_cons (pv 0) (pa_cons (pe_bltn (v := .ty "str") (by rfl) ms (by decide +kernel) rfl) pa_nil)))
      (pe_and (pe_cmpR op_le (pe_callB call_len_str (by rfl) ml PySem.boot_len (pa_cons (pv 0) pa_nil)) (pv 1) (nomark _))
        (pe_one (pe_call GH hr (by rfl) gH FH.kp bH .nil pass0 (pa_cons (pv 0) (pa_cons pe_str pa_nil))))))), ?_⟩
    refine ⟨v, rfl, v, .ty "str", .type t, .type "str", _, rfl, .ty _, ty, kt, _, rfl, ?_⟩
    cases v with
    | str x =>
      refine iteT ?_
      have hx := hl x rfl
      refine ⟨.str x, rfl, x, rfl, hx, .int w, rfl, _, _, rfl, rfl, _, rfl, ?_⟩
      by_cases hw : (x.length : Int) ≤ w
      · rw [decide_eq_true hw]
        refine iteT ⟨.str x, rfl, x, _, rfl, hx, ?_⟩
        have e : isPfx (.str x) w = isBits x := by
          show (decide ((x.length : Int) ≤ w) && isBits x) = isBits x
          rw [decide_eq_true hw, Bool.true_and]
        rw [e] at q
        exact q
      · rw [decide_eq_false hw]
        refine iteF ?_
        have e : isPfx (.str x) w = false := by
          show (decide ((x.length : Int) ≤ w) && isBits x) = false
          rw [decide_eq_false hw, Bool.false_and]
        rw [e] at q
        exact q
    | _ => exact iteF q
end
section
variable {P : Program} {w : World} {K : PySem.W.Frag} {mg : Str → Option Value} {base : Heap}
theorem scBits : FnScope ["pen", "size", "turn"] ["pen", "size"] (defScope sBits) := ⟨rfl, rfl, rfl, by decide +kernel, rfl, by decide +kernel, by decide +kernel⟩
theorem ok_bits {f fD : Addr} {fd fdD : FuncData} {k : Nat} (F : Fun K "_law_bits" "_law_bits" sBits f fd) (GD : FnOk P w K mg base CX0 k fD fdD ["pen", "below"] spDraw) (FD : Fun K "_law_draw" "_law_draw" sDraw fD fdD) (bD : Binds K fdD ["pen", "below"] []) (gD : mg "_law_draw" = some (.ref fD))
    (mr : mg "range" = none) : FnOk P w K mg base CX0 (k + 1) f fd ["pen", "size"] spBits := by
  refine F.ok scBits (fun vs H Q E h => ?_) (fun cdv A outer s H vs Q E hr h => ?_)
  · obtain ⟨p, c, n, z, m, rfl, _⟩ := h
    rfl
  · obtain ⟨p, c, n, z, m, rfl, hp, hn, hz, q⟩ := h
    have nd := scBits.nd
    have hnB : n + 100 ≤ 1000000000000 := hn
    refine ⟨_, pss_one (ps_ret (pe_join pe_str (pe_lc (own := [("turn", 2)]) (g := gName 2) (tt := tYes) rfl nd
      (pi_range1 (by rfl) mr (pa_cons (pe_call GD hr (by rfl) gD FD.kp bD .nil pass0 (pa_cons (pv 0) (pa_cons (pe_op op_add (pv 1) pe_int) pa_nil))) pa_nil))
      (blkOk_by (N := ["pen", "size", "turn"]) (sc := defScope sBits) (by decide +kernel)) (fun _ _ _ _ _ => pg_name (i := 2) nd rfl (.inl rfl)) (fun _ _ _ _ _ => pts_nil)
      (fun _ _ _ _ _ => pe_ix (r := rIxS) ix_str pe_str (pe_call GD hr (by rfl) gD FD.kp bD .nil pass0 (pa_cons (pv 0) (pa_cons pe_int pa_nil))) (fun _ _ => rfl))))), ?_⟩
    refine ⟨⟨_, rfl⟩, .ref p, rfl, .int z, rfl, _, _, rfl, rfl, p, c, n, m, (z : Int) + 1, rfl, hp, by show n ≤ 1000000000000; omega, by omega, by omega, fun d H1 d0 d1 b1 p1 => ?_⟩
    refine ⟨d, rfl, by omega, by omega, fun D nD => lc_range (n := d.toNat) (fun j H' => ∃ ys : List Str, H' D = some (.lst (ys.map V.str)) ∧ ys.length = j ∧ (∀ y ∈ ys, y = "0" ∨ y = "1") ∧ But p H H' ∧ Pen H' p c (n + 1 + j) m) ?_ ?_ ?_⟩
    · exact ⟨[], upd_same, rfl, fun _ h => absurd h List.not_mem_nil, b1.trans (.of_same (same_upd nD)), p1.off (p1.ne_p nD) (p1.ne_c nD)⟩
    · rintro j H' hj ⟨ys, hD, hy, hys, bH, pj⟩
      refine ⟨rfl, yes_if ?_⟩
      refine ⟨.ref p, rfl, p, c, n + 1 + j, m, 2, rfl, pj, by show n + 1 + j ≤ 1000000000000; omega, by decide, by decide, fun e H'' e0 e1 b p' => ?_⟩
      have hb : ∃ ch, atI (sg "01") e = some ch ∧ ((⟨#[ch]⟩ : Str) = "0" ∨ (⟨#[ch]⟩ : Str) = "1") := by
        obtain rfl | rfl : e = 0 ∨ e = 1 := by omega
        · exact ⟨48, by decide +kernel, .inl (by decide +kernel)⟩
        · exact ⟨49, by decide +kernel, .inr (by decide +kernel)⟩
      obtain ⟨ch, hch, hc⟩ := hb
      refine ⟨"01", e, ch, rfl, rfl, by decide +kernel, hch, _, b D _ (p1.ne_p nD) hD, ?_, ys ++ [⟨#[ch]⟩], ?_, ?_, ?_, ?_, p'.off (p1.ne_p nD) (p1.ne_c nD)⟩
      · exact Nat.lt_of_le_of_lt (show (ys.map V.str).length ≤ 1000 by rw [List.length_map]; omega) (by decide)
      · rw [upd_same, List.map_append]
        rfl
      · rw [List.length_append, hy]
        rfl
      · intro y hy
        rcases List.mem_append.mp hy with hy | hy
        · exact hys y hy
        · rw [List.mem_singleton.mp hy]
          exact hc
      · intro a o na ha
        have naD : a ≠ D := fun e => by
          rw [e, b1.free (p1.ne_p nD) nD] at ha
          cases ha
        rw [upd_ne naD]
        exact b a o na (bH a o na ha)
    · rintro H' ⟨ys, hD, hy, hys, bH, pj⟩
      have s1 : ∀ y ∈ ys, Sm 1 y := fun y h => by
        rcases hys y h with e | e <;> (rw [e]; exact ⟨by decide +kernel, by decide +kernel⟩)
      refine ⟨"", D, ys, rfl, rfl, .inl (SqL.of hD), ?_, ?_⟩
      · have := sum_ones s1
        have e : ((("" : String) : Str)).length = 0 := by decide +kernel
        rw [e]
        omega
      refine q _ H' bH (pj.mono (by omega)) (bits_iff.mpr fun ch hc => ?_) (Nat.le_trans (Sm.join s1).ln (by omega))
      rw [sg_join] at hc
      obtain ⟨l, hl, hc⟩ := List.mem_flatten.mp hc
      obtain ⟨y, hy, rfl⟩ := List.mem_map.mp hl
      rcases hys y hy with e | e
      · rw [e, show sg "0" = [48] by decide +kernel] at hc
        exact .inl (List.mem_singleton.mp hc)
      · rw [e, show sg "1" = [49] by decide +kernel] at hc
        exact .inr (List.mem_singleton.mp hc)
theorem scSize : FnScope ["pen", "size"] ["pen"] (defScope sSize) := ⟨rfl, rfl, rfl, by decide +kernel, rfl, by decide +kernel, by decide +kernel⟩
theorem ok_size {f fD : Addr} {fd fdD : FuncData} {k : Nat} (F : Fun K "_law_size" "_law_size" sSize f fd) (GD : FnOk P w K mg base CX0 k fD fdD ["pen", "below"] spDraw) (FD : Fun K "_law_draw" "_law_draw" sDraw fD fdD) (bD : Binds K fdD ["pen", "below"] []) (gD : mg "_law_draw" = some (.ref fD))
    (ml : mg "len" = none) : FnOk P w K mg base CX0 (k + 1) f fd ["pen"] spSize := by
  refine F.ok scSize (fun vs H Q E h => ?_) (fun cdv A outer s H vs Q E hr h => ?_)
  · obtain ⟨p, c, n, m, rfl, _⟩ := h
    rfl
  · obtain ⟨p, c, n, m, rfl, hp, hn, hm, q⟩ := h
    have nd := scSize.nd
    have hnB : n + 100 ≤ 1000000000000 := hn
    refine ⟨_, pss_cons (ps_set (i := 1) nd rfl (.inl rfl) (pe_ix ix_list (pe_lst (pa_cons pe_int (pa_cons pe_int (pa_cons pe_int (pa_cons pe_int (pa_cons pe_int (pa_cons pe_int pa_nil)))))))
        (pe_call GD hr (by rfl) gD FD.kp bD .nil pass0 (pa_cons (pv 0) (pa_cons pe_int pa_nil))) (fun _ _ => rfl)))
      (pss_cons (ps_if (PW.pt (pw_and (pt_cmpR op_eq (pv 1) pe_int (nomark _)) (pw_and1 (pt_cmpR op_gt (pe_callB call_len_seq (by rfl) ml PySem.boot_len (pa_cons (pv 0) pa_nil)) pe_int (nomark _))))) (pss_one (ps_ret pe_int)) pss_nil)
      (pss_cons (ps_if (pt_cmpR op_eq (pv 1) pe_int (nomark _)) (pss_one (ps_expr (pe_bm PySem.F.plainAttrs_list PySem.F.slot_list_append PySem.F.type_list_append mt_append (pv 0) (pa_cons pe_int pa_nil)))) pss_nil)
      (pss_one (ps_ret (pv 1))))), ?_⟩
    refine ⟨by show 6 ≤ sizeLine; decide, fun l nl => ?_⟩
    refine ⟨.ref p, rfl, p, c, n, m, 6, rfl, hp.keep (same_upd nl), by show n ≤ 1000000000000; omega, by decide, by decide, fun d H1 d0 d1 b1 p1 => ?_⟩
    have b1' : But p H H1 := (But.of_same (same_upd nl)).trans b1
    have hz : ∃ z : Nat, atI ([.int 1, .int 2, .int 3, .int 3, .int 4, .int 32] : List V) d = some (.int z) ∧ 1 ≤ z ∧ z ≤ 32 := by
      obtain rfl | rfl | rfl | rfl | rfl | rfl : d = 0 ∨ d = 1 ∨ d = 2 ∨ d = 3 ∨ d = 4 ∨ d = 5 := by omega
      · exact ⟨1, rfl, by decide, by decide⟩
      · exact ⟨2, rfl, by decide, by decide⟩
      · exact ⟨3, rfl, by decide, by decide⟩
      · exact ⟨3, rfl, by decide, by decide⟩
      · exact ⟨4, rfl, by decide, by decide⟩
      · exact ⟨32, rfl, by decide, by decide⟩
    obtain ⟨z, ez, z1, z32⟩ := hz
    refine ⟨l, _, d, _, rfl, rfl, SqL.of (b1 l _ (hp.ne_p nl) upd_same), ez, ?_⟩
    obtain ⟨ns, i, st, P1⟩ := id p1
    have hP : H1 p = some (.lst (.ref c :: .int i :: .int st :: m)) := P1.at_
    refine ⟨.int z, rfl, rfl, _, rfl, ite2 (fun e => ?_) (fun e => ?_)⟩
    · refine ⟨.ref p, rfl, p, _, rfl, .inl (SqL.of hP), _, _, rfl, rfl, _, rfl, ite2 (fun _ => q 5 m H1 b1' p1 hm (by decide) (by decide)) (fun e2 => ?_)⟩
      have hm0 : m = [] := by
        cases m with
        | nil => rfl
        | cons x r =>
          refine absurd (decide_eq_true ?_) e2
          rw [List.length_cons, List.length_cons, List.length_cons, List.length_cons]
          omega
      subst hm0
      refine ⟨.int z, rfl, rfl, _, rfl, ite2 (fun _ => ?_) (fun e3 => absurd e e3)⟩
      refine ⟨.ref p, rfl, .inl ⟨rfl, _, SqL.of hP⟩, p, _, _, rfl, rfl, hP, by show 3 < sizeLine; decide, ?_⟩
      refine ⟨.int z, rfl, q z [.int 1] _ (b1'.trans .upd) ⟨ns, i, st, upd_same, ?_, P1.len, P1.i0, P1.i1, P1.s0⟩ (Nat.le_refl _) z1 z32⟩
      rw [upd_ne P1.ne]
      exact P1.cells
    · refine ⟨.int z, rfl, rfl, _, rfl, ite2 (fun e3 => absurd e3 e) (fun _ => ?_)⟩
      exact ⟨.int z, rfl, q z m H1 b1' p1 hm z1 z32⟩
end
section
variable {P : Program} {w : World} {K : PySem.W.Frag} {mg : Str → Option Value} {base : Heap}
theorem scPrefixes : FnScope ["pen", "size", "most", "found", "turn", "start", "prefix"] ["pen", "size", "most"] (defScope sPrefixes) := ⟨rfl, rfl, rfl, by decide +kernel, rfl, by decide +kernel, by decide +kernel⟩
theorem ok_prefixes {f fD fB : Addr} {fd fdD fdB : FuncData} {k : Nat} (F : Fun K "_law_prefixes" "_law_prefixes" sPrefixes f fd) (GD : FnOk P w K mg base CX0 k fD fdD ["pen", "below"] spDraw) (FD : Fun K "_law_draw" "_law_draw" sDraw fD fdD) (bD : Binds K fdD ["pen", "below"] []) (gD : mg "_law_draw" = some (.ref fD))
    (GB : FnOk P w K mg base CX0 k fB fdB ["pen", "size"] spBits) (FB : Fun K "_law_bits" "_law_bits" sBits fB fdB) (bB : Binds K fdB ["pen", "size"] []) (gB : mg "_law_bits" = some (.ref fB))
    (mr : mg "range" = none) (ml : mg "len" = none) (mm : mg "min" = none) : FnOk P w K mg base CX0 (k + 1) f fd ["pen", "size", "most"] spPrefixes := by
  refine F.ok scPrefixes (fun vs H Q E h => ?_) (fun cdv A outer s H vs Q E hr h => ?_)
  · obtain ⟨p, c, n, z, k, m, rfl, _⟩ := h
    rfl
  · obtain ⟨p, c, n, z, most, m, rfl, hp, hn, hz, hk, q⟩ := h
    have nd := scPrefixes.nd
    have hu := hr.units
    have hnB : n + 1000 ≤ 1000000000000 := hn
    refine ⟨_, pss_cons (ps_set (i := 3) nd rfl (.inl rfl) (pe_lst pa_nil))
      (pss_cons (ps_for PassesOwn.never rfl (pi_range1 (by rfl) mr (pa_cons (pe_call GD hr (by rfl) gD FD.kp bD .nil pass0 (pa_cons (pv 0) (pa_cons (pe_op op_add (pv 2) pe_int) pa_nil))) pa_nil)) (pg_name (i := 4) nd rfl (.inl rfl))
        (C8.pss_cut (ps_set (i := 5) nd rfl (.inl rfl) (pe_ifExp (PW.pt (pw_and (pt_cmpR (op_neD hu) (pv 3) (pe_lst pa_nil) (nomark _)) (pw_and1 (pt_cmpR op_eq (pe_call GD hr (by rfl) gD FD.kp bD .nil pass0 (pa_cons (pv 0) (pa_cons pe_int pa_nil))) pe_int (nomark _)))))
            (pe_ix ix_list (pv 3) (pe_call GD hr (by rfl) gD FD.kp bD .nil pass0 (pa_cons (pv 0) (pa_cons (pe_callB call_len_seq (by rfl) ml PySem.boot_len (pa_cons (pv 3) pa_nil)) pa_nil))) (fun _ _ => rfl)) pe_str))
        (pss_cons (ps_set (i := 6) nd rfl (.inl rfl) (pe_slice sl_str (pe_op op_add_str (pv 5) (pe_call GB hr (by rfl) gB FB.kp bB .nil pass0 (pa_cons (pv 0) (pa_cons (pe_callB (call_min2 rfl) (by rfl) mm (by decide +kernel) (pa_cons (pv 1) (pa_cons pe_int pa_nil))) pa_nil)))) po_none (po_some (pv 1))))
        (pss_one (ps_if (pt_cmpR op_notIn_seq (pv 6) (pv 3) (by rfl)) (pss_one (ps_expr (pe_bm PySem.F.plainAttrs_list PySem.F.slot_list_append PySem.F.type_list_append mt_append (pv 3) (pa_cons (pv 6) pa_nil)))) pss_nil)))))
      (pss_one (ps_ret (pv 3)))), ?_⟩
    refine ⟨Nat.zero_le _, fun l nl => ?_⟩
    have lp : l ≠ p := hp.ne_p nl
    have lc : l ≠ c := hp.ne_c nl
    refine ⟨.ref p, rfl, .int most, rfl, _, _, rfl, rfl, p, c, n, m, (most : Int) + 1, rfl, hp.keep (same_upd nl), by show n ≤ 1000000000000; omega, by omega, by omega, fun d H1 d0 d1 b1 p1 => ?_⟩
    refine ⟨d, rfl, by omega, by omega, for_range (n := d.toNat) (fun i σ H' => ∃ xs x4 x5 x6, σ = [some (.ref p), some (.int z), some (.int most), some (.ref l), x4, x5, x6] ∧ H' l = some (.lst (xs.map V.str)) ∧ PfxL z xs ∧ xs.length ≤ i ∧ But p H H' ∧ Pen H' p c (n + 1 + 8 * i) m) ?_ ?_ ?_⟩
    · exact ⟨[], _, _, _, rfl, b1 l _ lp upd_same, ⟨List.nodup_nil, fun _ h => absurd h List.not_mem_nil, fun _ h => absurd h List.not_mem_nil⟩, Nat.le_refl _, (But.of_same (same_upd nl)).trans b1, p1⟩
    · rintro i σ H' hi ⟨xs, x4, x5, x6, rfl, hl, hx, hxl, bH, pH⟩
      have hxz : xs.length ≤ 20 := by omega
      refine ⟨fun σ' H'' => ∃ x : Str, σ' = [some (.ref p), some (.int z), some (.int most), some (.ref l), some (.int (0 + i)), some (.str x), x6] ∧ isBits x = true ∧ x.length ≤ z ∧ H'' l = some (.lst (xs.map V.str)) ∧ But p H H'' ∧ Pen H'' p c (n + 1 + 8 * i + 2) m, ?_, ?_⟩
      · refine ⟨.ref l, rfl, Nat.zero_le _, fun e ne => ?_⟩
        have s1 := same_upd (o := .lst []) ne
        have hl1 := s1 _ _ hl
        refine ⟨.list (xs.map PyData.str), .list [], .lst (SqL.of hl1) (dpAll_strs xs), .lst (SqL.of upd_same) .nil, shaped_strs hx.bits, rfl, _, rfl, ?_⟩
        rw [eqv_nilS]
        have pH1 := pH.keep s1
        have bH1 := bH.trans (.of_same s1)
        revert hl1 pH1 bH1
        generalize upd H' e (.lst []) = H2
        intro hl1 pH1 bH1
        by_cases hz0 : xs = []
        · rw [decide_eq_true hz0]
          refine iteF (iteF ?_)
          exact ⟨"", rfl, bits_empty, Nat.zero_le _, hl1, bH1, pH1.mono (by omega)⟩
        · rw [decide_eq_false hz0]
          refine iteT ?_
          refine ⟨.ref p, rfl, p, c, _, m, 2, rfl, pH1, by show n + 1 + 8 * i ≤ 1000000000000; omega, by decide, by decide, fun e H3 e0 e1 b3 p3 => ?_⟩
          refine ⟨rfl, _, rfl, ite2 (fun _ => ?_) (fun _ => ?_)⟩
          · have hl3 := b3 _ _ lp hl1
            have hpos : 0 < xs.length := List.length_pos_iff.mpr hz0
            refine ⟨.ref l, rfl, .ref p, rfl, .ref l, rfl, l, _, rfl, .inl (SqL.of hl3), p, c, _, m, (((xs.map V.str).length : Nat) : Int), rfl, p3, by show n + 1 + 8 * i + 1 ≤ 1000000000000; omega, by rw [List.length_map]; omega, by rw [List.length_map]; omega, fun g H4 g0 g1 b4 p4 => ?_⟩
            rw [List.length_map] at g1
            have hg : g.toNat < xs.length := by omega
            refine ⟨l, _, g, .str xs[g.toNat], rfl, rfl, SqL.of (b4 _ _ lp hl3), at_of (j := g.toNat) (by omega) (by rw [List.getElem?_map, List.getElem?_eq_getElem hg]; rfl), ?_⟩
            exact ⟨xs[g.toNat], rfl, hx.bits _ (List.getElem_mem hg), hx.len _ (List.getElem_mem hg), b4 _ _ lp hl3, (bH1.trans b3).trans b4, p4⟩
          · exact ⟨"", rfl, bits_empty, Nat.zero_le _, b3 _ _ lp hl1, bH1.trans b3, p3.mono (by omega)⟩
      · rintro σ' H'' ⟨x, rfl, hxb, hxz2, hl2, bH2, pH2⟩
        have hmin : (if (5 : Int) < (z : Int) then (5 : Int) else (z : Int)) = ((min 5 z : Nat) : Int) := by
          by_cases h5 : (5 : Int) < (z : Int)
          · rw [if_pos h5]
            omega
          · rw [if_neg h5]
            omega
        refine ⟨.str x, rfl, .ref p, rfl, .int z, rfl, _, _, rfl, p, c, _, min 5 z, m, ?_, pH2, by show n + 1 + 8 * i + 2 + 100 ≤ 1000000000000; omega, by omega, fun y H3 b3 p3 hyb hyl => ?_⟩
        · show [V.ref p, V.int (if (5 : Int) < (z : Int) then 5 else z)] = _
          rw [hmin]
        refine ⟨_, _, rfl, rfl, Nat.le_trans (show x.length + y.length ≤ 1000 by omega) (by decide), .int z, rfl, z, rfl, _, rfl, ?_, ?_⟩
        · rw [strLen_append]
          exact Nat.le_trans (show x.length + y.length ≤ 1000 by omega) (by decide)
        have hb : isBits (cutS (x ++ y) none (some (z : Int))) = true := bits_cut (bits_app hxb hyb) _ _
        have hlz := take_len (x ++ y) z
        revert hb hlz
        generalize cutS (x ++ y) none (some (z : Int)) = pf
        intro hb hlz
        have hl3 := b3 _ _ lp hl2
        have bH3 := bH2.trans b3
        refine ⟨.str pf, rfl, .ref l, rfl, l, _, rfl, .inl (SqL.of hl3), rfl, flat_str xs, _, rfl, ?_⟩
        show if (if true = true then !inV (.str pf) (xs.map V.str) else inV (.str pf) (xs.map V.str)) = true then _ else _
        rw [if_pos rfl, inV_str]
        have hp3 : Pen H3 p c (n + 1 + 8 * (i + 1)) m := p3.mono (by omega)
        by_cases hmem : pf ∈ xs
        · rw [decide_eq_true hmem]
          refine iteF ?_
          exact ⟨xs, _, _, _, rfl, hl3, hx, by omega, bH3, hp3⟩
        · rw [decide_eq_false hmem]
          refine iteT ?_
          refine ⟨.ref l, rfl, .inl ⟨rfl, _, SqL.of hl3⟩, .str pf, rfl, l, _, _, rfl, rfl, hl3, ?_, ?_⟩
          · exact Nat.lt_of_le_of_lt (show (xs.map V.str).length ≤ 1000 by rw [List.length_map]; omega) (by decide)
          · refine ⟨xs ++ [pf], _, _, _, rfl, by rw [upd_same, List.map_append]; rfl, ⟨?_, ?_, ?_⟩, by rw [List.length_append, List.length_singleton]; omega, ?_, hp3.off lp lc⟩
            · rw [List.nodup_append]
              refine ⟨hx.nd, (List.nodup_cons.mpr ⟨List.not_mem_nil, List.nodup_nil⟩), fun a ha b hb e => hmem ?_⟩
              rw [List.mem_singleton.mp hb] at e
              rw [← e]
              exact ha
            · intro y hy
              rcases List.mem_append.mp hy with hy | hy
              · exact hx.bits y hy
              · rw [List.mem_singleton.mp hy]
                exact hb
            · intro y hy
              rcases List.mem_append.mp hy with hy | hy
              · exact hx.len y hy
              · rw [List.mem_singleton.mp hy]
                exact hlz
            · intro a o na ha
              have nal : a ≠ l := ne_of_none ha nl
              rw [upd_ne nal]
              exact bH3 a o na ha
    · rintro σ H' ⟨xs, x4, x5, x6, rfl, hl, hx, hxl, bH, pH⟩
      have hd : d.toNat ≤ most := by omega
      exact ⟨.ref l, rfl, q l xs H' bH (pH.mono (by omega)) nl hl hx (by omega)⟩
end
/-! ### is_whole, is_width -/
def spWhole (K : PySem.W.Frag) : Sp := fun vs H Q _ => ∃ v t, vs = [v] ∧ TyI K H v t ∧ Q (.bl (isWholeV v)) H
def spWidth (K : PySem.W.Frag) : Sp := fun vs H Q _ => ∃ v t, vs = [v] ∧ TyI K H v t ∧ Q (.bl (isWidthV v)) H
section
variable {P : Program} {w : World} {K : PySem.W.Frag} {mg : Str → Option Value} {base : Heap}
theorem scWhole : FnScope ["thing"] ["thing"] (defScope sWhole) := ⟨rfl, rfl, rfl, by decide +kernel, rfl, by decide +kernel, by decide +kernel⟩
theorem ok_whole {f : Addr} {fd : FuncData} {k : Nat} (F : Fun K "is_whole" "is_whole" sWhole f fd) (mi : mg "isinstance" = none) (mn : mg "int" = none) (mb : mg "bool" = none) : FnOk P w K mg base CX0 (k + 1) f fd ["thing"] (spWhole K) := by
  refine F.ok scWhole (fun vs H Q E h => ?_) (fun cdv A outer s H vs Q E hr h => ?_)
  · obtain ⟨v, t, rfl, _⟩ := h
    rfl
  · obtain ⟨v, t, rfl, ty, q⟩ := h
    refine ⟨_, pss_one (ps_ret (pe_and (pe_callB call_isi (by rfl) mi (by decide +kernel) (pa_cons (pv 0) (pa_cons (pe_bltn (v := .ty "int") (by rfl) mn (by decide +kernel) rfl) pa_nil)))
      (pe_one (pe_not (pe_callB call_isi (by rfl) mi (by decide +kernel) (pa_cons (pv 0) (pa_cons (pe_bltn (v := .ty "bool") (by rfl) mb (by decide +kernel) rfl) pa_nil))))))), ?_⟩
    refine ⟨v, rfl, v, .ty "int", .type t, .type "int", _, rfl, .ty _, ty.ty, ty.int, _, rfl, ?_⟩
    have two : Q (.bl (isWholeV v)) H → isIntish v = true → (!isBoolV v) = isWholeV v := fun _ h => by cases v <;> first | rfl | cases h
    cases e : isIntish v with
    | true =>
      refine iteT ⟨v, rfl, v, .ty "bool", .type t, .type "bool", _, rfl, .ty _, ty.ty, ty.bool, _, rfl, ?_⟩
      rw [two q e]
      exact q
    | false =>
      refine iteF ?_
      have e2 : isWholeV v = false := by cases v <;> first | rfl | cases e
      rw [e2] at q
      exact q
theorem scWidth : FnScope ["thing"] ["thing"] (defScope sWidth) := ⟨rfl, rfl, rfl, by decide +kernel, rfl, by decide +kernel, by decide +kernel⟩
theorem ok_width {f fW : Addr} {fd fdW : FuncData} {k : Nat} {tk : Tok} (F : Fun K "is_width" "is_width" sWidth f fd) (GW : FnOk P w K mg base CX0 k fW fdW ["thing"] (spWhole K)) (FW : Fun K "is_whole" "is_whole" sWhole fW fdW) (bW : Binds K fdW ["thing"] []) (gW : mg "is_whole" = some (.ref fW))
    (mW : mg "WIDEST" = some (.int 32 tk)) : FnOk P w K mg base CX0 (k + 1) f fd ["thing"] (spWidth K) := by
  refine F.ok scWidth (fun vs H Q E h => ?_) (fun cdv A outer s H vs Q E hr h => ?_)
  · obtain ⟨v, t, rfl, _⟩ := h
    rfl
  · obtain ⟨v, t, rfl, ty, q⟩ := h
    refine ⟨_, pss_one (ps_ret (pe_and (pe_call GW hr (by rfl) gW FW.kp bW .nil pass0 (pa_cons (pv 0) pa_nil)) (pe_one (pe_chain op_le op_le pe_int (pv 0) (pe_glob (v := .int 32) rfl mW ⟨_, rfl⟩))))), ?_⟩
    refine ⟨v, rfl, v, t, rfl, ty, _, rfl, ?_⟩
    cases v with
    | int z =>
      refine iteT ⟨.int z, rfl, _, _, rfl, rfl, _, rfl, ?_⟩
      have q' : Q (.bl (decide ((1 : Int) ≤ z) && decide (z ≤ 32))) H := q
      by_cases h1 : (1 : Int) ≤ z
      · rw [decide_eq_true h1] at q' ⊢
        rw [Bool.true_and] at q'
        exact iteT ⟨_, _, rfl, rfl, q'⟩
      · rw [decide_eq_false h1] at q' ⊢
        rw [Bool.false_and] at q'
        exact iteF q'
    | _ => exact iteF q
end
/-! ### the class of maps -/
abbrev sInit : Stmt := inClass sCls 0
abbrev sChk : Stmt := inClass sCls 2
abbrev sLongest : Stmt := inClass sCls 8
theorem wr_ : ¬ (("_width" : Str) = "_rows") := by decide +kernel
theorem rw_ : ¬ (("_rows" : Str) = "_width") := by decide +kernel
/-- the attributes of a map -/
def flds (w : Nat) (e : Addr) : List (Str × V) := putF "_rows" (.ref e) (putF "_width" (.int w) [])
theorem flds_w (w : Nat) (e : Addr) : (flds w e).lookup ("_width" : Str) = some (.int w) := by
  unfold flds
  rw [lookup_putF, if_neg wr_, lookup_putF, if_pos rfl]
theorem flds_r (w : Nat) (e : Addr) : (flds w e).lookup ("_rows" : Str) = some (.ref e) := by
  unfold flds
  rw [lookup_putF, if_pos rfl]
theorem flds_no (w : Nat) (e : Addr) {m : Str} (h1 : ¬ m = "_rows") (h2 : ¬ m = "_width") : (flds w e).lookup m = none := by
  unfold flds
  rw [lookup_putF, if_neg h1, lookup_putF, if_neg h2]
  rfl
/-- at x a map of the class at C, its rows at e -/
structure MapAt (C : Addr) (H : Hp) (x e : Addr) (w : Nat) (kvs : List (Key × V)) : Prop where
  ob : ∃ dx, H x = some (.ins C dx (flds w e))
  dc : H e = some (.dK kvs)
theorem MapAt.same {C : Addr} {H H' : Hp} {x e : Addr} {w : Nat} {kvs : List (Key × V)} (k : Same H H') (h : MapAt C H x e w kvs) : MapAt C H' x e w kvs := by
  obtain ⟨⟨dx, h1⟩, h2⟩ := h
  exact ⟨⟨dx, k _ _ h1⟩, k _ _ h2⟩
theorem MapAt.but {C : Addr} {H H' : Hp} {p x e : Addr} {w : Nat} {kvs : List (Key × V)} (k : But p H H') (n1 : x ≠ p) (n2 : e ≠ p) (h : MapAt C H x e w kvs) : MapAt C H' x e w kvs := by
  obtain ⟨⟨dx, h1⟩, h2⟩ := h
  exact ⟨⟨dx, k _ _ n1 h1⟩, k _ _ n2 h2⟩
/-- the same rows, in ascending order -/
structure Sorted (xs : List Str) (kvs kvs' : List (Key × V)) (ys : List Str) : Prop where
  keys : kvs'.map (·.1) = ys.map Sum.inr
  perm : ys.Perm xs
  up : sortedS ys = true
  val : ∀ y ∈ xs, valV kvs' (.inr y) = valV kvs (.inr y)
structure ClsF (K : PySem.W.Frag) (C : Addr) : Prop where
  cl : Cls K C
  nW : NoAttr K C "_width"
  nR : NoAttr K C "_rows"
/-- _checked of a value of the right kind: the value -/
def spChk (K : PySem.W.Frag) (C : Addr) (vok : V → Prop) : Sp := fun vs H Q _ => ∃ (x dx : Addr) (fs : List (Str × V)) (v : V), vs = [.ref x, v] ∧ H x = some (.ins C dx fs) ∧ vok v ∧ Q v H
def spInit (K : PySem.W.Frag) (C : Addr) (vok : V → Prop) : Sp := fun vs H Q _ => ∃ (x dx d : Addr) (w : Nat) (xs : List Str) (kvs : List (Key × V)), vs = [.ref x, .int w, .ref d] ∧ H x = some (.ins C dx []) ∧ 1 ≤ w ∧ w ≤ 32 ∧ H d = some (.dK kvs) ∧ RowsOk w vok xs kvs ∧ xs.length < 64 ∧
  ∀ (e : Addr) (ys : List Str) (kvs' : List (Key × V)) (H' : Hp), H e = none → Sorted xs kvs kvs' ys → MapAt C H' x e w kvs' → (∀ b o, H b = some o → b ≠ x → H' b = some o) → Q .non H'
def spLongest (K : PySem.W.Frag) (C : Addr) : Sp := fun vs H Q _ => ∃ (x e : Addr) (w : Nat) (xs : List Str) (kvs : List (Key × V)) (y : Str), vs = [.ref x, .str y] ∧ MapAt C H x e w kvs ∧ kvs.map (·.1) = xs.map Sum.inr ∧ isBits y = true ∧ y.length ≤ w ∧ w ≤ 32 ∧
  ∀ r : Option Str, IsLong xs y r → Q (optV r) H
section
variable {P : Program} {w : World} {K : PySem.W.Frag} {mg : Str → Option Value} {base : Heap}
theorem scChk : FnScope ["self", "value"] ["self", "value"] (defScope sChk) := ⟨rfl, rfl, rfl, by decide +kernel, rfl, by decide +kernel, by decide +kernel⟩
theorem ok_chk {f fW C : Addr} {fd fdW : FuncData} {k : Nat} (F : Fun K "_checked" "PrefixMap._checked" sChk f fd) (GW : FnOk P w K mg base CX0 k fW fdW ["thing"] (spWhole K)) (FW : Fun K "is_whole" "is_whole" sWhole fW fdW) (bW : Binds K fdW ["thing"] []) (gW : mg "is_whole" = some (.ref fW)) :
    FnOk P w K mg base CX0 (k + 1) f fd ["self", "value"] (spChk K C isIntV) := by
  refine F.ok scChk (fun vs H Q E h => ?_) (fun cdv A outer s H vs Q E hr h => ?_)
  · obtain ⟨x, dx, fs, v, rfl, _⟩ := h
    rfl
  · obtain ⟨x, dx, fs, v, rfl, hx, hv, q⟩ := h
    refine ⟨_, pss_cons (ps_if (pt_not (pt_val (pe_call GW hr (by rfl) gW FW.kp bW .nil pass0 (pa_cons (pv 1) pa_nil)))) (pss_one ps_never) pss_nil) (pss_one (ps_ret (pv 1))), ?_⟩
    cases v with
    | int i =>
      obtain ⟨t, ht⟩ := TyI.of (K := K) (H := H) (N := fun _ => True) (.int i)
      exact ⟨.int i, rfl, .int i, t, rfl, ht, _, rfl, iteF ⟨.int i, rfl, q⟩⟩
    | _ => exact hv.elim
theorem scInit : FnScope ["self", "width", "rows", "prefix"] ["self", "width", "rows"] (defScope sInit) := ⟨rfl, rfl, rfl, by decide +kernel, rfl, by decide +kernel, by decide +kernel⟩
theorem ok_init {f fW fP fC C : Addr} {fd fdW fdP fdC : FuncData} {k : Nat} {vok : V → Prop} (F : Fun K "__init__" "PrefixMap.__init__" sInit f fd) (T : ClsF K C) (GW : FnOk P w K mg base CX0 k fW fdW ["thing"] (spWidth K)) (FW : Fun K "is_width" "is_width" sWidth fW fdW) (bW : Binds K fdW ["thing"] []) (gW : mg "is_width" = some (.ref fW))
    (GP : FnOk P w K mg base CX0 k fP fdP ["thing", "width"] (spPfx K)) (FP : Fun K "is_prefix" "is_prefix" sPfx fP fdP) (bP : Binds K fdP ["thing", "width"] []) (gP : mg "is_prefix" = some (.ref fP))
    (GC : FnOk P w K mg base CX0 k fC fdC ["self", "value"] (spChk K C vok)) (mC : Meth K C "_checked" fC) (bC : Binds K fdC ["self", "value"] []) (mi : mg "isinstance" = none) (md : mg "dict" = none) (ms : mg "sorted" = none) :
    FnOk P w K mg base CX0 (k + 1) f fd ["self", "width", "rows"] (spInit K C vok) := by
  refine F.ok scInit (fun vs H Q E h => ?_) (fun cdv A outer s H vs Q E hr h => ?_)
  · obtain ⟨x, dx, d, w, xs, kvs, rfl, _⟩ := h
    rfl
  · obtain ⟨x, dx, d, w, xs, kvs, rfl, hx, w1, w32, hd, ok, h64, q⟩ := h
    have nd := scInit.nd
    have hu := hu_of hr
    refine ⟨_, pss_cons (ps_if (pt_not (pt_val (pe_call GW hr (by rfl) gW FW.kp bW .nil pass0 (pa_cons (pv 1) pa_nil)))) (pss_one ps_never) pss_nil)
      (pss_cons (ps_if (pt_not (pt_val (pe_callB call_isi (by rfl) mi (by decide +kernel) (pa_cons (pv 2) (pa_cons (pe_bltn (v := .ty "dict") (by rfl) md (by decide +kernel) rfl) pa_nil))))) (pss_one ps_never) pss_nil)
      (pss_cons (ps_lock (ps_for PassesOwn.never rfl (pi_keys (pv 2)) (pg_name (i := 3) nd rfl (.inl rfl))
        (pss_one (ps_if (pt_not (pt_val (pe_call GP hr (by rfl) gP FP.kp bP .nil pass0 (pa_cons (pv 3) (pa_cons (pv 1) pa_nil))))) (pss_one ps_never) pss_nil))))
      (pss_cons (ps_fld (pv 0) (pv 1) rfl)
      (pss_one (ps_fld (pv 0) (pe_dc (own := [("prefix", 3)]) (g := gName 3) (tt := tYes) rfl nd (pi_list (pe_callB (call_sortedD rfl) (by rfl) ms (by decide +kernel) (pa_cons (pv 2) pa_nil)))
        (blkOk_by (N := ["self", "width", "rows", "prefix"]) (sc := defScope sInit) (by decide +kernel)) (fun _ _ _ _ _ => pg_name (i := 3) nd rfl (.inl rfl)) (fun _ _ _ _ _ => pts_nil) (fun _ _ _ _ _ => pv 3)
        (fun _ _ _ _ _ => pe_meth (pv 0) T.cl mC GC hr bC .nil pass0 (pa_cons (pe_dget hu (pv 2) (pv 3) (fun _ _ => rfl)) pa_nil))) rfl))))), ?_⟩
    -- the width
    obtain ⟨t, ht⟩ := TyI.of (K := K) (H := H) (N := fun _ => True) (.int (w : Int))
    refine ⟨.int w, rfl, .int w, t, rfl, ht, _, rfl, ?_⟩
    have hw : isWidthV (.int (w : Int)) = true := by
      show (decide ((1 : Int) ≤ w) && decide ((w : Int) ≤ 32)) = true
      rw [decide_eq_true (by omega), decide_eq_true (by omega)]
      rfl
    rw [hw]
    refine iteF ?_
    -- a dict
    refine ⟨.ref d, rfl, .ref d, .ty "dict", .type "dict", .type "dict", _, rfl, .ty _, .base (.dK hd), kitv (b := true) (by decide +kernel), _, rfl, iteF ?_⟩
    -- its prefixes
    refine ⟨d, .dK kvs, hd, trivial, fun od => ?_⟩
    refine ⟨.ref d, rfl, d, od, rfl, .inl ⟨kvs, upd_same, ?_⟩⟩
    refine for_it walk_keys (fun _ σ H' => (∃ x3, σ = [some (.ref x), some (.int w), some (.ref d), x3]) ∧ H' = upd H d (.frz od (.dK kvs))) ⟨⟨_, rfl⟩, rfl⟩ (fun _ _ _ _ h => by rw [h.2, upd_same]) ?_ ?_
    · rintro i v σ H1 H2 hi ⟨⟨x3, rfl⟩, rfl⟩ ⟨rfl, k, v', hkv, rfl⟩
      obtain ⟨y, hy, rfl⟩ := key_at ok.keys hkv
      have hym := List.mem_of_getElem? hy
      refine ⟨.str y, rfl, .int w, rfl, .str y, w, rfl, TyS.of (N := fun _ => True) (.str y), fun z e => ?_, _, rfl, ?_⟩
      · rw [← V.str.inj e]
        exact Nat.le_trans (ok.pfx.len y hym) (Nat.le_trans w32 (by decide))
      have e : isPfx (.str y) (w : Int) = true := by
        show (decide ((y.length : Int) ≤ w) && isBits y) = true
        rw [decide_eq_true (by have := ok.pfx.len y hym; omega), ok.pfx.bits y hym]
        rfl
      rw [e]
      exact iteF ⟨⟨_, rfl⟩, rfl⟩
    · rintro σ H1 ⟨⟨x3, rfl⟩, rfl⟩
      refine ⟨upd_same, ?_⟩
      rw [upd_back hd]
      -- the attributes
      refine ⟨.int w, rfl, .ref x, rfl, x, C, dx, [], rfl, hx, T.cl, T.nW, (by show 0 < 1000; decide), ?_⟩
      have ndx : d ≠ x := ne_of hd hx (fun e => nomatch e)
      have hdW : (upd H x (.ins C dx (putF "_width" (.int w) []))) d = some (.dK kvs) := by rw [upd_ne ndx]; exact hd
      refine ⟨.ref d, rfl, d, kvs, xs, rfl, .inl hdW, ok.keys, h64, fun ys l hperm hup nl => ?_⟩
      have hll : (upd (upd H x (.ins C dx (putF "_width" (.int w) []))) l (.lst (ys.map V.str))) l = some (.lst (ys.map V.str)) := upd_same
      have s1 := same_upd (o := .lst (ys.map V.str)) nl
      have hx1 := s1 _ _ (upd_same (H := H) (a := x) (o := .ins C dx (putF "_width" (.int w) [])))
      have hd1 := s1 _ _ hdW
      have old1 : ∀ b o, H b = some o → b ≠ x → (upd (upd H x (.ins C dx (putF "_width" (.int w) []))) l (.lst (ys.map V.str))) b = some o := fun b o e nb => s1 b o (by rw [upd_ne nb]; exact e)
      revert hll hx1 hd1 old1
      generalize upd (upd H x (.ins C dx (putF "_width" (.int w) []))) l (.lst (ys.map V.str)) = H2
      intro hll hx1 hd1 old1
      refine ⟨l, rfl, ⟨_, SqL.of hll⟩, fun G nG => ?_⟩
      have nxG : x ≠ G := ne_of_none hx1 nG
      have ndG : d ≠ G := ne_of_none hd1 nG
      have kn : (kvs.map (·.1)).Nodup := by
        rw [ok.keys]
        exact ok.pfx.nd.map Sum.inr (fun a b h e => h (Sum.inr.inj e))
      refine dc_it walk_list (fun i H' => ∃ kvs', H' G = some (.dK kvs') ∧ kvs'.map (·.1) = (ys.take i).map Sum.inr ∧ (∀ y v, (Sum.inr y, v) ∈ kvs' → valV kvs (.inr y) = some v) ∧ ∀ b o, H2 b = some o → H' b = some o) ⟨[], upd_same, rfl, fun _ _ h => (List.not_mem_nil h).elim, fun b o e => by rw [upd_ne (ne_of_none e nG)]; exact e⟩
        (fun _ H' _ h => by obtain ⟨_, _, _, _, k⟩ := h; exact SqL.of (k _ _ hll)) ?_ ?_
      · rintro i v H3 H4 hi ⟨kvs', hG, hk, hv, keep⟩ ⟨rfl, hvi⟩
        rw [List.getElem?_map] at hvi
        have hil : i < ys.length := by
          rw [List.length_map] at hi
          exact hi
        rw [List.getElem?_eq_getElem hil] at hvi
        obtain rfl : V.str ys[i] = v := Option.some.inj hvi
        have hym : ys[i] ∈ xs := hperm.mem_iff.mp (List.getElem_mem hil)
        refine ⟨rfl, yes_if ?_⟩
        have hkm : (Sum.inr ys[i] : Key) ∈ kvs.map (·.1) := (inr_mem ok.keys _).mpr hym
        obtain ⟨v, hval⟩ := Option.isSome_iff_exists.mp (valV_mem.mpr hkm)
        have hmem : (Sum.inr ys[i], v) ∈ kvs := by
          unfold valV at hval
          obtain ⟨p, hp, e⟩ := Option.map_eq_some_iff.mp hval
          have h1 := List.mem_of_find?_eq_some hp
          have h2 : p.1 = Sum.inr ys[i] := by
            have z := List.find?_some hp
            exact of_decide_eq_true z
          rw [← h2, ← e]
          exact h1
        refine ⟨.str ys[i], rfl, .ref x, rfl, x, dx, _, rfl, keep _ _ hx1, ?_, .ref d, rfl, .str ys[i], rfl, d, v, rfl, by rw [← hval]; exact DGet.k (k := .inr ys[i]) (keep _ _ hd1), ?_⟩
        · rw [lookup_putF, if_neg (by decide +kernel)]
          rfl
        refine ⟨x, dx, _, v, rfl, keep _ _ hx1, ok.val _ hmem, kvs', .inr ys[i], rfl, hG, ?_, ?_⟩
        · have : kvs'.length = ((ys.take i).map Sum.inr : List Key).length := by rw [← hk, List.length_map]
          rw [List.length_map, List.length_take] at this
          have hp := hperm.length_eq
          exact Nat.lt_of_le_of_lt (show kvs'.length ≤ 1000 by omega) (by decide)
        have hnew : (Sum.inr ys[i] : Key) ∉ kvs'.map (·.1) := by
          rw [hk, List.mem_map]
          rintro ⟨z, hz, e⟩
          have ynd : ys.Nodup := hperm.nodup_iff.mpr ok.pfx.nd
          obtain ⟨j, hj, ej⟩ := List.mem_take_iff_getElem.mp hz
          have e2 : ys[j]'(by omega) = ys[i] := by rw [ej]; exact Sum.inr.inj e
          have := (List.getElem_inj ynd).mp e2
          omega
        refine ⟨kvs' ++ [(.inr ys[i], v)], by rw [upd_same, putK_end hnew], ?_, ?_, ?_⟩
        · rw [List.map_append, hk, List.take_add_one, List.getElem?_eq_getElem hil, List.map_append]
          rfl
        · intro y v' hm
          rcases List.mem_append.mp hm with hm | hm
          · exact hv y v' hm
          · obtain e := List.mem_singleton.mp hm
            cases e
            exact hval
        · intro b o e
          rw [upd_ne (ne_of_none e nG)]
          exact keep b o e
      · rintro H3 ⟨kvs', hG, hk, hv, keep⟩
        have etake : ys.take (ys.map V.str).length = ys := List.take_of_length_le (by rw [List.length_map]; exact Nat.le_refl _)
        rw [etake] at hk
        refine ⟨.ref x, rfl, x, C, dx, _, rfl, keep _ _ hx1, T.cl, T.nR, (by show 1 < 1000; decide), ?_⟩
        have ynd : ys.Nodup := hperm.nodup_iff.mpr ok.pfx.nd
        have kn' : (kvs'.map (·.1)).Nodup := by
          rw [hk]
          exact ynd.map Sum.inr (fun a b h e => h (Sum.inr.inj e))
        have hH : ∀ b, H2 b = none → H b = none := fun b hb => by
          cases e : H b with
          | none => rfl
          | some o =>
            by_cases hbx : b = x
            · rw [hbx, hx1] at hb
              cases hb
            · rw [old1 b o e hbx] at hb
              cases hb
        refine q G ys kvs' _ (hH G nG) ⟨hk, hperm, hup, fun y hy => ?_⟩ ⟨⟨dx, upd_same⟩, by rw [upd_ne nxG.symm]; exact hG⟩ fun b o e nb => by rw [upd_ne nb]; exact keep b o (old1 b o e nb)
        have hm : (Sum.inr y : Key) ∈ kvs'.map (·.1) := (inr_mem hk _).mpr (hperm.mem_iff.mpr hy)
        obtain ⟨p, hp, e⟩ := List.mem_map.mp hm
        obtain ⟨k', v⟩ := p
        have e' : k' = Sum.inr y := e
        subst e'
        rw [valV_some kn' hp, hv y v hp]
end
section
variable {P : Program} {w : World} {K : PySem.W.Frag} {mg : Str → Option Value} {base : Heap}
theorem scLongest : FnScope ["self", "prefix", "length"] ["self", "prefix"] (defScope sLongest) := ⟨rfl, rfl, rfl, by decide +kernel, rfl, by decide +kernel, by decide +kernel⟩
theorem ok_longest {f fP C : Addr} {fd fdP : FuncData} {k : Nat} (F : Fun K "longest" "PrefixMap.longest" sLongest f fd) (T : ClsF K C) (GP : FnOk P w K mg base CX0 k fP fdP ["thing", "width"] (spPfx K)) (FP : Fun K "is_prefix" "is_prefix" sPfx fP fdP) (bP : Binds K fdP ["thing", "width"] []) (gP : mg "is_prefix" = some (.ref fP))
    (mr : mg "range" = none) (ml : mg "len" = none) : FnOk P w K mg base CX0 (k + 1) f fd ["self", "prefix"] (spLongest K C) := by
  refine F.ok scLongest (fun vs H Q E h => ?_) (fun cdv A outer s H vs Q E hr h => ?_)
  · obtain ⟨x, e, w, xs, kvs, y, rfl, _⟩ := h
    rfl
  · obtain ⟨x, e, w, xs, kvs, y, rfl, ⟨⟨dx, hx⟩, he⟩, hk, hb, hyw, hw32, q⟩ := h
    have nd := scLongest.nd
    have hu := hu_of hr
    have hyl : y.length ≤ sizeLine := Nat.le_trans hyw (Nat.le_trans hw32 (by decide))
    refine ⟨_, pss_cons (ps_if (pt_not (pt_val (pe_call GP hr (by rfl) gP FP.kp bP .nil pass0 (pa_cons (pv 1) (pa_cons (pe_fld (pv 0) rfl) pa_nil))))) (pss_one ps_never) pss_nil)
      (pss_cons (ps_for PassesOwn.never rfl (pi_range3 rfl mr (pa_cons (pe_callB call_len_str (by rfl) ml PySem.boot_len (pa_cons (pv 1) pa_nil)) (pa_cons (pe_un un_neg pe_int) (pa_cons (pe_un un_neg pe_int) pa_nil)))) (pg_name (i := 2) nd rfl (.inl rfl))
        (pss_one (ps_if (pt_cmp (pc_din hu (pe_slice sl_str (pv 1) po_none (po_some (pv 2))) (pe_fld (pv 0) rfl))) (pss_one (ps_ret (pe_slice sl_str (pv 1) po_none (po_some (pv 2))))) pss_nil)))
      (pss_one (ps_ret pe_non))), ?_⟩
    refine ⟨.str y, rfl, .ref x, rfl, x, C, dx, _, _, rfl, hx, T.cl, T.nW, flds_w _ _, .str y, w, rfl, TyS.of (N := fun _ => True) (.str y), fun z e => by rw [← V.str.inj e]; exact hyl, _, rfl, ?_⟩
    have ep : isPfx (.str y) (w : Int) = true := by
      show (decide ((y.length : Int) ≤ w) && isBits y) = true
      rw [decide_eq_true (by omega), hb]
      rfl
    rw [ep]
    refine iteF ?_
    refine ⟨.str y, rfl, y, rfl, hyl, 1, rfl, 1, rfl, (y.length : Int), -1, -1, ((y.length : Int) - -1).toNat, rfl, RgC.neg (by omega) (by omega) (by decide) (by decide), ?_⟩
    refine for_rangeC (lo := (y.length : Int)) (c := -1) (n := ((y.length : Int) - -1).toNat) (fun i σ H' => (∃ x2, σ = [some (.ref x), some (.str y), x2]) ∧ H' = H ∧ ∀ z ∈ xs, Pre z y → z.length + i ≤ y.length) ⟨⟨_, rfl⟩, rfl, fun z _ h => by have := pre_len h; omega⟩ ?_ ?_
    · rintro i σ H' hi ⟨⟨x2, rfl⟩, rfl, hno⟩
      obtain ⟨kk, hkk⟩ : ∃ kk : Nat, (y.length : Int) + (i : Nat) * -1 = (kk : Int) ∧ kk + i = y.length := ⟨y.length - i, by omega, by omega⟩
      obtain ⟨ek, ekl⟩ := hkk
      rw [ek]
      refine ⟨.str y, rfl, .int kk, rfl, kk, rfl, y, rfl, hyl, .ref x, rfl, x, C, dx, _, _, rfl, hx, T.cl, T.nR, flds_r _ _, e, _, rfl, DGet.k (k := .inr (cutS y none (some (kk : Int)))) he, _, rfl, ?_⟩
      have hlen : (cutS y none (some (kk : Int))).length = kk := by
        rw [← sg_len, sg_take, List.length_take, sg_len]
        omega
      cases hin : (valV kvs (.inr (cutS y none (some (kk : Int))))).isSome with
      | true =>
        refine iteT ⟨.str y, rfl, .int kk, rfl, kk, rfl, y, rfl, hyl, ?_⟩
        have hm := (inr_mem hk _).mp (valV_mem.mp hin)
        refine q (some _) ⟨hm, pre_take y kk, fun z hz hp => ?_⟩
        have := hno z hz hp
        omega
      | false =>
        refine iteF ⟨⟨_, rfl⟩, rfl, fun z hz hp => ?_⟩
        have h1 := hno z hz hp
        by_cases hzk : z.length = kk
        · exfalso
          have e2 := pre_eq hp
          rw [hzk] at e2
          have h3 : (valV kvs (.inr (cutS y none (some (kk : Int))))).isSome = true := valV_mem.mpr ((inr_mem hk _).mpr (by rw [← e2]; exact hz))
          rw [hin] at h3
          cases h3
        · omega
    · rintro σ H' ⟨⟨x2, rfl⟩, rfl, hno⟩
      refine q none fun z hz hp => ?_
      have h1 := hno z hz hp
      omega
end
/-! ### _law_match -/
def spMatch : Sp := fun vs H Q _ => ∃ (d : Addr) (xs : List Str) (kvs : List (Key × V)) (y : Str), vs = [.ref d, .str y] ∧ H d = some (.dK kvs) ∧ kvs.map (·.1) = xs.map Sum.inr ∧ y.length ≤ 1000 ∧ (∀ z ∈ xs, z.length ≤ 1000) ∧ ∀ r : Option Str, IsLong xs y r → Q (optV r) H
section
variable {P : Program} {w : World} {K : PySem.W.Frag} {mg : Str → Option Value} {base : Heap}
theorem scMatch : FnScope ["lines", "spot", "found", "prefix"] ["lines", "spot"] (defScope sMatch) := ⟨rfl, rfl, rfl, by decide +kernel, rfl, by decide +kernel, by decide +kernel⟩
theorem ok_match {f : Addr} {fd : FuncData} {k : Nat} (F : Fun K "_law_match" "_law_match" sMatch f fd) (ml : mg "len" = none) : FnOk P w K mg base CX0 (k + 1) f fd ["lines", "spot"] spMatch := by
  refine F.ok scMatch (fun vs H Q E h => ?_) (fun cdv A outer s H vs Q E hr h => ?_)
  · obtain ⟨d, xs, kvs, y, rfl, _⟩ := h
    rfl
  · obtain ⟨d, xs, kvs, y, rfl, hd, hk, hyl, hxl, q⟩ := h
    have nd := scMatch.nd
    refine ⟨_, pss_cons (ps_set (i := 2) nd rfl (.inl rfl) pe_non)
      (pss_cons (ps_lock (ps_for PassesOwn.never rfl (pi_keys (pv 0)) (pg_name (i := 3) nd rfl (.inl rfl))
        (pss_one (ps_if (PW.pt (pw_and (pt_val (pe_m1 PySem.F.slot_str_startswith PySem.F.type_str_startswith mt_startswith (pv 1) (pv 3)))
            (pw_and1 (PW.pt (pw_or (pt_cmpR op_isN (pv 2) pe_non (nomark _)) (pw_or1 (pt_cmpR op_gt (pe_callB call_len_str (by rfl) ml PySem.boot_len (pa_cons (pv 3) pa_nil)) (pe_callB call_len_str (by rfl) ml PySem.boot_len (pa_cons (pv 2) pa_nil)) (nomark _))))))))
          (pss_one (ps_set (i := 2) nd rfl (.inl rfl) (pv 3))) pss_nil))))
      (pss_one (ps_ret (pv 2)))), ?_⟩
    refine ⟨d, .dK kvs, hd, trivial, fun od => ?_⟩
    refine ⟨.ref d, rfl, d, od, rfl, .inl ⟨kvs, upd_same, ?_⟩⟩
    refine for_it walk_keys (fun i σ H' => (∃ r x3, σ = [some (.ref d), some (.str y), some (optV r), x3] ∧ IsLong (xs.take i) y r) ∧ H' = upd H d (.frz od (.dK kvs))) ⟨⟨none, _, rfl, fun z hz => absurd hz (by rw [List.take_zero]; exact List.not_mem_nil)⟩, rfl⟩ (fun _ _ _ _ h => by rw [h.2, upd_same]) ?_ ?_
    · rintro i v σ H1 H2 hi ⟨⟨r, x3, rfl, hr⟩, rfl⟩ ⟨rfl, kk, v', hkv, rfl⟩
      obtain ⟨z, hz, rfl⟩ := key_at hk hkv
      have hzm := List.mem_of_getElem? hz
      have hzl : z.length ≤ sizeLine := Nat.le_trans (hxl z hzm) (by decide)
      have et : xs.take (i + 1) = xs.take i ++ [z] := by rw [List.take_add_one, hz]; rfl
      refine ⟨.str y, rfl, ⟨_, rfl⟩, .str z, rfl, y, z, rfl, rfl, _, rfl, ?_⟩
      rw [startswith_iff]
      by_cases hp : Pre z y
      · rw [decide_eq_true hp]
        refine iteT ?_
        cases r with
        | none =>
          refine ⟨.non, rfl, rfl, _, rfl, ?_⟩
          show if decide (optV none = V.non) = true then _ else _
          rw [decide_eq_true (show optV none = V.non from rfl)]
          refine iteT (iteT ?_)
          refine ⟨.str z, rfl, ⟨some z, _, rfl, ?_⟩, rfl⟩
          rw [et]
          refine ⟨List.mem_append_right _ List.mem_cons_self, hp, fun u hu hpu => ?_⟩
          rcases List.mem_append.mp hu with hu | hu
          · exact absurd hpu (hr u hu)
          · rw [List.mem_singleton.mp hu]
            exact Nat.le_refl _
        | some g =>
          have hgl : g.length ≤ sizeLine := Nat.le_trans (pre_len hr.2.1) (Nat.le_trans hyl (by decide))
          refine ⟨.str g, rfl, rfl, _, rfl, ?_⟩
          show if decide (V.str g = V.non) = true then _ else _
          rw [decide_eq_false (fun e => nomatch e)]
          refine iteF ?_
          refine ⟨.str z, rfl, z, rfl, hzl, .str g, rfl, g, rfl, hgl, _, _, rfl, rfl, _, rfl, ?_⟩
          by_cases hlt : (g.length : Int) < z.length
          · rw [decide_eq_true hlt]
            refine iteT ⟨.str z, rfl, ⟨some z, _, rfl, ?_⟩, rfl⟩
            rw [et]
            refine ⟨List.mem_append_right _ List.mem_cons_self, hp, fun u hu hpu => ?_⟩
            rcases List.mem_append.mp hu with hu | hu
            · have := hr.2.2 u hu hpu
              omega
            · rw [List.mem_singleton.mp hu]
              exact Nat.le_refl _
          · rw [decide_eq_false hlt]
            refine iteF ⟨⟨some g, _, rfl, ?_⟩, rfl⟩
            rw [et]
            refine ⟨List.mem_append_left _ hr.1, hr.2.1, fun u hu hpu => ?_⟩
            rcases List.mem_append.mp hu with hu | hu
            · exact hr.2.2 u hu hpu
            · rw [List.mem_singleton.mp hu]
              omega
      · rw [decide_eq_false hp]
        refine iteF (iteF ⟨⟨r, _, rfl, ?_⟩, rfl⟩)
        rw [et]
        cases r with
        | none =>
          intro u hu
          rcases List.mem_append.mp hu with hu | hu
          · exact hr u hu
          · rw [List.mem_singleton.mp hu]
            exact hp
        | some g =>
          refine ⟨List.mem_append_left _ hr.1, hr.2.1, fun u hu hpu => ?_⟩
          rcases List.mem_append.mp hu with hu | hu
          · exact hr.2.2 u hu hpu
          · rw [List.mem_singleton.mp hu] at hpu
            exact absurd hpu hp
    · rintro σ H1 ⟨⟨r, x3, rfl, hr⟩, rfl⟩
      refine ⟨upd_same, ?_⟩
      rw [upd_back hd]
      refine ⟨_, rfl, q r ?_⟩
      have hl : xs.length = kvs.length := by
        have := congrArg List.length hk
        rw [List.length_map, List.length_map] at this
        exact this.symm
      rw [List.take_of_length_le (by omega)] at hr
      exact hr
end
section
variable {P : Program} {w : World} {K : PySem.W.Frag} {mg : Str → Option Value} {base : Heap}
theorem scNumbers : FnScope ["pen", "size", "prefix"] ["pen", "size"] (defScope sNumbers) := ⟨rfl, rfl, rfl, by decide +kernel, rfl, by decide +kernel, by decide +kernel⟩
theorem ok_numbers {f fD fX : Addr} {fd fdD fdX : FuncData} {k : Nat} (F : Fun K "_law_numbers" "_law_numbers" sNumbers f fd) (GD : FnOk P w K mg base CX0 k fD fdD ["pen", "below"] spDraw) (FD : Fun K "_law_draw" "_law_draw" sDraw fD fdD) (bD : Binds K fdD ["pen", "below"] []) (gD : mg "_law_draw" = some (.ref fD))
    (GX : FnOk P w K mg base CX0 k fX fdX ["pen", "size", "most"] spPrefixes) (FX : Fun K "_law_prefixes" "_law_prefixes" sPrefixes fX fdX) (bX : Binds K fdX ["pen", "size", "most"] []) (gX : mg "_law_prefixes" = some (.ref fX)) (md : mg "dict" = none) :
    FnOk P w K mg base CX0 (k + 1) f fd ["pen", "size"] (spLines isIntV 7) := by
  refine F.ok scNumbers (fun vs H Q E h => ?_) (fun cdv A outer s H vs Q E hr h => ?_)
  · obtain ⟨p, c, n, z, m, rfl, _⟩ := h
    rfl
  · obtain ⟨p, c, n, z, m, rfl, hp, hn, hz, q⟩ := h
    have nd := scNumbers.nd
    have hnB : n + 1000 ≤ 1000000000000 := hn
    refine ⟨_, pss_one (ps_ret (pe_callTy (call_dictP rfl) (by rfl) md (by decide +kernel) (pa_cons
      (pe_lc (own := [("prefix", 2)]) (g := gName 2) (tt := tYes) rfl nd (pi_list (pe_call GX hr (by rfl) gX FX.kp bX .nil pass0 (pa_cons (pv 0) (pa_cons (pv 1) (pa_cons pe_int pa_nil)))))
        (blkOk_by (N := ["pen", "size", "prefix"]) (sc := defScope sNumbers) (by decide +kernel)) (fun _ _ _ _ _ => pg_name (i := 2) nd rfl (.inl rfl)) (fun _ _ _ _ _ => pts_nil)
        (fun _ _ _ _ _ => pe_tup (pa_cons (pv 2) (pa_cons (pe_op op_sub (pe_call GD hr (by rfl) gD FD.kp bD .nil pass0 (pa_cons (pv 0) (pa_cons pe_int pa_nil))) pe_int) pa_nil)))) pa_nil))), ?_⟩
    refine ⟨.ref p, rfl, .int z, rfl, p, c, n, z, 7, m, rfl, hp, by show n + 1000 ≤ 1000000000000; omega, hz, by decide, fun l xs H1 b1 p1 nl hl hx hx7 => ?_⟩
    refine ⟨l, rfl, ⟨_, SqL.of hl⟩, fun D nD => ?_⟩
    have nDl : D ≠ l := fun e => by rw [e, hl] at nD; cases nD
    have nDp := p1.ne_p nD
    refine lc_it walk_list (fun i H' => ∃ ps kvs, PairsAt K H' D isIntV (xs.take i) ps kvs ∧ ps.length = i ∧ H' l = some (.lst (xs.map V.str)) ∧ But p H H' ∧ Pen H' p c (n + 57 + i) m) ⟨[], [], ⟨upd_same, .nil, by rw [List.take_zero]; rfl, fun _ h => absurd h List.not_mem_nil⟩, rfl, by rw [upd_ne nDl.symm]; exact hl, b1.trans (.of_same (same_upd nD)), (p1.mono (by omega)).off nDp (p1.ne_c nD)⟩
      (fun i H' hi h => by obtain ⟨_, _, _, _, h, _⟩ := h; exact SqL.of h) ?_ ?_
    · rintro i v H' H'' hi ⟨ps, kvs, hps, hpl, hl', bH, pH⟩ ⟨rfl, hv⟩
      have hi' : i < xs.length := by rw [List.length_map] at hi; exact hi
      rw [List.getElem?_map, List.getElem?_eq_getElem hi'] at hv
      obtain rfl : V.str xs[i] = v := Option.some.inj hv
      refine ⟨rfl, yes_if ?_⟩
      refine ⟨.str xs[i], rfl, .ref p, rfl, p, c, _, m, 9, rfl, pH, by show n + 57 + i ≤ 1000000000000; omega, by decide, by decide, fun d H3 d0 d1 b3 p3 => ?_⟩
      refine ⟨_, _, rfl, rfl, by show 2 ≤ sizeLine; decide, fun t nt => ?_⟩
      obtain ⟨o, hpo⟩ := pH.lst
      have h3 := hps.but b3 hpo nDp
      have s2 := same_upd (o := .tup [.str xs[i], .int (d - 4)]) nt
      have et : xs.take (i + 1) = xs.take i ++ [xs[i]] := by rw [List.take_add_one, List.getElem?_eq_getElem hi']; rfl
      refine ⟨_, s2 _ _ h3.at_, ?_, ps ++ [t], kvs ++ [(.inr xs[i], .int (d - 4))], ?_, by rw [List.length_append, hpl]; rfl, ?_, ?_, ?_⟩
      · exact Nat.lt_of_le_of_lt (show (ps.map V.ref).length ≤ 1000 by rw [List.length_map]; omega) (by decide)
      · rw [et]
        exact h3.snoc (v := .int (d - 4)) (show isIntV (.int (d - 4)) from trivial) nt
      · rw [upd_ne nDl.symm]
        exact s2 _ _ (b3 _ _ (hp.ne_p nl) hl')
      · exact pairs_old ((b1.free nDp nD)) bH b3 nt
      · exact ((p3.keep s2).mono (by omega)).off nDp (p1.ne_c nD)
    · rintro H' ⟨ps, kvs, hps, hpl, hl', bH, pH⟩
      rw [List.length_map, List.take_of_length_le (Nat.le_refl _)] at hps
      rw [List.length_map] at hpl pH
      refine ⟨D, ps, kvs, rfl, SqL.of hps.at_, hps.prs, fun d nd' => ?_⟩
      rw [pair_merge hps hx.nd]
      exact q d xs kvs _ (bH.trans (.of_same (same_upd nd'))) (bH.free (pH.ne_p nd') nd') upd_same ⟨hps.keys, hx, hps.val⟩ hx7 ((pH.keep (same_upd nd')).mono (by omega))
end
/-! ### a list by the keys of a dict -/
theorem upd_free {H : Hp} {a e : Addr} {o : HO} (h : upd H a o e = none) : e ≠ a ∧ H e = none := by
  have n : e ≠ a := fun q => by
    rw [q, upd_same] at h
    cases h
  rw [upd_ne n] at h
  exact ⟨n, h⟩
theorem keys_strs {kvs : List (Key × V)} {xs : List Str} (h : kvs.map (·.1) = xs.map Sum.inr) : (kvs.map fun kv => kV kv.1) = xs.map V.str := by
  have e : (kvs.map fun kv => kV kv.1) = (kvs.map (·.1)).map kV := by rw [List.map_map]; rfl
  rw [e, h, List.map_map]
  rfl
theorem lock_keys {σ : L2.St} {H : Hp} {Q : VK} {td te : TE} {i : Nat} {d : Addr} {kvs : List (Key × V)} {xs : List Str} {f : Str → Str} (hd : H d = some (.dK kvs)) (hk : kvs.map (·.1) = xs.map Sum.inr) (hl : xs.length ≤ 900)
    (htd : ∀ (H' : Hp) (Q' : VK), Q' (.ref d) H' → td σ H' Q') (hte : ∀ x ∈ xs, ∀ (H' : Hp) (Q' : VK), Q' (.str (f x)) H' → te ((wipe σ [i]).set i (some (.str x))) H' Q')
    (q : ∀ (D : Addr) (H' : Hp), H D = none → Same H H' → H' D = some (.lst (xs.map fun x => .str (f x))) → Q (.ref D) H') : tLockE (tLc (iKeys td) (gName i) tYes te [i]) σ H Q := by
  refine ⟨d, .dK kvs, hd, trivial, fun od => ?_⟩
  refine htd _ _ ⟨d, od, rfl, .inl ⟨kvs, upd_same, fun D nD => ?_⟩⟩
  have hlen : kvs.length = xs.length := by
    have := congrArg List.length hk
    rw [List.length_map, List.length_map] at this
    exact this
  obtain ⟨nDd, nDH⟩ := upd_free nD
  refine lc_it walk_keys (fun j H' => H' D = some (.lst ((xs.take j).map fun x => .str (f x))) ∧ H' d = some (.frz od (.dK kvs)) ∧ ∀ b o, b ≠ d → H b = some o → H' b = some o) ⟨by rw [upd_same]; rfl, by rw [upd_ne nDd.symm, upd_same], fun b o nb e => by rw [upd_ne (ne_of_none e nDH), upd_ne nb]; exact e⟩ (fun _ _ _ h => h.2.1) ?_ ?_
  · rintro j v H1 H2 hj ⟨hD, hd1, keep⟩ ⟨rfl, k, v', hkv, rfl⟩
    obtain ⟨x, hx, rfl⟩ := key_at hk hkv
    refine ⟨?_, yes_if ?_⟩
    · show ((wipe σ [i]).set i (some (kV (.inr x)))).set i none = σ.set i none
      show ((σ.set i none).set i (some (V.str x))).set i none = σ.set i none
      rw [List.set_set, List.set_set]
    refine hte x (List.mem_of_getElem? hx) _ _ ⟨_, hD, big_lt (by rw [List.length_map, List.length_take]; omega), ?_, ?_, ?_⟩
    · rw [upd_same, List.take_add_one, hx, List.map_append]
      rfl
    · rw [upd_ne nDd.symm]
      exact hd1
    · intro b o nb e
      rw [upd_ne (ne_of_none e nDH)]
      exact keep b o nb e
  · rintro H1 ⟨hD, hd1, keep⟩
    refine ⟨hd1, q D _ nDH (fun b o e => ?_) ?_⟩
    · by_cases hb : b = d
      · rw [hb, upd_same, ← hd, ← hb, e]
      · rw [upd_ne hb]
        exact keep b o hb e
    · rw [upd_ne nDd, hD, List.take_of_length_le (by omega)]
theorem paired_app {α β : Type} {R : α → β → Prop} : ∀ {l1 l2 : List α} {k1 k2 : List β}, Paired R l1 k1 → Paired R l2 k2 → Paired R (l1 ++ l2) (k1 ++ k2)
  | _, _, _, _, .nil, h => h
  | _, _, _, _, .cons a t, h => .cons a (paired_app t h)
/-! ### the law -/
def spLaw (K : PySem.W.Frag) : Sp := fun vs H Q _ => ∃ (a : Addr) (ns : List Int), vs = [.ref a] ∧ SqL K H a (ns.map V.int) ∧ ns.length ≤ 63 ∧ ∀ H', Q (.bl true) H'
abbrev NL : List Str := ["script", "pen", "turn", "size", "lines", "some", "spots", "spot", "k", "prefix", "more"]
theorem dr_opt {K : PySem.W.Frag} {H : Hp} {N : Addr → Prop} (r : Option Str) (hr : ∀ x, r = some x → Sm 100 x) : ∃ d, Dr K H N (optV r) d ∧ OkD 0 5000 d := by
  cases r with
  | none => exact ⟨_, .non, ⟨by decide +kernel, by decide +kernel, by decide +kernel⟩⟩
  | some x => exact ⟨_, .str x, (hr x rfl).ok (by decide)⟩
structure TxtL (mg : Str → Option Value) : Prop where
  range : mg "range" = none
  list : mg "list" = none
  repr : mg "repr" = none
  dict : mg "dict" = none
section
variable {P : Program} {w : World} {K : PySem.W.Frag} {mg : Str → Option Value} {base : Heap}
theorem scLaw : FnScope NL ["script"] (defScope sLaw) := ⟨rfl, rfl, rfl, by decide +kernel, rfl, by decide +kernel, by decide +kernel⟩
theorem ok_law {f fP fS fB fX fI fL fM C : Addr} {fd fdP fdS fdB fdX fdI fdL fdM : FuncData} (F : Fun K "law" "law" sLaw f fd) (T : TxtL mg) (sys : ∃ mm, base.Ns sysModules mm) (TC : ClsF K C) (mgC : mg "PrefixMap" = some (.ref C))
    (GP : FnOk P w K mg base CX0 6 fP fdP ["script"] (spPen K)) (FP : Fun K "_law_pen" "_law_pen" sPen fP fdP) (bP : Binds K fdP ["script"] []) (gP : mg "_law_pen" = some (.ref fP))
    (GS : FnOk P w K mg base CX0 6 fS fdS ["pen"] spSize) (FS : Fun K "_law_size" "_law_size" sSize fS fdS) (bS : Binds K fdS ["pen"] []) (gS : mg "_law_size" = some (.ref fS))
    (GB : FnOk P w K mg base CX0 6 fB fdB ["pen", "size"] spBits) (FB : Fun K "_law_bits" "_law_bits" sBits fB fdB) (bB : Binds K fdB ["pen", "size"] []) (gB : mg "_law_bits" = some (.ref fB))
    (GX : FnOk P w K mg base CX0 6 fX fdX ["pen", "size"] (spLines isIntV 7)) (FX : Fun K "_law_numbers" "_law_numbers" sNumbers fX fdX) (bX : Binds K fdX ["pen", "size"] []) (gX : mg "_law_numbers" = some (.ref fX))
    (M : Mk K C fI) (GI : FnOk P w K mg base CX0 6 fI fdI ["self", "width", "rows"] (spInit K C isIntV)) (bI : Binds K fdI ["self", "width", "rows"] [])
    (mL : Meth K C "longest" fL) (GL : FnOk P w K mg base CX0 6 fL fdL ["self", "prefix"] (spLongest K C)) (bL : Binds K fdL ["self", "prefix"] [])
    (GM : FnOk P w K mg base CX0 6 fM fdM ["lines", "spot"] spMatch) (FM : Fun K "_law_match" "_law_match" sMatch fM fdM) (bM : Binds K fdM ["lines", "spot"] []) (gM : mg "_law_match" = some (.ref fM)) :
    FnG P w K mg base 8 f fd ["script"] (spLaw K) := by
  refine okG F scLaw (fun vs H Q E h => ?_) (fun cdv A outer s H vs Q g hr h => ?_)
  · obtain ⟨a, ns, rfl, _⟩ := h
    rfl
  · obtain ⟨a, ns, rfl, hS, hlen, q⟩ := h
    have nd := scLaw.nd
    have hu := hr.units
    have hr6 : Room 6 _ := hr.mono (by decide)
    have calls := fun {X : Cx} (h1 : X.A.guards = some []) (h2 : X.A.units + 64 < cLine) (h3 : ∃ mm, X.base.Ns sysModules mm) => call_repr h1 h2 h3
    refine ⟨_, pss_cons (ps_set (i := 1) nd rfl (.inr rfl) (pe_call GP hr6 (by rfl) gP FP.kp bP .nil pass0 (pa_cons (pv 0) pa_nil)))
      (pss_cons (ps_for PassesOwn.never rfl (pi_range1 (by rfl) T.range (pa_cons pe_int pa_nil)) (pg_name (i := 2) nd rfl (.inl rfl))
        (pss_cons (ps_set (i := 3) nd rfl (.inr rfl) (pe_call GS hr6 (by rfl) gS FS.kp bS .nil pass0 (pa_cons (pv 1) pa_nil)))
        (pss_cons (ps_set (i := 4) nd rfl (.inl rfl) (pe_call GX hr6 (by rfl) gX FX.kp bX .nil pass0 (pa_cons (pv 1) (pa_cons (pv 3) pa_nil))))
        (pss_cons (ps_set (i := 5) nd rfl (.inl rfl) (pe_make M GI hr (by rfl) mgC bI .nil pass0 (pa_cons (pv 3) (pa_cons (pv 4) pa_nil))))
        (C8.pss_cut (ps_set (i := 6) nd rfl (.inl rfl) (pe_op op_cat (pe_op op_cat (pe_callTy (call_list_dK rfl) (by rfl) T.list (by decide +kernel) (pa_cons (pv 4) pa_nil))
            (pe_lock (pe_lc (own := [("prefix", 9)]) (g := gName 9) (tt := tYes) rfl nd (pi_keys (pv 4)) (blkOk_by (N := NL) (sc := defScope sLaw) (by decide +kernel)) (fun _ _ _ _ _ => pg_name (i := 9) nd rfl (.inl rfl)) (fun _ _ _ _ _ => pts_nil)
              (fun _ _ _ _ _ => pe_slice sl_str (pv 9) po_none (po_some (pe_un un_neg pe_int))))))
            (pe_lock (pe_lc (own := [("prefix", 9)]) (g := gName 9) (tt := tYes) rfl nd (pi_keys (pv 4)) (blkOk_by (N := NL) (sc := defScope sLaw) (by decide +kernel)) (fun _ _ _ _ _ => pg_name (i := 9) nd rfl (.inl rfl)) (fun _ _ _ _ _ => pts_nil)
              (fun _ _ _ _ _ => pe_slice sl_str (pe_op op_add_str (pv 9) pe_str) po_none (po_some (pv 3)))))))
        (C8.pss_cut (ps_set (i := 6) nd rfl (.inl rfl) (pe_op op_cat (pe_op op_cat (pv 6)
            (pe_lc (own := [("more", 10)]) (g := gName 10) (tt := tYes) rfl nd (pi_range1 (by rfl) T.range (pa_cons pe_int pa_nil)) (blkOk_by (N := NL) (sc := defScope sLaw) (by decide +kernel)) (fun _ _ _ _ _ => pg_name (i := 10) nd rfl (.inl rfl)) (fun _ _ _ _ _ => pts_nil)
              (fun _ _ _ _ _ => pe_call GB hr6 (by rfl) gB FB.kp bB .nil pass0 (pa_cons (pv 1) (pa_cons (pv 3) pa_nil)))))
            (pe_lst (pa_cons (pe_op op_mulS pe_str (pv 3)) (pa_cons (pe_op op_mulS pe_str (pv 3)) (pa_cons pe_str pa_nil))))))
        (pss_one (ps_for PassesOwn.never rfl (pi_list (pe_op op_cat (pv 6) (pe_revL (pv 6)))) (pg_name (i := 7) nd rfl (.inl rfl))
          (pss_one (ps_if (pt_cmpR op_ne (pe_callB (calls g hu sys) (by rfl) T.repr (by decide +kernel) (pa_cons (pe_meth (pv 5) TC.cl mL GL hr6 bL .nil pass0 (pa_cons (pv 7) pa_nil)) pa_nil))
              (pe_callB (calls g hu sys) (by rfl) T.repr (by decide +kernel) (pa_cons (pe_call GM hr6 (by rfl) gM FM.kp bM .nil pass0 (pa_cons (pv 4) (pa_cons (pv 7) pa_nil))) pa_nil)) (nomark _)) (pss_one (ps_ret pe_bl)) pss_nil))))))))))
      (C8.pss_cut (ps_set (i := 4) nd rfl (.inl rfl) (pe_callTy (call_dictP rfl) (by rfl) T.dict (by decide +kernel) (pa_cons (pe_op op_cat
          (pe_lc (own := [("k", 8)]) (g := gName 8) (tt := tYes) rfl nd (pi_range1 (by rfl) T.range (pa_cons pe_int pa_nil)) (blkOk_by (N := NL) (sc := defScope sLaw) (by decide +kernel)) (fun _ _ _ _ _ => pg_name (i := 8) nd rfl (.inl rfl)) (fun _ _ _ _ _ => pts_nil)
            (fun _ _ _ _ _ => pe_tup (pa_cons (pe_slice sl_str (pe_op op_add_str (pe_op op_mulS pe_str (pv 8)) pe_str) po_none (po_some pe_int)) (pa_cons (pv 8) pa_nil))))
          (pe_lc (own := [("k", 8)]) (g := gName 8) (tt := tYes) rfl nd (pi_range1 (by rfl) T.range (pa_cons pe_int pa_nil)) (blkOk_by (N := NL) (sc := defScope sLaw) (by decide +kernel)) (fun _ _ _ _ _ => pg_name (i := 8) nd rfl (.inl rfl)) (fun _ _ _ _ _ => pts_nil)
            (fun _ _ _ _ _ => pe_tup (pa_cons (pe_op op_mulS pe_str (pv 8)) (pa_cons (pv 8) pa_nil))))) pa_nil)))
      (pss_cons (ps_set (i := 5) nd rfl (.inl rfl) (pe_make M GI hr (by rfl) mgC bI .nil pass0 (pa_cons pe_int (pa_cons (pv 4) pa_nil))))
      (pss_cons (ps_for PassesOwn.never rfl (pi_range1 (by rfl) T.range (pa_cons pe_int pa_nil)) (pg_name (i := 8) nd rfl (.inl rfl))
        (pss_one (ps_for PassesOwn.never rfl (pi_tup (pe_tup (pa_cons (pe_op op_add_str (pe_op op_mulS pe_str (pv 8)) (pe_op op_mulS pe_str (pe_op op_sub pe_int (pv 8)))) (pa_cons (pe_op op_mulS pe_str (pv 8)) (pa_cons (pe_op op_mulS pe_str (pv 8)) pa_nil))))) (pg_name (i := 7) nd rfl (.inl rfl))
          (pss_one (ps_if (pt_cmpR op_ne (pe_meth (pv 5) TC.cl mL GL hr6 bL .nil pass0 (pa_cons (pv 7) pa_nil)) (pe_call GM hr6 (by rfl) gM FM.kp bM .nil pass0 (pa_cons (pv 4) (pa_cons (pv 7) pa_nil))) (nomark _)) (pss_one (ps_ret pe_bl)) pss_nil)))))
      (pss_one (ps_ret pe_bl)))))), ?_⟩
    refine ⟨.ref a, rfl, a, ns, rfl, hS, hlen, fun H0 p c sm0 np nc hp => ?_⟩
    refine ⟨6, rfl, by decide, by decide, for_range (n := 6) (fun i σ H' => (∃ x2 x3 x4 x5 x6 x7 x8, σ = [some (.ref a), some (.ref p), x2, x3, x4, x5, x6, x7, x8, none, none]) ∧ ∃ m, m.length ≤ 1 ∧ Pen H' p c (500 * i) m) ⟨⟨_, _, _, _, _, _, _, rfl⟩, [], by decide, hp⟩ ?_ ?_⟩
    · rintro i σ H1 hi ⟨⟨x2, x3, x4, x5, x6, x7, x8, rfl⟩, m, hm, hp1⟩
      refine ⟨.ref p, rfl, p, c, 500 * i, m, rfl, hp1, by show 500 * i + 100 ≤ 1000000000000; omega, hm, fun z m' H2 b2 p2 hm' z1 z32 => ?_⟩
      refine ⟨.ref p, rfl, .int z, rfl, p, c, _, z, m', rfl, p2, by show 500 * i + 1 + 1000 ≤ 1000000000000; omega, z32, fun d xs kvs H3 b3 nd3 hd ok hx7 p3 => ?_⟩
      have dp : d ≠ p := p2.ne_p nd3
      refine ⟨.int z, rfl, .ref d, rfl, fun x dx nx ndx nex => ?_⟩
      have dx1 : d ≠ x := ne_of_none hd nx
      have dx2 : d ≠ dx := ne_of_none hd ndx
      refine ⟨x, dx, d, z, xs, kvs, rfl, upd_same, z1, z32, by rw [upd_ne dx1, upd_ne dx2]; exact hd, ok, by omega, fun e ys kvs' H4 ne hs hmap keep => ⟨rfl, ?_⟩⟩
      have s4 : Same H3 H4 := Same.made nx ndx keep
      have xp : x ≠ p := p3.ne_p nx
      have ep : e ≠ p := p3.ne_p (upd_free (upd_free ne).2).2
      have hd4 := s4 _ _ hd
      have p4 := p3.keep s4
      have sp4 : ∀ x ∈ ys, Sm 100 x := fun y hy => by
        have hy' := hs.perm.mem_iff.mp hy
        exact ⟨Nat.le_trans (ok.pfx.len y hy') (by omega), bits_sm (ok.pfx.bits y hy')⟩
      -- spots
      refine ⟨fun σ H5 => ∃ G vs, σ = [some (.ref a), some (.ref p), some (.int (0 + i)), some (.int z), some (.ref d), some (.ref x), some (.ref G), x7, x8, none, none] ∧ H5 G = some (.lst vs) ∧ AllS z vs ∧ vs.length ≤ 21 ∧ Same H4 H5 ∧ G ≠ p, ?_, ?_⟩
      · refine ⟨.ref d, rfl, d, kvs, rfl, hd4, fun A nA => ?_⟩
        rw [keys_strs ok.keys]
        have sA := same_upd (o := .lst (xs.map V.str)) nA
        refine lock_keys (f := fun y => cutS y none (some (-1))) (sA _ _ hd4) ok.keys (by omega) (fun H' Q' h => ⟨.ref d, rfl, h⟩) (fun y hy H' Q' h => ⟨.str y, rfl, 1, rfl, _, rfl, y, rfl, big_of (Nat.le_trans (ok.pfx.len y hy) (by omega)), h⟩) fun B H5 nB sB hB => ?_
        have a1 : AllS z (xs.map fun y => V.str (cutS y none (some (-1)))) := fun v hv => by
          obtain ⟨y, hy, rfl⟩ := List.mem_map.mp hv
          exact ⟨_, rfl, bits_cut (ok.pfx.bits y hy) _ _, Nat.le_trans (cutS_length _ _ _) (ok.pfx.len y hy)⟩
        refine ⟨A, B, _, _, rfl, rfl, sB _ _ upd_same, hB, big_of (by rw [List.length_map, List.length_map]; omega), fun C1 nC1 => ?_⟩
        have sC1 := same_upd (o := .lst (xs.map V.str ++ xs.map fun y => V.str (cutS y none (some (-1))))) nC1
        refine lock_keys (f := fun y => cutS (y ++ "10") none (some (z : Int))) (sC1 _ _ (sB _ _ (sA _ _ hd4))) ok.keys (by omega) (fun H' Q' h => ⟨.ref d, rfl, h⟩) (fun y hy H' Q' h => ?_) fun B2 H6 nB2 sB2 hB2 => ?_
        · have hly := ok.pfx.len y hy
          have e2 : ((("10" : String) : Str)).length = 2 := by decide +kernel
          exact ⟨.str y, rfl, _, _, rfl, rfl, by rw [e2]; exact big_of (by omega), .int z, rfl, z, rfl, _, rfl, by rw [strLen_append, e2]; exact big_of (by omega), h⟩
        have a2 : AllS z (xs.map fun y => V.str (cutS (y ++ "10") none (some (z : Int)))) := fun v hv => by
          obtain ⟨y, hy, rfl⟩ := List.mem_map.mp hv
          exact ⟨_, rfl, bits_cut (bits_app (ok.pfx.bits y hy) (by decide +kernel)) _ _, take_len _ _⟩
        refine ⟨C1, B2, _, _, rfl, rfl, sB2 _ _ upd_same, hB2, big_of (by rw [List.length_append, List.length_map, List.length_map, List.length_map]; omega), fun G nG => ?_⟩
        refine ⟨G, _, rfl, upd_same, ((AllS.strs ok.pfx).app a1).app a2, by rw [List.length_append, List.length_append, List.length_map, List.length_map, List.length_map]; omega, sA.trans (sB.trans (sC1.trans (sB2.trans (same_upd nG)))), ?_⟩
        exact (p4.keep (sA.trans (sB.trans (sC1.trans sB2)))).ne_p nG
      · rintro σ H5 ⟨G, vs, rfl, hG, aG, lG, s5, Gp⟩
        have p5 := p4.keep s5
        refine ⟨fun σ H6 => ∃ G vs, σ = [some (.ref a), some (.ref p), some (.int (0 + i)), some (.int z), some (.ref d), some (.ref x), some (.ref G), x7, x8, none, none] ∧ H6 G = some (.lst vs) ∧ AllS z vs ∧ vs.length ≤ 30 ∧ But p H4 H6 ∧ Pen H6 p c (500 * (i + 1)) m', ?_, ?_⟩
        · refine ⟨.ref G, rfl, 6, rfl, by decide, by decide, fun D nD => lc_range (n := 6) (fun j H' => ∃ us, H' D = some (.lst us) ∧ us.length = j ∧ AllS z us ∧ But p H5 H' ∧ Pen H' p c (500 * i + 201 + j * 33) m') ?_ ?_ ?_⟩
          · exact ⟨[], upd_same, rfl, .nil, .of_same (same_upd nD), p5.off (p5.ne_p nD) (p5.ne_c nD)⟩
          · rintro j H' hj ⟨us, hD, hul, hus, bH, pH⟩
            refine ⟨rfl, yes_if ?_⟩
            refine ⟨.ref p, rfl, .int z, rfl, p, c, _, z, m', rfl, pH, by show 500 * i + 201 + j * 33 + 100 ≤ 1000000000000; omega, by omega, fun y H'' b p' hb hl => ?_⟩
            refine ⟨us, b D _ (p5.ne_p nD) hD, big_lt (by omega), us ++ [.str y], upd_same, by rw [List.length_append, hul]; rfl, hus.app (.one hb hl), ?_, (p'.mono (by omega)).off (p5.ne_p nD) (p5.ne_c nD)⟩
            intro b' o nb ha
            rw [upd_ne (ne_of_none ha nD)]
            exact b b' o nb (bH b' o nb ha)
          · rintro H' ⟨us, hD, hul, hus, bH, pH⟩
            refine ⟨G, D, vs, us, rfl, rfl, bH _ _ Gp hG, hD, big_of (by omega), fun G1 nG1 => ?_⟩
            have s1 := same_upd (o := .lst (vs ++ us)) nG1
            refine ⟨.int z, rfl, "0", z, rfl, rfl, mul_ok1 (by decide +kernel) (by omega), .int z, rfl, "1", z, rfl, rfl, mul_ok1 (by decide +kernel) (by omega), by show 3 ≤ sizeLine; decide, fun J nJ => ?_⟩
            have s2 := same_upd (o := .lst [.str (Txt.mul "0" z), .str (Txt.mul "1" z), .str ""]) nJ
            refine ⟨G1, J, _, _, rfl, rfl, s2 _ _ upd_same, upd_same, big_of (by rw [List.length_append]; show vs.length + us.length + 3 ≤ 1000; omega), fun G2 nG2 => ?_⟩
            have s3 := same_upd (o := .lst (vs ++ us ++ [.str (Txt.mul "0" z), .str (Txt.mul "1" z), .str ""])) nG2
            have a3 : AllS z [.str (Txt.mul "0" z), .str (Txt.mul "1" z), .str ""] :=
              AllS.app (.one (zeros_bits z).1 (Nat.le_of_eq (zeros_bits z).2)) (AllS.app (.one (ones_bits z).1 (Nat.le_of_eq (ones_bits z).2)) (.one bits_empty (Nat.zero_le _)))
            exact ⟨G2, _, rfl, upd_same, (aG.app hus).app a3, by rw [List.length_append, List.length_append]; show vs.length + us.length + 3 ≤ 30; omega, (But.of_same s5).trans (bH.trans (.of_same (s1.trans (s2.trans s3)))), (pH.keep (s1.trans (s2.trans s3))).mono (by omega)⟩
        · rintro σ H6 ⟨G, vs, rfl, hG, aG, lG, b6, p6⟩
          refine ⟨.ref G, rfl, .ref G, rfl, G, vs, rfl, SqL.of hG, fun R nR => ?_⟩
          have sR := same_upd (o := .lst vs.reverse) nR
          refine ⟨G, R, _, _, rfl, rfl, sR _ _ hG, upd_same, big_of (by rw [List.length_reverse]; omega), fun Z nZ => ?_⟩
          have sZ := same_upd (o := .lst (vs ++ vs.reverse)) nZ
          have aZ : AllS z (vs ++ vs.reverse) := aG.app aG.rev
          have bZ : But p H4 (upd (upd H6 R (.lst vs.reverse)) Z (.lst (vs ++ vs.reverse))) := b6.trans (.of_same (sR.trans sZ))
          have pZ := p6.keep (sR.trans sZ)
          have hZ : (upd (upd H6 R (.lst vs.reverse)) Z (.lst (vs ++ vs.reverse))) Z = some (.lst (vs ++ vs.reverse)) := upd_same
          revert bZ pZ hZ aZ
          generalize upd (upd H6 R (.lst vs.reverse)) Z (.lst (vs ++ vs.reverse)) = HZ
          generalize vs ++ vs.reverse = us
          intro aZ bZ pZ hZ
          have hmZ : MapAt C HZ x e z kvs' := hmap.but bZ xp ep
          refine ⟨Z, rfl, ⟨_, SqL.of hZ⟩, for_list (K := K) (a := Z) (xs := us) (fun _ σ H' => (∃ x7, σ = [some (.ref a), some (.ref p), some (.int (0 + i)), some (.int z), some (.ref d), some (.ref x), some (.ref G), x7, x8, none, none]) ∧ H' = HZ) ⟨⟨_, rfl⟩, rfl⟩ (fun _ _ _ _ h => by rw [h.2]; exact SqL.of hZ) ?_ ?_⟩
          · rintro j v σ H' hv ⟨⟨x7', rfl⟩, rfl⟩
            obtain ⟨y, rfl, hyb, hyl⟩ := aZ v (List.mem_of_getElem? hv)
            obtain ⟨dx', hx'⟩ := hmZ.ob
            refine ⟨.ref x, rfl, x, dx', _, rfl, hx', flds_no _ _ (by decide +kernel) (by decide +kernel), .str y, rfl, x, e, z, ys, kvs', y, rfl, hmZ, hs.keys, hyb, hyl, z32, fun r hr => ?_⟩
            obtain ⟨dd, hdd, okd⟩ := dr_opt (K := K) (H := H') (N := fun _ => True) r (fun w hw => by subst hw; exact sp4 w hr.1)
            refine ⟨_, dd, _, rfl, hdd, okd.sh, Nat.le_trans okd.dp (by decide), Nat.le_trans okd.ln (by decide), ?_⟩
            refine ⟨.ref d, rfl, .str y, rfl, d, xs, kvs, y, rfl, bZ _ _ dp hd4, ok.keys, by omega, fun w hw => Nat.le_trans (ok.pfx.len w hw) (by omega), fun r' hr' => ?_⟩
            have er : r = r' := hr.uniq (fun w => hs.perm.mem_iff) hr'
            subst er
            exact ⟨_, dd, _, rfl, hdd, okd.sh, Nat.le_trans okd.dp (by decide), Nat.le_trans okd.ln (by decide), rfl, _, rfl, iteNS rfl ⟨⟨_, rfl⟩, rfl⟩⟩
          · rintro σ H' ⟨⟨x7', rfl⟩, rfl⟩
            exact ⟨⟨_, _, _, _, _, _, _, rfl⟩, m', hm', pZ⟩
    · rintro σ H1 ⟨⟨x2, x3, x4, x5, x6, x7, x8, rfl⟩, _⟩
      -- the second map
      refine ⟨fun σ H' => ∃ d kvs xs, σ = [some (.ref a), some (.ref p), x2, x3, some (.ref d), x5, x6, x7, x8, none, none] ∧ H' d = some (.dK kvs) ∧ RowsOk 32 isIntV xs kvs ∧ xs.length ≤ 40, ?_, ?_⟩
      · refine ⟨31, rfl, by decide, by decide, fun D nD => lc_range (n := 31) (fun j H' => ∃ xs ps kvs, PairsAt K H' D isIntV xs ps kvs ∧ ps.length = j ∧ (∀ x ∈ xs, isBits x = true ∧ x.length ≤ 32)) ?_ ?_ ?_⟩
        · exact ⟨[], [], [], ⟨upd_same, .nil, rfl, fun _ h => absurd h List.not_mem_nil⟩, rfl, fun _ h => absurd h List.not_mem_nil⟩
        · rintro j H' hj ⟨xs, ps, kvs, hps, hpl, hxs⟩
          refine ⟨rfl, yes_if ?_⟩
          have ej : (0 : Int) + (j : Nat) = (j : Int) := Int.zero_add _
          rw [ej]
          have z1 := zeros_bits j
          have e1 : ((("1" : String) : Str)).length = 1 := by decide +kernel
          refine ⟨.int j, rfl, "0", j, rfl, rfl, mul_ok1 (by decide +kernel) (by omega), _, _, rfl, rfl, by rw [z1.2, e1]; exact big_of (by omega), 32, rfl, _, rfl, by rw [strLen_append, z1.2, e1]; exact big_of (by omega), .int j, rfl, by show 2 ≤ sizeLine; decide, fun t nt => ?_⟩
          refine ⟨_, same_upd nt _ _ hps.at_, big_lt (by rw [List.length_map]; omega), _, _, _, hps.snoc (v := .int j) (show isIntV (.int j) from trivial) nt, by rw [List.length_append, hpl]; rfl, fun x hx => ?_⟩
          rcases List.mem_append.mp hx with hx | hx
          · exact hxs x hx
          · rw [List.mem_singleton.mp hx]
            exact ⟨bits_cut (bits_app z1.1 (by decide +kernel)) _ _, take_len _ 32⟩
        · rintro H' ⟨xs, ps, kvs, hps, hpl, hxs⟩
          refine ⟨9, rfl, by decide, by decide, fun D2 nD2 => lc_range (n := 9) (fun j H'' => ∃ xs2 ps2 kvs2, PairsAt K H'' D2 isIntV xs2 ps2 kvs2 ∧ ps2.length = j ∧ (∀ x ∈ xs2, isBits x = true ∧ x.length ≤ 32) ∧ PairsAt K H'' D isIntV xs ps kvs ∧ D ≠ D2) ?_ ?_ ?_⟩
          · exact ⟨[], [], [], ⟨upd_same, .nil, rfl, fun _ h => absurd h List.not_mem_nil⟩, rfl, fun _ h => absurd h List.not_mem_nil, hps.same (same_upd nD2), ne_of_none hps.at_ nD2⟩
          · rintro j H'' hj ⟨xs2, ps2, kvs2, hps2, hpl2, hxs2, hq, nDD⟩
            refine ⟨rfl, yes_if ?_⟩
            have ej : (0 : Int) + (j : Nat) = (j : Int) := Int.zero_add _
            rw [ej]
            have z1 := ones_bits j
            refine ⟨.int j, rfl, "1", j, rfl, rfl, mul_ok1 (by decide +kernel) (by omega), .int j, rfl, by show 2 ≤ sizeLine; decide, fun t nt => ?_⟩
            refine ⟨_, same_upd nt _ _ hps2.at_, big_lt (by rw [List.length_map]; omega), _, _, _, hps2.snoc (v := .int j) (show isIntV (.int j) from trivial) nt, by rw [List.length_append, hpl2]; rfl, fun x hx => ?_, ?_, nDD⟩
            · rcases List.mem_append.mp hx with hx | hx
              · exact hxs2 x hx
              · rw [List.mem_singleton.mp hx]
                exact ⟨z1.1, by rw [z1.2]; omega⟩
            · exact (hq.same (same_upd nt)).but (p := D2) .upd (same_upd nt _ _ hps2.at_) nDD
          · rintro H'' ⟨xs2, ps2, kvs2, hps2, hpl2, hxs2, hq, nDD⟩
            refine ⟨D, D2, _, _, rfl, rfl, hq.at_, hps2.at_, big_of (by rw [List.length_map, List.length_map]; omega), fun G nG => ?_⟩
            have sG := same_upd (o := .lst (ps.map V.ref ++ ps2.map V.ref)) nG
            refine ⟨G, ps ++ ps2, kvs ++ kvs2, rfl, SqL.of (by rw [upd_same, List.map_append]), paired_app (hq.same sG).prs (hps2.same sG).prs, fun d nd' => ?_⟩
            have acc : RowsAcc 32 isIntV (mergeK [] (kvs ++ kvs2)) := RowsAcc.merge ⟨List.nodup_nil, fun _ h => absurd h List.not_mem_nil⟩ fun kv hkv => by
              have hval : isIntV kv.2 := (List.mem_append.mp hkv).elim (hq.val kv) (hps2.val kv)
              have hkey : kv.1 ∈ (xs ++ xs2).map Sum.inr := by
                rw [List.map_append, ← hq.keys, ← hps2.keys, ← List.map_append]
                exact List.mem_map.mpr ⟨kv, hkv, rfl⟩
              obtain ⟨y, hy, ey⟩ := List.mem_map.mp hkey
              have hb : isBits y = true ∧ y.length ≤ 32 := (List.mem_append.mp hy).elim (hxs y) (hxs2 y)
              exact ⟨y, ey.symm, hb.1, hb.2, hval⟩
            obtain ⟨xs3, ok3, hl3⟩ := acc.ok
            refine ⟨d, _, xs3, rfl, upd_same, ok3, ?_⟩
            have h1 := length_mergeK (kvs ++ kvs2) []
            have h2 := hq.prs.length
            have h3 := hps2.prs.length
            rw [List.length_append] at h1
            show xs3.length ≤ 40
            rw [hl3]
            have : ([] : List (Key × V)).length = 0 := rfl
            omega
      · rintro σ H2 ⟨d, kvs, xs, rfl, hd, ok, hx40⟩
        refine ⟨.ref d, rfl, fun x dx nx ndx nex => ?_⟩
        have dx1 : d ≠ x := ne_of_none hd nx
        have dx2 : d ≠ dx := ne_of_none hd ndx
        refine ⟨x, dx, d, 32, xs, kvs, rfl, upd_same, by decide, by decide, by rw [upd_ne dx1, upd_ne dx2]; exact hd, ok, by omega, fun e ys kvs' H4 ne hs hmap keep => ⟨rfl, ?_⟩⟩
        have s4 : Same H2 H4 := Same.made nx ndx keep
        have hd4 := s4 _ _ hd
        refine ⟨33, rfl, by decide, by decide, for_range (n := 33) (fun j σ H' => (∃ x7 x8, σ = [some (.ref a), some (.ref p), x2, x3, some (.ref d), some (.ref x), x6, x7, x8, none, none]) ∧ Same H4 H') ⟨⟨_, _, rfl⟩, .refl _⟩ ?_ ?_⟩
        · rintro j σ H5 hj ⟨⟨x7', x8', rfl⟩, s5⟩
          have ej : (0 : Int) + (j : Nat) = (j : Int) := Int.zero_add _
          rw [ej]
          have z1 := zeros_bits j
          have z2 := ones_bits j
          obtain ⟨jj, hjj, hjl⟩ : ∃ jj : Nat, (32 : Int) - (j : Int) = (jj : Int) ∧ j + jj = 32 := ⟨32 - j, by omega, by omega⟩
          have z3 := ones_bits jj
          refine ⟨.int j, rfl, "0", j, rfl, rfl, mul_ok1 (by decide +kernel) (by omega), .int j, rfl, _, _, rfl, rfl, "1", jj, rfl, by show V.int ((32 : Int) - (j : Int)) = V.int (jj : Int); rw [hjj], mul_ok1 (by decide +kernel) (by omega), _, _, rfl, rfl, by rw [z1.2, z3.2]; exact big_of (by omega),
            .int j, rfl, "0", j, rfl, rfl, mul_ok1 (by decide +kernel) (by omega), .int j, rfl, "1", j, rfl, rfl, mul_ok1 (by decide +kernel) (by omega), by show 3 ≤ sizeLine; decide, fun Z nZ => ?_⟩
          have aZ : AllS 32 [.str (Txt.mul "0" j ++ Txt.mul "1" jj), .str (Txt.mul "0" j), .str (Txt.mul "1" j)] :=
            AllS.app (.one (bits_app z1.1 z3.1) (by rw [strLen_append, z1.2, z3.2]; omega)) (AllS.app (.one z1.1 (by rw [z1.2]; omega)) (.one z2.1 (by rw [z2.2]; omega)))
          have sZ := same_upd (o := .tup [.str (Txt.mul "0" j ++ Txt.mul "1" jj), .str (Txt.mul "0" j), .str (Txt.mul "1" j)]) nZ
          have hZ : (upd H5 Z (.tup [.str (Txt.mul "0" j ++ Txt.mul "1" jj), .str (Txt.mul "0" j), .str (Txt.mul "1" j)])) Z = some (.tup [.str (Txt.mul "0" j ++ Txt.mul "1" jj), .str (Txt.mul "0" j), .str (Txt.mul "1" j)]) := upd_same
          revert aZ sZ hZ
          generalize ([.str (Txt.mul "0" j ++ Txt.mul "1" jj), .str (Txt.mul "0" j), .str (Txt.mul "1" j)] : List V) = us
          generalize upd H5 Z (.tup us) = HZ
          intro aZ sZ hZ
          have hmZ : MapAt C HZ x e 32 kvs' := (hmap.same s5).same sZ
          refine ⟨Z, rfl, ⟨us, .inl (.inl hZ)⟩, for_tup (K := K) (a := Z) (xs := us) (fun _ σ H' => (∃ x7, σ = [some (.ref a), some (.ref p), x2, x3, some (.ref d), some (.ref x), x6, x7, some (.int j), none, none]) ∧ H' = HZ) ⟨⟨_, rfl⟩, rfl⟩ (fun _ _ _ _ h => by rw [h.2]; exact .inl (.inl hZ)) ?_ ?_⟩
          · rintro jj v σ H' hv ⟨⟨x7'', rfl⟩, rfl⟩
            obtain ⟨y, rfl, hyb, hyl⟩ := aZ v (List.mem_of_getElem? hv)
            obtain ⟨dx', hx'⟩ := hmZ.ob
            refine ⟨.ref x, rfl, x, dx', _, rfl, hx', flds_no _ _ (by decide +kernel) (by decide +kernel), .str y, rfl, x, e, 32, ys, kvs', y, rfl, hmZ, hs.keys, hyb, hyl, by decide, fun r hr => ?_⟩
            refine ⟨.ref d, rfl, .str y, rfl, d, xs, kvs, y, rfl, sZ _ _ (s5 _ _ hd4), ok.keys, by omega, fun w hw => Nat.le_trans (ok.pfx.len w hw) (by omega), fun r' hr' => ?_⟩
            have er : r = r' := hr.uniq (fun w => hs.perm.mem_iff) hr'
            subst er
            refine ⟨by cases r <;> rfl, _, rfl, iteNS rfl ⟨⟨_, rfl⟩, rfl⟩⟩
          · rintro σ H' ⟨⟨x7'', rfl⟩, rfl⟩
            exact ⟨⟨_, _, rfl⟩, s5.trans sZ⟩
        · rintro σ H5 ⟨⟨x7', x8', rfl⟩, s5⟩
          exact q _
end
theorem all_mk {l : PySem.W.OpenLaw} {w : World} {K : PySem.W.Frag} {h : Heap} {mg : Str → Option Value} {fa fW fV fH fI fP fN fD fB fS fX fU fM fL fT fK fLo CC : Addr} (X : K.In h) (G : h.Ns mainGlobals mg) (hfa : mg "law" = some (.ref fa))
    {odW anW odV anV odH anH odI anI odP anP odN anN odD anD odB anB odS anS odX anX odU anU odM anM odL anL odT anT odK anK odLo anLo : Option Addr} {slW slV slH slI slP slN slD slB slS slX slU slM slL slT slK slLo : Array (Option Value)} {ocW kVW dcW pmW cdW ctW ocV kVV dcV pmV cdV ctV ocH kVH dcH pmH cdH ctH ocI kVI dcI pmI cdI ctI ocP kVP dcP pmP cdP ctP ocN kVN dcN pmN cdN ctN ocD kVD dcD pmD cdD ctD ocB kVB dcB pmB cdB ctB ocS kVS dcS pmS cdS ctS ocX kVX dcX pmX cdX ctX ocU kVU dcU pmU cdU ctU ocM kVM dcM pmM cdM ctM ocL kVL dcL pmL cdL ctL ocT kVT dcT pmT cdT ctT ocK kVK dcK pmK cdK ctK ocLo kVLo dcLo pmLo cdLo ctLo : Value} {tkZ : Tok}
    (aW : PySem.W.nsIn K mainGlobals "is_whole" = some (some (.ref fW)))
    (lW : K.lookup fW = some ⟨ocW, odW, .func (PySem.W.fnOf "is_whole" "is_whole" (defArgs sWhole) (defBody sWhole) (defScope sWhole) .none kVW dcW pmW anW cdW ctW), slW⟩)
    (cW : PySem.W.codeIn K cdW "is_whole" = true) (kW : PySem.W.keepIn K (.ref fW) = true)
    (aV : PySem.W.nsIn K mainGlobals "is_width" = some (some (.ref fV)))
    (lV : K.lookup fV = some ⟨ocV, odV, .func (PySem.W.fnOf "is_width" "is_width" (defArgs sWidth) (defBody sWidth) (defScope sWidth) .none kVV dcV pmV anV cdV ctV), slV⟩)
    (cV : PySem.W.codeIn K cdV "is_width" = true) (kV : PySem.W.keepIn K (.ref fV) = true)
    (aH : PySem.W.nsIn K mainGlobals "has_only" = some (some (.ref fH)))
    (lH : K.lookup fH = some ⟨ocH, odH, .func (PySem.W.fnOf "has_only" "has_only" (defArgs sHas) (defBody sHas) (defScope sHas) .none kVH dcH pmH anH cdH ctH), slH⟩)
    (cH : PySem.W.codeIn K cdH "has_only" = true) (kH : PySem.W.keepIn K (.ref fH) = true)
    (aI : PySem.W.nsIn K mainGlobals "is_prefix" = some (some (.ref fI)))
    (lI : K.lookup fI = some ⟨ocI, odI, .func (PySem.W.fnOf "is_prefix" "is_prefix" (defArgs sPfx) (defBody sPfx) (defScope sPfx) .none kVI dcI pmI anI cdI ctI), slI⟩)
    (cI : PySem.W.codeIn K cdI "is_prefix" = true) (kI : PySem.W.keepIn K (.ref fI) = true)
    (aP : PySem.W.nsIn K mainGlobals "_law_pen" = some (some (.ref fP)))
    (lP : K.lookup fP = some ⟨ocP, odP, .func (PySem.W.fnOf "_law_pen" "_law_pen" (defArgs sPen) (defBody sPen) (defScope sPen) .none kVP dcP pmP anP cdP ctP), slP⟩)
    (cP : PySem.W.codeIn K cdP "_law_pen" = true) (kP : PySem.W.keepIn K (.ref fP) = true)
    (aN : PySem.W.nsIn K mainGlobals "_law_next" = some (some (.ref fN)))
    (lN : K.lookup fN = some ⟨ocN, odN, .func (PySem.W.fnOf "_law_next" "_law_next" (defArgs sNext) (defBody sNext) (defScope sNext) .none kVN dcN pmN anN cdN ctN), slN⟩)
    (cN : PySem.W.codeIn K cdN "_law_next" = true) (kN : PySem.W.keepIn K (.ref fN) = true)
    (aD : PySem.W.nsIn K mainGlobals "_law_draw" = some (some (.ref fD)))
    (lD : K.lookup fD = some ⟨ocD, odD, .func (PySem.W.fnOf "_law_draw" "_law_draw" (defArgs sDraw) (defBody sDraw) (defScope sDraw) .none kVD dcD pmD anD cdD ctD), slD⟩)
    (cD : PySem.W.codeIn K cdD "_law_draw" = true) (kD : PySem.W.keepIn K (.ref fD) = true)
    (aB : PySem.W.nsIn K mainGlobals "_law_bits" = some (some (.ref fB)))
    (lB : K.lookup fB = some ⟨ocB, odB, .func (PySem.W.fnOf "_law_bits" "_law_bits" (defArgs sBits) (defBody sBits) (defScope sBits) .none kVB dcB pmB anB cdB ctB), slB⟩)
    (cB : PySem.W.codeIn K cdB "_law_bits" = true) (kB : PySem.W.keepIn K (.ref fB) = true)
    (aS : PySem.W.nsIn K mainGlobals "_law_size" = some (some (.ref fS)))
    (lS : K.lookup fS = some ⟨ocS, odS, .func (PySem.W.fnOf "_law_size" "_law_size" (defArgs sSize) (defBody sSize) (defScope sSize) .none kVS dcS pmS anS cdS ctS), slS⟩)
    (cS : PySem.W.codeIn K cdS "_law_size" = true) (kS : PySem.W.keepIn K (.ref fS) = true)
    (aX : PySem.W.nsIn K mainGlobals "_law_prefixes" = some (some (.ref fX)))
    (lX : K.lookup fX = some ⟨ocX, odX, .func (PySem.W.fnOf "_law_prefixes" "_law_prefixes" (defArgs sPrefixes) (defBody sPrefixes) (defScope sPrefixes) .none kVX dcX pmX anX cdX ctX), slX⟩)
    (cX : PySem.W.codeIn K cdX "_law_prefixes" = true) (kX : PySem.W.keepIn K (.ref fX) = true)
    (aU : PySem.W.nsIn K mainGlobals "_law_numbers" = some (some (.ref fU)))
    (lU : K.lookup fU = some ⟨ocU, odU, .func (PySem.W.fnOf "_law_numbers" "_law_numbers" (defArgs sNumbers) (defBody sNumbers) (defScope sNumbers) .none kVU dcU pmU anU cdU ctU), slU⟩)
    (cU : PySem.W.codeIn K cdU "_law_numbers" = true) (kU : PySem.W.keepIn K (.ref fU) = true)
    (aM : PySem.W.nsIn K mainGlobals "_law_match" = some (some (.ref fM)))
    (lM : K.lookup fM = some ⟨ocM, odM, .func (PySem.W.fnOf "_law_match" "_law_match" (defArgs sMatch) (defBody sMatch) (defScope sMatch) .none kVM dcM pmM anM cdM ctM), slM⟩)
    (cM : PySem.W.codeIn K cdM "_law_match" = true) (kM : PySem.W.keepIn K (.ref fM) = true)
    (aL : PySem.W.nsIn K mainGlobals "law" = some (some (.ref fL)))
    (lL : K.lookup fL = some ⟨ocL, odL, .func (PySem.W.fnOf "law" "law" (defArgs sLaw) (defBody sLaw) (defScope sLaw) .none kVL dcL pmL anL cdL ctL), slL⟩)
    (cL : PySem.W.codeIn K cdL "law" = true) (kL : PySem.W.keepIn K (.ref fL) = true)
    (aC : PySem.W.nsIn K mainGlobals "PrefixMap" = some (some (.ref CC))) (pgC : PySem.W.plainGet K CC Str.empty = true) (hdC : PySem.W.hasDictIn K CC = true) (poC : PySem.W.plainOver K CC = true) (saC : PySem.W.findIn K (.ref CC) "__setattr__" = some (some (.builtin "object.__setattr__"))) (mkC : PySem.W.makesIn K CC = true) (kcC : PySem.W.keepIn K (.ref CC) = true)
    (nC_width : PySem.W.findIn K (.ref CC) "_width" = some none)
    (nC_rows : PySem.W.findIn K (.ref CC) "_rows" = some none)
    (aT : PySem.W.findIn K (.ref CC) "__init__" = some (some (.ref fT))) (iT : PySem.W.isFn K (.ref fT) = true)
    (lT : K.lookup fT = some ⟨ocT, odT, .func (PySem.W.fnOf "__init__" "PrefixMap.__init__" (defArgs sInit) (defBody sInit) (defScope sInit) .none kVT dcT pmT anT cdT ctT), slT⟩)
    (cT : PySem.W.codeIn K cdT "PrefixMap.__init__" = true) (kT : PySem.W.keepIn K (.ref fT) = true)
    (aK : PySem.W.findIn K (.ref CC) "_checked" = some (some (.ref fK))) (iK : PySem.W.isFn K (.ref fK) = true)
    (lK : K.lookup fK = some ⟨ocK, odK, .func (PySem.W.fnOf "_checked" "PrefixMap._checked" (defArgs sChk) (defBody sChk) (defScope sChk) .none kVK dcK pmK anK cdK ctK), slK⟩)
    (cK : PySem.W.codeIn K cdK "PrefixMap._checked" = true) (kK : PySem.W.keepIn K (.ref fK) = true)
    (aLo : PySem.W.findIn K (.ref CC) "longest" = some (some (.ref fLo))) (iLo : PySem.W.isFn K (.ref fLo) = true)
    (lLo : K.lookup fLo = some ⟨ocLo, odLo, .func (PySem.W.fnOf "longest" "PrefixMap.longest" (defArgs sLongest) (defBody sLongest) (defScope sLongest) .none kVLo dcLo pmLo anLo cdLo ctLo), slLo⟩)
    (cLo : PySem.W.codeIn K cdLo "PrefixMap.longest" = true) (kLo : PySem.W.keepIn K (.ref fLo) = true)
    (vZ : PySem.W.nsIn K mainGlobals "WIDEST" = some (some (.int 32 tkZ)))
    (z0 : PySem.W.nsIn K mainGlobals "list" = some none)
    (z1 : PySem.W.nsIn K mainGlobals "len" = some none)
    (z2 : PySem.W.nsIn K mainGlobals "range" = some none)
    (z3 : PySem.W.nsIn K mainGlobals "dict" = some none)
    (z4 : PySem.W.nsIn K mainGlobals "isinstance" = some none)
    (z5 : PySem.W.nsIn K mainGlobals "str" = some none)
    (z6 : PySem.W.nsIn K mainGlobals "repr" = some none)
    (z7 : PySem.W.nsIn K mainGlobals "min" = some none)
    (z8 : PySem.W.nsIn K mainGlobals "int" = some none)
    (z9 : PySem.W.nsIn K mainGlobals "bool" = some none)
    (z10 : PySem.W.nsIn K mainGlobals "sorted" = some none)
    : ∃ fd : FuncData, (∀ (s : Shared) (v : Value), BindsTo s fd ⟨[v], []⟩ [("script", v)]) ∧ ∀ base : Heap, K.In base → base.Ns mainGlobals mg → (∃ mm, base.Ns sysModules mm) → FnG l.prog w K mg base 8 fa fd ["script"] (spLaw K) := by
  have e := hfa.symm.trans (PySem.W.mg_of X G aL)
  cases e
  have FW := fun_mk (st := sWhole) lW cW kW
  have bW := FW.binds (ps := ["thing"]) fun _ _ _ _ _ _ us hl => match us, hl with | [_], _ => rfl
  have gW := PySem.W.mg_of X G aW
  have FV := fun_mk (st := sWidth) lV cV kV
  have bV := FV.binds (ps := ["thing"]) fun _ _ _ _ _ _ us hl => match us, hl with | [_], _ => rfl
  have gV := PySem.W.mg_of X G aV
  have FH := fun_mk (st := sHas) lH cH kH
  have bH := FH.binds (ps := ["text", "signs"]) fun _ _ _ _ _ _ us hl => match us, hl with | [_, _], _ => rfl
  have gH := PySem.W.mg_of X G aH
  have FI := fun_mk (st := sPfx) lI cI kI
  have bI := FI.binds (ps := ["thing", "width"]) fun _ _ _ _ _ _ us hl => match us, hl with | [_, _], _ => rfl
  have gI := PySem.W.mg_of X G aI
  have FP := fun_mk (st := sPen) lP cP kP
  have bP := FP.binds (ps := ["script"]) fun _ _ _ _ _ _ us hl => match us, hl with | [_], _ => rfl
  have gP := PySem.W.mg_of X G aP
  have FN := fun_mk (st := sNext) lN cN kN
  have bN := FN.binds (ps := ["pen"]) fun _ _ _ _ _ _ us hl => match us, hl with | [_], _ => rfl
  have gN := PySem.W.mg_of X G aN
  have FD := fun_mk (st := sDraw) lD cD kD
  have bD := FD.binds (ps := ["pen", "below"]) fun _ _ _ _ _ _ us hl => match us, hl with | [_, _], _ => rfl
  have gD := PySem.W.mg_of X G aD
  have FB := fun_mk (st := sBits) lB cB kB
  have bB := FB.binds (ps := ["pen", "size"]) fun _ _ _ _ _ _ us hl => match us, hl with | [_, _], _ => rfl
  have gB := PySem.W.mg_of X G aB
  have FS := fun_mk (st := sSize) lS cS kS
  have bS := FS.binds (ps := ["pen"]) fun _ _ _ _ _ _ us hl => match us, hl with | [_], _ => rfl
  have gS := PySem.W.mg_of X G aS
  have FX := fun_mk (st := sPrefixes) lX cX kX
  have bX := FX.binds (ps := ["pen", "size", "most"]) fun _ _ _ _ _ _ us hl => match us, hl with | [_, _, _], _ => rfl
  have gX := PySem.W.mg_of X G aX
  have FU := fun_mk (st := sNumbers) lU cU kU
  have bU := FU.binds (ps := ["pen", "size"]) fun _ _ _ _ _ _ us hl => match us, hl with | [_, _], _ => rfl
  have gU := PySem.W.mg_of X G aU
  have FM := fun_mk (st := sMatch) lM cM kM
  have bM := FM.binds (ps := ["lines", "spot"]) fun _ _ _ _ _ _ us hl => match us, hl with | [_, _], _ => rfl
  have gM := PySem.W.mg_of X G aM
  have FL := fun_mk (st := sLaw) lL cL kL
  have clC : Cls K CC := ⟨pgC, hdC, poC, saC⟩
  have gC := PySem.W.mg_of X G aC
  have FT := fun_mk (st := sInit) lT cT kT
  have bT := FT.binds (ps := ["self", "width", "rows"]) fun _ _ _ _ _ _ us hl => match us, hl with | [_, _, _], _ => rfl
  have MC : Mk K CC fT := ⟨mkC, aT, iT, kcC⟩
  have FK := fun_mk (st := sChk) lK cK kK
  have bK := FK.binds (ps := ["self", "value"]) fun _ _ _ _ _ _ us hl => match us, hl with | [_, _], _ => rfl
  have mtK : Meth K CC "_checked" fK := ⟨aK, iK, kK⟩
  have FLo := fun_mk (st := sLongest) lLo cLo kLo
  have bLo := FLo.binds (ps := ["self", "prefix"]) fun _ _ _ _ _ _ us hl => match us, hl with | [_, _], _ => rfl
  have mtLo : Meth K CC "longest" fLo := ⟨aLo, iLo, kLo⟩
  have wZ := PySem.W.mg_of X G vZ
  have m_list := PySem.W.mg_none_of X G z0
  have m_len := PySem.W.mg_none_of X G z1
  have m_range := PySem.W.mg_none_of X G z2
  have m_dict := PySem.W.mg_none_of X G z3
  have m_isinstance := PySem.W.mg_none_of X G z4
  have m_str := PySem.W.mg_none_of X G z5
  have m_repr := PySem.W.mg_none_of X G z6
  have m_min := PySem.W.mg_none_of X G z7
  have m_int := PySem.W.mg_none_of X G z8
  have m_bool := PySem.W.mg_none_of X G z9
  have m_sorted := PySem.W.mg_none_of X G z10
  refine ⟨PySem.W.fnOf "law" "law" (defArgs sLaw) (defBody sLaw) (defScope sLaw) .none kVL dcL pmL anL cdL ctL, fun s v => .of_eq rfl, fun base _ _ sys => ?_⟩
  have GP := (ok_pen (P := l.prog) (w := w) (base := base) (mg := mg) (k := 0) FP m_list).mono (show 0 + 1 ≤ 6 by decide)
  have GD := ok_draw (P := l.prog) (w := w) (base := base) (mg := mg) (k := 0) FD FN bN gN m_len
  have GI := ok_pfx (P := l.prog) (w := w) (base := base) (mg := mg) (k := 0) FI FH bH gH m_isinstance m_str m_len
  have GB := ok_bits (P := l.prog) (w := w) (base := base) (mg := mg) FB GD FD bD gD m_range
  have GS := ok_size (P := l.prog) (w := w) (base := base) (mg := mg) FS GD FD bD gD m_len
  have GX := ok_prefixes (P := l.prog) (w := w) (base := base) (mg := mg) FX (GD.mono (by decide)) FD bD gD GB FB bB gB m_range m_len m_min
  have GU := ok_numbers (P := l.prog) (w := w) (base := base) (mg := mg) FU (GD.mono (by decide)) FD bD gD GX FX bX gX m_dict
  have GW := ok_whole (P := l.prog) (w := w) (base := base) (mg := mg) (k := 0) FW m_isinstance m_int m_bool
  have GV := ok_width (P := l.prog) (w := w) (base := base) (mg := mg) FV GW FW bW gW wZ
  have TC : ClsF K CC := ⟨clC, nC_width, nC_rows⟩
  have GK := ok_chk (P := l.prog) (w := w) (base := base) (mg := mg) (C := CC) FK GW FW bW gW
  have GT := ok_init (P := l.prog) (w := w) (base := base) (mg := mg) FT TC GV FV bV gV GI FI bI gI GK mtK bK m_isinstance m_dict m_sorted
  have GL := ok_longest (P := l.prog) (w := w) (base := base) (mg := mg) FLo TC GI FI bI gI m_range m_len
  have GM := ok_match (P := l.prog) (w := w) (base := base) (mg := mg) (k := 0) FM m_len
  exact ok_law FL ⟨m_range, m_list, m_repr, m_dict⟩ sys TC gC GP FP bP gP (GS.mono (by decide)) FS bS gS (GB.mono (by decide)) FB bB gB (GU.mono (by decide)) FU bU gU MC (GT.mono (by decide)) bT mtLo (GL.mono (by decide)) bLo (GM.mono (by decide)) FM bM gM
end Kt
open PySem PySem.W PyProof.Rows
set_option maxRecDepth 100000 in
set_option maxHeartbeats 0 in
theorem PySem.Challenge.cw_keptroutes_k05_longest_prefixes_holds : PySem.Challenge.rw_keptroutes_k05_longest_prefixes.Holds := by
  w_on; o_law; k_head; (case hw => w_witness2)
  k_fill
  refine Kt.walkG (l := PySem.Challenge.rw_keptroutes_k05_longest_prefixes) (n := 63) (k := 8) (x := "script") (sp := fun w => Kt.spLaw _) rfl (by decide) rfl ?him ⟨rfl, by decide, by decide⟩ (fun w h Y => PySem.W.kIn_of Y) ?F (fun _ _ a ns hl hS => ⟨a, ns, rfl, hS, hl, fun _ => rfl⟩)
  case him => rfl
  case F =>
    intro w mg fa h KX G hmg
    refine' Kt.all_mk KX G hmg ?aW ?lW ?cW ?kW ?aV ?lV ?cV ?kV ?aH ?lH ?cH ?kH ?aI ?lI ?cI ?kI ?aP ?lP ?cP ?kP ?aN ?lN ?cN ?kN ?aD ?lD ?cD ?kD ?aB ?lB ?cB ?kB ?aS ?lS ?cS ?kS ?aX ?lX ?cX ?kX ?aU ?lU ?cU ?kU ?aM ?lM ?cM ?kM ?aL ?lL ?cL ?kL ?aC ?pgC ?hdC ?poC ?saC ?mkC ?kcC ?nC_width ?nC_rows ?aT ?iT ?lT ?cT ?kT ?aK ?iK ?lK ?cK ?kK ?aLo ?iLo ?lLo ?cLo ?kLo ?vZ ?z0 ?z1 ?z2 ?z3 ?z4 ?z5 ?z6 ?z7 ?z8 ?z9 ?z10
    (case aW => k_is); (case lW => k_is); (case cW => k_is); (case kW => k_is); (case aV => k_is); (case lV => k_is); (case cV => k_is); (case kV => k_is); (case aH => k_is); (case lH => k_is); (case cH => k_is); (case kH => k_is); (case aI => k_is); (case lI => k_is); (case cI => k_is); (case kI => k_is); (case aP => k_is); (case lP => k_is); (case cP => k_is); (case kP => k_is); (case aN => k_is); (case lN => k_is); (case cN => k_is); (case kN => k_is); (case aD => k_is); (case lD => k_is); (case cD => k_is); (case kD => k_is); (case aB => k_is); (case lB => k_is); (case cB => k_is); (case kB => k_is); (case aS => k_is); (case lS => k_is); (case cS => k_is); (case kS => k_is); (case aX => k_is); (case lX => k_is); (case cX => k_is); (case kX => k_is); (case aU => k_is); (case lU => k_is); (case cU => k_is); (case kU => k_is); (case aM => k_is); (case lM => k_is); (case cM => k_is); (case kM => k_is); (case aL => k_is); (case lL => k_is); (case cL => k_is); (case kL => k_is); (case aC => k_is); (case pgC => k_is); (case hdC => k_is); (case poC => k_is); (case saC => k_is); (case mkC => k_is); (case kcC => k_is); (case nC_width => k_is); (case nC_rows => k_is); (case aT => k_is); (case iT => k_is); (case lT => k_is); (case cT => k_is); (case kT => k_is); (case aK => k_is); (case iK => k_is); (case lK => k_is); (case cK => k_is); (case kK => k_is); (case aLo => k_is); (case iLo => k_is); (case lLo => k_is); (case cLo => k_is); (case kLo => k_is); (case vZ => k_is); (case z0 => k_is); (case z1 => k_is); (case z2 => k_is); (case z3 => k_is); (case z4 => k_is); (case z5 => k_is); (case z6 => k_is); (case z7 => k_is); (case z8 => k_is); (case z9 => k_is); (case z10 => k_is)

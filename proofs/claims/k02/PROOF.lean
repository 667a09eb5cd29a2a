import PyProof.Rows.All
import Wide.All
import OpenK.AllK
import Wide.FinOn
import HandS.ForMost
import HandS.Codes
import HandS.IsInst
import HandS.StrMore
import HandS.DictComp
import HandS.Walk
import PyProof.ReprRoads
import PySem.Challenge.RW_keptroutes_k02_prefixes_known
set_option Elab.async false
set_option linter.all false
set_option maxRecDepth 100000
set_option maxHeartbeats 4000000
namespace Kt
open PySem PySem.Spec PyProof.Rows L2
/-! ### defs that may call repr: no repr is under way around them -/
structure FnG (P : Program) (w : World) (K : PySem.W.Frag) (mg : Str → Option Value) (base : Heap) (k : Nat) (f : Addr) (fd : FuncData) (ps : List Str) (sp : Sp) : Prop where
  many : ∀ vs H Q E, sp vs H Q E → vs.length = ps.length
  go : ∀ (A : Around), A.guards = some [] → ∀ (outer : List Env) (s : Shared) (H : Hp) (args : Args) (us : List Value) (vs : List V) (Q : VK), Room k A → Env0 P w K mg base A outer s H →
    BindsTo s fd args (ps.zip us) → Vals vs us → sp vs H Q E0 → codeAny (model P w) A (.call (.ref f) args) (CR CX0 outer P w H s Q E0) s
theorem FnG.mono {P : Program} {w : World} {K : PySem.W.Frag} {mg : Str → Option Value} {base : Heap} {j k : Nat} {f : Addr} {fd : FuncData} {ps : List Str} {sp : Sp} (F : FnG P w K mg base j f fd ps sp) (h : j ≤ k) : FnG P w K mg base k f fd ps sp :=
  ⟨F.many, fun A g outer s H args us vs Q hr => F.go A g outer s H args us vs Q (hr.mono h)⟩
section
variable {P : Program} {w : World} {K : PySem.W.Frag} {mg : Str → Option Value} {base : Heap}
/-- a def's promise, from its body, where no repr is under way -/
theorem okG {x qual : Str} {st : Stmt} {f : Addr} {fd : FuncData} {N ps : List Str} {k : Nat} {sp : Sp} (F : Fun K x qual st f fd) (S : FnScope N ps (defScope st)) (many : ∀ vs H Q E, sp vs H Q E → vs.length = ps.length)
    (body : ∀ (cdv : Value) (A : Around) (outer : List Env) (s : Shared) (H : Hp) (vs : List V) (Q : VK), A.guards = some [] → Room k (A.deeper (envOfC qual (defScope st) s.heap.objs.size f cdv)) → sp vs H Q E0 →
      ∃ t, PSs (cxOf CX0 P w K mg base N qual (defScope st) f cdv A outer s H E0).nox (defBody st) t ∧ t { nx := fun _ H' => Q .non H', rt := Q } (start N vs) H) : FnG P w K mg base (k + 1) f fd ps sp := by
  obtain ⟨oc, od, kV, doc, pm, an, cdv, ct, osl, rfl, lk, hcd⟩ := F.ex
  refine ⟨many, fun A g outer s H args us vs Q room e0 bind rel want => ?_⟩
  have old : ∀ b o, base.get? b = some o → s.heap.get? b = some o := fun b o e => (e0.bs b o e).1
  have KX : K.In s.heap := e0.mod.kin.keeps old
  have lim : s.heap.NoLimit := e0.mod.nolimit.keeps old
  have kinds : ∀ y ∈ ps.zip us, (defScope st).names.lookup y.1 = some .local ∨ ((defScope st).names.lookup y.1 = some .cell ∧ ((cellsFrom (s.heap.objs.size + 1) (defScope st).names []).lookup y.1).isSome = true) := by
    rintro ⟨n, v⟩ hy
    rcases S.par n (List.of_mem_zip hy).1 with q | q
    · exact .inl q
    · exact .inr ⟨q, PySem.W.cellsFrom_some _ _ _ (.inl q)⟩
  refine codeAny_call_function room.depth (KX _ _ lk) rfl S.co S.gen rfl (PySem.W.codeRec_of KX hcd) (bind _ _ _ _ (wpAny_newFunctionEnv_cells S.kind kinds fun env he s1 x => ?_))
  subst he
  obtain ⟨t, ht, hq⟩ := body cdv A outer s H vs Q g (room.deeper _) want
  have I := inv_start (CX := CX0) (E := E0) S room.hd e0 (many _ _ _ _ want) rel x
  refine ⟨lim.keeps x.toInCall.keep, codeAny_func (wpAny_mono (ht.nox.run [] s1 (start N vs) H _ I hq) (fun fl s' hs => ?_) fun e s' hs => hs)⟩
  cases fl with
  | ret u =>
    obtain ⟨v, σ', H', J, rv, q⟩ := hs
    exact ⟨v, H', J.os, J.bare, J.base, J.hok, rv, q⟩
  | next =>
    obtain ⟨σ', H', J, q⟩ := hs
    exact ⟨V.non, H', J.os, J.bare, J.base, J.hok, rfl, q⟩
  | brk =>
    obtain ⟨_, _, _, q⟩ := hs
    exact q.elim
  | cont =>
    obtain ⟨_, _, _, q⟩ := hs
    exact q.elim
end
/-- f(a, ..) of such a def, within such a def -/
theorem pe_callG {X : Cx} {k : Nat} {f : Addr} {fd : FuncData} {ps : List Str} {sp : Sp} {x : Str} {p pos : Pos} {e : Expr} {es : List Expr} {t : TA} (F : FnG X.prog X.w X.K X.mg X.base k f fd ps sp) (g : X.A.guards = some []) (hr : Room k X.A) (hg : Gl X x) (hm : X.mg x = some (.ref f))
    (hk : PySem.W.keepIn X.K (.ref f) = true) (hb : Binds X.K fd ps []) (ha : PA X (e :: es) t) (hdb : (x == ("__debug__" : Str)) = false := by decide)
    (he : starEach (e :: es) X.env = (false, eval e X.env) :: starEach es X.env := by rfl) (hpl : (backTo pos (starEach es X.env)).any (·.1) = false := by rfl) : PE X (.Call (.Name x p) (e :: es) [] pos) (tCall sp [] E0 t) := by
  constructor
  intro pins s σ H Q I h
  refine wpAny_Call_Name_kw (ld_glob I hg hm (PySem.W.callWith_K (h₀ := X.base) I.ok.mod.kin hk (thn (ha.run pos pins s σ H _ I h) ?_) he hpl) hdb)
  rintro us s1 ⟨vs, H1, I1, r, q⟩
  refine ⟨I1.kIn, ?_⟩
  have r2 : Vals (vs ++ []) (us ++ []) := r.append .nil
  have hl : (us ++ []).length = ps.length := by rw [← r2.length]; exact F.many _ _ _ _ q
  refine wpAny_call (codeAny_mono (F.go X.A g X.stack s1 H1 ⟨us, []⟩ (us ++ []) (vs ++ []) Q hr I1.env0 (hb s1 us I1.kIn hl) r2 q) fun res s' hq => ?_)
  match res, hq with
  | .ok (.ret u), hq => exact I1.after hq
/-! ### the end of a law whose promise is of this kind -/
theorem law_callG {P : Program} {w : World} {K : PySem.W.Frag} {mg mb : Str → Option Value} {k : Nat} {fa a : Addr} {fd : FuncData} {x : Str} {sp : Sp} {s₁ : Shared} {vs : List Value} {ns : List Int}
    (KX : K.In s₁.heap) (hns : s₁.heap.Ns mainGlobals mg) (hb : s₁.heap.Ns builtinsNs mb) (hbb : ∀ x : Str, x ≠ "__name__" → mb x = bootBuiltins x) (hlim : s₁.heap.NoLimit) (hsys : ∃ mm, s₁.heap.Ns sysModules mm) (hg : s₁.gens = #[])
    (ha : s₁.heap.get? a = some { cls := .type "list", data := .seq vs.toArray }) (hi : IntsAre vs ns) (hl : ns.length ≤ sizeLine) (hr : Room k callerA)
    (F : ∀ base : Heap, K.In base → base.Ns mainGlobals mg → (∃ mm, base.Ns sysModules mm) → FnG P w K mg base k fa fd [x] sp) (hbind : ∀ (s : Shared) (u : Value), BindsTo s fd ⟨[u], []⟩ [(x, u)])
    (hsp : ∀ H : Hp, SqL K H a (ns.map V.int) → sp [.ref a] H (fun v _ => v = .bl true) E0) :
    codeAny (model P w) callerA (.call (.ref fa) ⟨[.ref a], []⟩) (fun r s' => r = .ok (.ret (.bool true)) ∧ OldK s₁.heap s'.heap ∧ s'.os = s₁.os ∧ AllBare s'.gens) s₁ := by
  have rv := vals_ints hi
  have lenV := hi.length
  have main : ∀ H : Hp, SqL K H a (ns.map V.int) → HOk P w H s₁.heap → (∀ b, H b ≠ none → b = a ∧ K.lookup a = none ∧ ∃ u, H b = some (.frz { cls := .type "list", data := .seq vs.toArray } u)) →
      codeAny (model P w) callerA (.call (.ref fa) ⟨[.ref a], []⟩) (fun r s' => r = .ok (.ret (.bool true)) ∧ OldK s₁.heap s'.heap ∧ s'.os = s₁.os ∧ AllBare s'.gens) s₁ := by
    intro H hS ok only
    have free : ∀ {b : Addr} {o : Obj}, s₁.heap.get? b = some o → (H b ≠ none → False) → (hidT s₁.heap H).get? b = some o := fun {b o} e n => hidT_get e (by
      cases q : H b with
      | none => rfl
      | some u => exact (n (by rw [q]; exact fun z => nomatch z)).elim)
    have dct : ∀ {b : Addr} {m : Str → Option Value}, s₁.heap.Ns b m → (hidT s₁.heap H).Ns b m := by
      rintro b m ⟨o, es, ep, e, d, r⟩
      refine ⟨o, es, ep, free e fun n => ?_, d, r⟩
      obtain ⟨rfl, _, _⟩ := only b n
      rw [ha] at e
      cases e
      cases d
    have kin : K.In (hidT s₁.heap H) := fun b o e => free (KX b o e) fun n => by
      obtain ⟨rfl, z, _⟩ := only b n
      rw [z] at e
      cases e
    have mod : Mod K mg (hidT s₁.heap H) := ⟨kin, dct hns, ⟨mb, dct hb, hbb⟩, by obtain ⟨mc, h1, h2⟩ := hlim; exact ⟨mc, dct h1, h2⟩⟩
    have sys : ∃ mm, (hidT s₁.heap H).Ns sysModules mm := by obtain ⟨mm, h⟩ := hsys; exact ⟨mm, dct h⟩
    have env : Env0 P w K mg (hidT s₁.heap H) callerA [] s₁ H := ⟨rfl, mod, fun _ _ => of_hidT, Nat.le_of_eq (hidT_size _ _), trivial, fun _ hb => absurd hb List.not_mem_nil, ok, .of_eq hg⟩
    refine codeAny_mono ((F _ kin (dct hns) sys).go callerA rfl [] s₁ H ⟨[.ref a], []⟩ [.ref a] [.ref a] _ hr env (hbind s₁ (.ref a)) (.cons rfl .nil) (hsp H hS)) fun r s' h => ?_
    match r, h with
    | .ok (.ret u), ⟨v, H', os, bare, un, ok', rel, q⟩ =>
      subst q
      cases (show u = Value.bool true from rel)
      refine ⟨rfl, OldK.of_keep fun b o e => ?_, os, bare⟩
      cases q : H b with
      | none => exact un.keep b o e q (fun z => nomatch z) fun z => nomatch z
      | some u =>
        obtain ⟨rfl, _, u', z⟩ := only b (by rw [q]; exact fun z => nomatch z)
        rw [ha] at e
        cases e
        exact (ok' b _ (un.frzs b _ _ z)).1
  cases hk : K.lookup a with
  | some o =>
    have e := KX a o hk
    rw [ha] at e
    cases e
    exact main (fun _ => none) (.inr ⟨_, vs.toArray, _, hk, rfl, rfl, rfl, by rw [List.size_toArray, lenV]; exact hl, rv⟩) (fun b u z => nomatch (show (none : Option HO) = some u from z)) fun b z => absurd rfl z
  | none =>
    refine main (fun b => if b = a then some (.frz { cls := .type "list", data := .seq vs.toArray } (.lst (ns.map V.int))) else none) (.inl (.inr ⟨_, if_pos rfl⟩)) (fun b u z => ?_) fun b z => ?_
    · by_cases q : b = a
      · dsimp only at z
        rw [if_pos q] at z
        cases z
        rw [q]
        exact ⟨ha, by rw [List.length_map]; exact hl, vs, _, rv, ha⟩
      · dsimp only at z
        rw [if_neg q] at z
        cases z
    · by_cases q : b = a
      · exact ⟨q, hk, _, if_pos q⟩
      · exact absurd (if_neg q) z
theorem walkG {l : PySem.W.OpenLaw} {n k : Nat} {q : Program} {loose : List Str} {XP : (Str → Option Value) → Heap → Prop} {YP : World → Heap → Prop} {d : DefRec} {K : Params → PySem.W.Frag} {sp : World → Sp} {x : Str} (hn : l.most = some n) (hn2 : n ≤ sizeLine) (hdf : d.params.defaults = [])
    (him : importsNone q = true) (hr : Room k callerA) (hY : ∀ (w : World) (h : Heap), YP w h → (K w.params).In h)
    (F : ∀ (w : World) (mg : Str → Option Value) (fa : Addr) (h : Heap), (K w.params).In h → h.Ns mainGlobals mg → mg d.name = some (.ref fa) →
      ∃ fd : FuncData, (∀ (s : Shared) (u : Value), BindsTo s fd ⟨[u], []⟩ [(x, u)]) ∧ ∀ base : Heap, (K w.params).In base → base.Ns mainGlobals mg → (∃ mm, base.Ns sysModules mm) → FnG l.prog w (K w.params) mg base k fa fd [x] (sp w))
    (hsp : ∀ (w : World) (H : Hp) (a : Addr) (ns : List Int), ns.length ≤ n → SqL (K w.params) H a (ns.map V.int) → sp w [.ref a] H (fun v _ => v = .bl true) E0) : PySem.W.WalkO q loose XP YP l.row.toRowW d [] (fun f vs => PySem.call f vs) :=
  Att.attach_call hn hdf fun w _ _ mg _ fa _ _ _ _ a _ ns G Y _ _ _ hmg hobj hints hlen hg => by
    have KX := hY w _ Y
    obtain ⟨fd, hb, hF⟩ := F w mg fa _ KX G.T.g hmg
    obtain ⟨mm, hm, _⟩ := (G.T.seer him).mods
    exact law_callG KX G.T.g G.T.b G.T.builtins G.T.nolimit ⟨mm, hm⟩ hg hobj hints (Nat.le_trans hlen hn2) hr hF hb fun H hS => hsp w H a ns hlen hS
/-! ### repr of data: none, bools, ints, texts, lists, tuples, dicts by ints and texts -/
def keyD : Key → PyData
  | .inl i => .int i
  | .inr x => .str x
mutual
/-- in the heap H the value is this data -/
inductive Dr (K : PySem.W.Frag) (H : Hp) (N : Addr → Prop) : V → PyData → Prop
  | non : Dr K H N .non .none
  | bl (b : Bool) : Dr K H N (.bl b) (.bool b)
  | int (i : Int) : Dr K H N (.int i) (.int i)
  | str (x : Str) : Dr K H N (.str x) (.str x)
  | lst {a : Addr} {xs : List V} {ds : List PyData} (n : N a) (h : SqL K H a xs) (all : DrAll K H N xs ds) : Dr K H N (.ref a) (.list ds)
  | tup {a : Addr} {xs : List V} {ds : List PyData} (n : N a) (h : SqT K H a xs) (all : DrAll K H N xs ds) : Dr K H N (.ref a) (.tuple ds)
  | dic {a : Addr} {kvs : List (Key × V)} {ds : List (PyData × PyData)} (n : N a) (h : Rd H a (.dK kvs)) (all : DrKv K H N kvs ds) : Dr K H N (.ref a) (.dict ds)
inductive DrAll (K : PySem.W.Frag) (H : Hp) (N : Addr → Prop) : List V → List PyData → Prop
  | nil : DrAll K H N [] []
  | cons {v : V} {vs : List V} {d : PyData} {ds : List PyData} (h : Dr K H N v d) (t : DrAll K H N vs ds) : DrAll K H N (v :: vs) (d :: ds)
inductive DrKv (K : PySem.W.Frag) (H : Hp) (N : Addr → Prop) : List (Key × V) → List (PyData × PyData) → Prop
  | nil : DrKv K H N [] []
  | cons {k : Key} {v : V} {kvs : List (Key × V)} {d : PyData} {ds : List (PyData × PyData)} (h : Dr K H N v d) (t : DrKv K H N kvs ds) : DrKv K H N ((k, v) :: kvs) ((keyD k, d) :: ds)
end
mutual
theorem Dr.move {K : PySem.W.Frag} {H H' : Hp} {N N' : Addr → Prop} (k : ∀ a o, N a → H a = some o → H' a = some o) (m : ∀ a, N a → N' a) : ∀ {v : V} {d : PyData}, Dr K H N v d → Dr K H' N' v d
  | _, _, .non => .non
  | _, _, .bl b => .bl b
  | _, _, .int i => .int i
  | _, _, .str x => .str x
  | _, _, .lst (a := a) n h all => .lst (m _ n) (by
    rcases h with (h | ⟨o, h⟩) | h
    · exact .inl (.inl (k _ _ n h))
    · exact .inl (.inr ⟨o, k _ _ n h⟩)
    · exact .inr h) (all.move k m)
  | _, _, .tup n h all => .tup (m _ n) (by
    rcases h with (h | ⟨o, h⟩) | h
    · exact .inl (.inl (k _ _ n h))
    · exact .inl (.inr ⟨o, k _ _ n h⟩)
    · exact .inr h) (all.move k m)
  | _, _, .dic n h all => .dic (m _ n) (by
    rcases h with h | ⟨o, h⟩
    · exact .inl (k _ _ n h)
    · exact .inr ⟨o, k _ _ n h⟩) (all.move k m)
theorem DrAll.move {K : PySem.W.Frag} {H H' : Hp} {N N' : Addr → Prop} (k : ∀ a o, N a → H a = some o → H' a = some o) (m : ∀ a, N a → N' a) : ∀ {vs : List V} {ds : List PyData}, DrAll K H N vs ds → DrAll K H' N' vs ds
  | _, _, .nil => .nil
  | _, _, .cons h t => .cons (h.move k m) (t.move k m)
theorem DrKv.move {K : PySem.W.Frag} {H H' : Hp} {N N' : Addr → Prop} (k : ∀ a o, N a → H a = some o → H' a = some o) (m : ∀ a, N a → N' a) : ∀ {kvs : List (Key × V)} {ds : List (PyData × PyData)}, DrKv K H N kvs ds → DrKv K H' N' kvs ds
  | _, _, .nil => .nil
  | _, _, .cons h t => .cons (h.move k m) (t.move k m)
end
theorem DrAll.len {K : PySem.W.Frag} {H : Hp} {N : Addr → Prop} : ∀ {vs : List V} {ds : List PyData}, DrAll K H N vs ds → vs.length = ds.length
  | _, _, .nil => rfl
  | _, _, .cons _ t => congrArg (· + 1) t.len
theorem DrAll.snoc {K : PySem.W.Frag} {H : Hp} {N : Addr → Prop} {v : V} {d : PyData} (h : Dr K H N v d) : ∀ {vs : List V} {ds : List PyData}, DrAll K H N vs ds → DrAll K H N (vs ++ [v]) (ds ++ [d])
  | _, _, .nil => .cons h .nil
  | _, _, .cons h1 t => .cons h1 (t.snoc h)
theorem DrAll.get {K : PySem.W.Frag} {H : Hp} {N : Addr → Prop} : ∀ {vs : List V} {ds : List PyData} {i : Nat} {v : V}, DrAll K H N vs ds → vs[i]? = some v → ∃ d, ds[i]? = some d ∧ Dr K H N v d
  | _, _, _, _, .nil, e => by simp at e
  | _, _, 0, _, .cons h _, e => ⟨_, rfl, by
    have e' := Option.some.inj e
    rw [← e']
    exact h⟩
  | _, _, i + 1, v, .cons _ t, e => t.get (i := i) (v := v) e
theorem read_key {h : Heap} {k : Key} {u : Value} (e : keyIs k u = true) : Reads h u (keyD k) [] := by
  rcases keyIs_shape e with ⟨i, t, rfl, rfl⟩ | ⟨x, t, rfl, rfl⟩
  · exact .int i t
  · exact .str x t
section
variable {X : Cx} {pins : List (Addr × Obj)} {σ : L2.St} {H : Hp} {s : Shared} {N : Addr → Prop}
theorem no_sys_list (I : Inv X pins σ H s) (sys : ∃ mm, X.base.Ns sysModules mm) {a : Addr} {o : Obj} {its : Array Value} {n : Nat} (e : s.heap.get? a = some o) (d : o.data = .seq its n) : a ≠ sysModules := by
  rintro rfl
  obtain ⟨mm, o', es, ep, e', d', _⟩ := sys
  rw [I.bk _ _ e'] at e
  cases e
  rw [d] at d'
  cases d'
mutual
theorem Dr.reads (I : Inv X pins σ H s) (sys : ∃ mm, X.base.Ns sysModules mm) : ∀ (d : PyData) (v : V) (u : Value), Dr X.K H N v d → RelV v u → ∃ as, Reads s.heap u d as ∧ sysModules ∉ as
  | .none, _, _, h, r => by
    cases h
    cases r
    exact ⟨_, Reads.none, List.not_mem_nil⟩
  | .bool b, _, _, h, r => by
    cases h
    cases r
    exact ⟨_, Reads.bool b, List.not_mem_nil⟩
  | .int i, _, _, h, r => by
    cases h
    obtain ⟨t, rfl⟩ := r
    exact ⟨_, Reads.int i t, List.not_mem_nil⟩
  | .str x, _, _, h, r => by
    cases h
    obtain ⟨t, rfl⟩ := r
    exact ⟨_, Reads.str x t, List.not_mem_nil⟩
  | .list ds, _, _, h, r => by
    cases h with
    | lst _ hs ha =>
      cases r
      obtain ⟨its, rv, ⟨o, n, ho, hc, _, hd⟩, _⟩ := I.list hs
      obtain ⟨as, hr, hn⟩ := DrAll.reads I sys ds _ its ha rv
      exact ⟨_, Reads.list ho hc hd hr, fun m => (List.mem_cons.mp m).elim (fun e => no_sys_list I sys ho hd e.symm) hn⟩
  | .tuple ds, _, _, h, r => by
    cases h with
    | tup _ hs ha =>
      cases r
      obtain ⟨its, rv, ⟨o, ho, hc, n, hd⟩, _⟩ := I.tuple hs
      obtain ⟨as, hr, hn⟩ := DrAll.reads I sys ds _ its ha rv
      exact ⟨_, Reads.tuple ho hc hd hr, hn⟩
  | .dict ds, _, _, h, r => by
    cases h with
    | dic _ hs ha =>
      cases r
      obtain ⟨_, hsys, vs, rel, o, es, ep, ho, hc, hd, _, ps, _⟩ := dk_rd I.hok hs
      obtain ⟨as, bs, h1, h2, h3, h4⟩ := DrKv.reads I sys ds _ vs es.toList ha rel ps
      refine ⟨_, Reads.dict ho hc.1 hd h1 h2, fun m => ?_⟩
      rcases List.mem_append.mp m with m | m
      · rcases List.mem_cons.mp m with e | m
        · rw [← e] at hsys
          cases hsys
        · exact h3 m
      · exact h4 m
theorem DrAll.reads (I : Inv X pins σ H s) (sys : ∃ mm, X.base.Ns sysModules mm) : ∀ (ds : List PyData) (vs : List V) (us : List Value), DrAll X.K H N vs ds → Vals vs us → ∃ as, ReadsAll s.heap us ds as ∧ sysModules ∉ as
  | [], _, _, h, r => by
    cases h
    cases r
    exact ⟨_, ReadsAll.nil, List.not_mem_nil⟩
  | d :: ds, _, _, h, r => by
    cases h with
    | cons h1 h2 =>
      cases r with
      | cons r1 r2 =>
        obtain ⟨as, q1, n1⟩ := Dr.reads I sys d _ _ h1 r1
        obtain ⟨bs, q2, n2⟩ := DrAll.reads I sys ds _ _ h2 r2
        exact ⟨_, ReadsAll.cons q1 q2, fun m => (List.mem_append.mp m).elim n1 n2⟩
theorem DrKv.reads (I : Inv X pins σ H s) (sys : ∃ mm, X.base.Ns sysModules mm) : ∀ (ds : List (PyData × PyData)) (kvs : List (Key × V)) (vs : List (Key × Value)) (es : List DictEntry), DrKv X.K H N kvs ds → KV kvs vs → Pairs (mixKind X.prog X.w) es vs →
    ∃ as bs, ReadsAll s.heap (es.map (·.key)) (ds.map (·.1)) as ∧ ReadsAll s.heap (es.map (·.val)) (ds.map (·.2)) bs ∧ sysModules ∉ as ∧ sysModules ∉ bs
  | [], _, _, _, h, r, p => by
    cases h
    cases r
    cases p
    exact ⟨_, _, ReadsAll.nil, ReadsAll.nil, List.not_mem_nil, List.not_mem_nil⟩
  | (_, d) :: ds, _, _, _, h, r, p => by
    cases h with
    | cons h1 h2 =>
      cases r with
      | cons r1 r2 =>
        cases p with
        | cons p1 p2 p3 =>
          obtain ⟨e1, e2⟩ := r1
          obtain ⟨as, q1, n1⟩ := Dr.reads I sys d _ _ h1 e2
          obtain ⟨bs, cs, q2, q3, n2, n3⟩ := DrKv.reads I sys ds _ _ _ h2 r2 p3
          have e1' : _ = _ := e1
          rw [← e1'] at p1
          refine ⟨[] ++ bs, as ++ cs, ReadsAll.cons (read_key p1) q2, ReadsAll.cons (by show Reads _ (DictEntry.val _) d as; rw [p2]; exact q1) q3, by rw [List.nil_append]; exact n2, fun m => (List.mem_append.mp m).elim n1 n3⟩
end
end
/-- repr(x) -/
def rRepr (K : PySem.W.Frag) : List V → Hp → VK → Prop := fun xs H Q => ∃ (x : V) (d : PyData) (N : Addr → Prop), xs = [x] ∧ Dr K H N x d ∧ d.showable = true ∧ d.depth ≤ 60 ∧ d.shown.length ≤ sizeLine ∧ Q (.str d.shown) H
theorem call_repr {X : Cx} (g : X.A.guards = some []) (hu : X.A.units + 64 < cLine) (sys : ∃ mm, X.base.Ns sysModules mm) : CallR X (.builtin "repr") (rRepr X.K) := by
  intro pins s σ H xs us Q I r h
  obtain ⟨x, d, N, rfl, hd, hs, hz, hl, q⟩ := h
  obtain ⟨u, rfl, r1⟩ := vals1 r
  obtain ⟨as, hr, hn⟩ := Dr.reads I sys d x u hd r1
  have fin : ∀ (u : Tok) h' tk, (∀ b o, s.heap.get? b = some o → h'.get? b = some o) → EP X pins σ Q (.str d.shown u) { s with heap := h', toks := tk } := fun u h' tk hk => ⟨.str d.shown, H, I.kept hk, ⟨u, rfl⟩, q⟩
  cases hd with
  | non =>
    cases r1
    exact PySem.P.repr_of_none (fin _ s.heap _ fun _ _ e => e)
  | bl b =>
    cases r1
    cases b <;> exact PySem.P.repr_of_bool (fin _ s.heap _ fun _ _ e => e)
  | int i =>
    obtain ⟨t, rfl⟩ := r1
    exact PySem.P.repr_of_int (of_decide_eq_true (by simpa only [PyData.showable] using hs)) (fin _ s.heap _ fun _ _ e => e)
  | str z =>
    obtain ⟨t, rfl⟩ := r1
    exact PySem.P.repr_of_str (fin _ s.heap _ fun _ _ e => e) (by simpa only [PyData.shown] using hl)
  | lst _ h1 h2 =>
    cases r1
    exact repr_of_reads' (h₀ := s.heap) hr hs (fun _ => hn) g (by omega) (fun _ _ e => e) (fun h' u tk hk => fin u h' tk hk) hl
  | tup _ h1 h2 =>
    cases r1
    exact repr_of_reads' (h₀ := s.heap) hr hs (fun _ => hn) g (by omega) (fun _ _ e => e) (fun h' u tk hk => fin u h' tk hk) hl
  | dic _ h1 h2 =>
    cases r1
    exact repr_of_reads' (h₀ := s.heap) hr hs (fun _ => hn) g (by omega) (fun _ _ e => e) (fun h' u tk hk => fin u h' tk hk) hl
/-! ### texts -/
def onlyOf (y x : Str) : Bool := x.cps.toList.all fun c => y.cps.contains c
theorem takeWhile_full {α : Type} (p : α → Bool) : ∀ l : List α, decide ((l.takeWhile p).length = l.length) = l.all p
  | [] => rfl
  | a :: r => by
    have ih := takeWhile_full p r
    rw [List.takeWhile_cons, List.all_cons]
    cases ha : p a with
    | true =>
      rw [if_pos rfl, List.length_cons, List.length_cons, ← ih]
      simp
    | false =>
      rw [if_neg Bool.false_ne_true]
      simp
theorem empty_str : ("" : Str) = ⟨#[]⟩ := by decide +kernel
theorem str_ext {x y : Str} (h : x.cps.toList = y.cps.toList) : x = y := by
  cases x
  cases y
  congr 1
  exact Array.toList_inj.mp h
theorem lstrip_empty (x y : Str) : decide (V.str (Txt.lstripChars x y) = V.str "") = onlyOf y x := by
  have e : Txt.lstripChars x y = ⟨x.cps.extract (x.cps.toList.takeWhile y.cps.contains).length x.cps.size⟩ := stripBy_eq y.cps.contains true false x
  have h := takeWhile_full (fun c => y.cps.contains c) x.cps.toList
  unfold onlyOf
  rw [← h]
  apply decide_eq_decide.mpr
  have le : (x.cps.toList.takeWhile fun c => y.cps.contains c).length ≤ x.cps.toList.length := (List.takeWhile_sublist _).length_le
  constructor
  · intro q
    have q1 : Txt.lstripChars x y = "" := V.str.inj q
    rw [e, empty_str] at q1
    have q2 : (x.cps.extract (x.cps.toList.takeWhile y.cps.contains).length x.cps.size).size = 0 := by rw [Str.mk.inj q1]; rfl
    rw [Array.size_extract] at q2
    have q3 : x.cps.toList.length = x.cps.size := Array.length_toList
    have q4 : (x.cps.toList.takeWhile y.cps.contains).length ≤ x.cps.toList.length := le
    show (x.cps.toList.takeWhile y.cps.contains).length = _
    omega
  · intro q
    have q0 : (x.cps.toList.takeWhile y.cps.contains).length = x.cps.size := by
      rw [← Array.length_toList]
      exact q
    congr 1
    rw [e, empty_str, q0]
    congr 1
    simp
/-- bits alone -/
def isBits (x : Str) : Bool := onlyOf "01" x
/-- is_prefix -/
def isPfx (v : V) (w : Int) : Bool := match v with
  | .str x => decide ((x.length : Int) ≤ w) && isBits x
  | _ => false
def isStrV : V → Bool
  | .str _ => true
  | _ => false
/-- a value whose type isinstance reads: text or not -/
def TyS (K : PySem.W.Frag) (H : Hp) (v : V) : Prop := ∃ t : String, TyX K H v (.type t) ∧ PySem.W.kitOne K (.type t) (.type "str") = some (isStrV v)
theorem kit_f {K : PySem.W.Frag} {t : String} (h : kitB t "str" = some false) : PySem.W.kitOne K (.type t) (.type "str") = some false := kit_ty h
theorem TyS.of {K : PySem.W.Frag} {H : Hp} {N : Addr → Prop} {v : V} {d : PyData} (h : Dr K H N v d) : TyS K H v := by
  cases h with
  | non => exact ⟨_, .base .non, kit_f (by decide +kernel)⟩
  | bl b => exact ⟨_, .base (.bl b), kit_f (by decide +kernel)⟩
  | int i => exact ⟨_, .base (.int i), kit_f (by decide +kernel)⟩
  | str x => exact ⟨_, .base (.str x), kit_ty (r := true) (by decide +kernel)⟩
  | lst _ h _ =>
    rcases h with (h | ⟨o, h⟩) | ⟨o, _, _, h, hc, _⟩
    · exact ⟨_, .base (.lst h), kit_f (by decide +kernel)⟩
    · exact ⟨_, .base (.frz h), kit_f (by decide +kernel)⟩
    · exact ⟨_, .kList h hc, kit_f (by decide +kernel)⟩
  | tup _ h _ =>
    rcases h with (h | ⟨o, h⟩) | ⟨o, _, _, h, hc, _⟩
    · exact ⟨_, .base (.tup h), kit_f (by decide +kernel)⟩
    · exact ⟨_, .fTuple h, kit_f (by decide +kernel)⟩
    · exact ⟨_, .kTuple h hc, kit_f (by decide +kernel)⟩
  | dic _ h _ =>
    rcases h with h | ⟨o, h⟩
    · exact ⟨_, .base (.dK h), kit_f (by decide +kernel)⟩
    · exact ⟨_, .fDict h, kit_f (by decide +kernel)⟩
/-! ### the pen -/
/-- a pen stands at p: its numbers at c, its place i, its stock s, what was appended -/
def penL (c : Addr) (i s : Int) (m : List V) : HO := .lst (.ref c :: .int i :: .int s :: m)
structure PenAt (H : Hp) (p : Addr) (n : Nat) (m : List V) (c : Addr) (ns : List Int) (i s : Int) : Prop where
  at_ : H p = some (penL c i s m)
  cells : H c = some (.lst (ns.map V.int))
  len : ns.length ≤ 60
  i0 : 0 ≤ i
  i1 : i ≤ n
  s0 : 0 ≤ s
theorem PenAt.ne {H : Hp} {p c : Addr} {n : Nat} {m : List V} {ns : List Int} {i s : Int} (h : PenAt H p n m c ns i s) : c ≠ p := fun e => by
  have h1 := h.cells
  rw [e, h.at_] at h1
  have h2 := HO.lst.inj (Option.some.inj h1)
  cases ns with
  | nil => cases h2
  | cons x r => cases (List.cons.inj h2).1
theorem PenAt.mono {H : Hp} {p c : Addr} {n k : Nat} {m : List V} {ns : List Int} {i s : Int} (h : PenAt H p n m c ns i s) (hk : n ≤ k) : PenAt H p k m c ns i s :=
  ⟨h.at_, h.cells, h.len, h.i0, by have := h.i1; omega, h.s0⟩
/-- the pen behind a draw -/
theorem PenAt.next {H : Hp} {p c : Addr} {n k : Nat} {m : List V} {ns : List Int} {i s i' s' : Int} (h : PenAt H p n m c ns i s) (h0 : 0 ≤ i') (h1 : i' ≤ k) (h2 : 0 ≤ s') : PenAt (upd H p (penL c i' s' m)) p k m c ns i' s' :=
  ⟨upd_same, by rw [upd_ne h.ne]; exact h.cells, h.len, h0, h1, h2⟩
theorem PenAt.keep {H H' : Hp} {p c : Addr} {n : Nat} {m : List V} {ns : List Int} {i s : Int} (h : PenAt H p n m c ns i s) (k : Same H H') : PenAt H' p n m c ns i s :=
  ⟨k _ _ h.at_, k _ _ h.cells, h.len, h.i0, h.i1, h.s0⟩
/-- a pen at p, its numbers at c, whatever it holds -/
def Pen (H : Hp) (p c : Addr) (n : Nat) (m : List V) : Prop := ∃ ns i s, PenAt H p n m c ns i s
theorem Pen.keep {H H' : Hp} {p c : Addr} {n : Nat} {m : List V} (h : Pen H p c n m) (k : Same H H') : Pen H' p c n m := by
  obtain ⟨ns, i, s, h⟩ := h
  exact ⟨ns, i, s, h.keep k⟩
theorem Pen.mono {H : Hp} {p c : Addr} {n k : Nat} {m : List V} (h : Pen H p c n m) (hk : n ≤ k) : Pen H p c k m := by
  obtain ⟨ns, i, s, h⟩ := h
  exact ⟨ns, i, s, h.mono hk⟩
theorem Pen.ne_p {H : Hp} {p c : Addr} {n : Nat} {m : List V} (h : Pen H p c n m) {a : Addr} (e : H a = none) : a ≠ p := by
  obtain ⟨ns, i, s, h⟩ := h
  rintro rfl
  rw [h.at_] at e
  cases e
theorem Pen.ne_c {H : Hp} {p c : Addr} {n : Nat} {m : List V} (h : Pen H p c n m) {a : Addr} (e : H a = none) : a ≠ c := by
  obtain ⟨ns, i, s, h⟩ := h
  rintro rfl
  rw [h.cells] at e
  cases e
/-- a store elsewhere -/
theorem Pen.off {H : Hp} {p c : Addr} {n : Nat} {m : List V} (h : Pen H p c n m) {a : Addr} {o : HO} (h1 : a ≠ p) (h2 : a ≠ c) : Pen (upd H a o) p c n m := by
  obtain ⟨ns, i, s, h⟩ := h
  exact ⟨ns, i, s, by rw [upd_ne h1.symm]; exact h.at_, by rw [upd_ne h2.symm]; exact h.cells, h.len, h.i0, h.i1, h.s0⟩
/-- all but p is as it was -/
def But (p : Addr) (H H' : Hp) : Prop := ∀ b o, b ≠ p → H b = some o → H' b = some o
theorem But.refl (p : Addr) (H : Hp) : But p H H := fun _ _ _ e => e
theorem But.trans {p : Addr} {H H1 H2 : Hp} (a : But p H H1) (b : But p H1 H2) : But p H H2 := fun c o n e => b c o n (a c o n e)
theorem But.of_same {p : Addr} {H H' : Hp} (h : Same H H') : But p H H' := fun b o _ e => h b o e
theorem But.upd {p : Addr} {H : Hp} {o : HO} : But p H (upd H p o) := fun b x n e => by rw [upd_ne n]; exact e
/-- what is free behind was free ahead -/
theorem But.free {p : Addr} {H H' : Hp} (e : But p H H') {a : Addr} (n : a ≠ p) (h : H' a = none) : H a = none := by
  cases q : H a with
  | none => rfl
  | some o =>
    rw [e a o n q] at h
    cases h
theorem But.seq {K : PySem.W.Frag} {p : Addr} {H H' : Hp} {a : Addr} {xs : List V} (e : But p H H') (hn : a ≠ p) (h : SqL K H a xs) : SqL K H' a xs := by
  rcases h with (h | ⟨o, h⟩) | h
  · exact .inl (.inl (e _ _ hn h))
  · exact .inl (.inr ⟨o, e _ _ hn h⟩)
  · exact .inr h
theorem PenAt.but {H H' : Hp} {p c : Addr} {n k : Nat} {m : List V} {ns : List Int} {i s i' s' : Int} (h : PenAt H p n m c ns i s) (hb : But p H H') (e : H' p = some (penL c i' s' m)) (h0 : 0 ≤ i') (h1 : i' ≤ k) (h2 : 0 ≤ s') : PenAt H' p k m c ns i' s' :=
  ⟨e, hb _ _ h.ne h.cells, h.len, h0, h1, h2⟩
/-- no call makes more turns of the pen -/
abbrev PB : Nat := 1000000000000
def spPen (K : PySem.W.Frag) : Sp := fun vs H Q _ => ∃ (a : Addr) (ns : List Int), vs = [.ref a] ∧ SqL K H a (ns.map V.int) ∧ ns.length ≤ 63 ∧ ∀ H' p c, Same H H' → H p = none → H c = none → Pen H' p c 0 [] → Q (.ref p) H'
def spNext : Sp := fun vs H Q _ => ∃ (p : Addr) (n : Nat) (m : List V) (c : Addr) (ns : List Int) (i s : Int), vs = [.ref p] ∧ PenAt H p n m c ns i s ∧ n ≤ PB ∧
  ∀ (x : Int) (H' : Hp), 0 ≤ x → But p H H' → PenAt H' p (n + 1) m c ns (i + 1) s → Q (.int x) H'
def spDraw : Sp := fun vs H Q _ => ∃ (p c : Addr) (n : Nat) (m : List V) (below : Int), vs = [.ref p, .int below] ∧ Pen H p c n m ∧ n ≤ PB ∧ 0 < below ∧ below < 1073741824 ∧
  ∀ (d : Int) (H' : Hp), 0 ≤ d → d < below → But p H H' → Pen H' p c (n + 1) m → Q (.int d) H'
theorem sixty {ns : List Int} : HT.sIx ns.length 0 none = 0 ∧ HT.sIx ns.length ns.length (some 60) ≤ 60 := by
  refine ⟨HT.sIx_none _ _, ?_⟩
  rw [show HT.sIx ns.length ns.length (some 60) = min 60 ns.length from HT.sIx_nat ns.length ns.length 60]
  omega
theorem cut60 (ns : List Int) : ∃ ms : List Int, cutV (ns.map V.int) none (some 60) = ms.map V.int ∧ ms.length ≤ 60 := by
  unfold cutV
  refine ⟨(ns.drop (HT.sIx (ns.map V.int).length 0 none)).take (HT.sIx (ns.map V.int).length (ns.map V.int).length (some 60) - HT.sIx (ns.map V.int).length 0 none), ?_, ?_⟩
  · rw [List.map_take, List.map_drop]
  · rw [List.length_take, List.length_map]
    have h := (sixty (ns := ns)).2
    omega
theorem same_upd {H : Hp} {p : Addr} {o : HO} (h : H p = none) : Same H (upd H p o) := fun b x e => by
  rw [upd_ne (ne_of_none e h)]
  exact e
theorem ix1 {a b c : V} {m : List V} : ixN (a :: b :: c :: m).length 1 = some 1 := by
  unfold ixN
  rw [if_pos (by decide), if_pos (by rw [List.length_cons, List.length_cons]; omega)]
  rfl
theorem ix2 {a b c : V} {m : List V} : ixN (a :: b :: c :: m).length 2 = some 2 := by
  unfold ixN
  rw [if_pos (by decide), if_pos (by rw [List.length_cons, List.length_cons, List.length_cons]; omega)]
  rfl
theorem dpAll_ints {K : PySem.W.Frag} {H : Hp} : ∀ ns : List Int, DpAll K H (ns.map V.int) (ns.map PyData.int)
  | [] => .nil
  | n :: r => .cons (.int n) (dpAll_ints r)
theorem eqv_nil (ns : List Int) : PyData.eqv (.list (ns.map PyData.int)) (.list []) = decide (ns = []) := by
  cases ns with
  | nil => rfl
  | cons x r => rfl
/-! ### what the reprs of small data come to -/
structure OkD (L B : Nat) (d : PyData) : Prop where
  sh : d.showable = true
  dp : d.depth ≤ L
  ln : d.shown.length ≤ B
theorem OkD.mono {L B L' B' : Nat} {d : PyData} (h : OkD L B d) (h1 : L ≤ L') (h2 : B ≤ B') : OkD L' B' d := ⟨h.sh, Nat.le_trans h.dp h1, Nat.le_trans h.ln h2⟩
theorem comma_len : ((", " : String) : Str).length = 2 := by decide +kernel
theorem join_le : ∀ ts : List Str, (Str.join ", " ts).length ≤ (ts.map fun t => t.length + 2).sum
  | [] => Nat.zero_le _
  | [x] => by
    show x.length ≤ _
    rw [List.map_cons, List.sum_cons]
    omega
  | x :: y :: r => by
    have ih := join_le (y :: r)
    show (x ++ ((", " : String) : Str) ++ Str.join ", " (y :: r)).length ≤ _
    rw [strLen_append, strLen_append, comma_len, List.map_cons, List.sum_cons]
    omega
theorem sum_le_of {l : List Str} {B : Nat} (h : ∀ t ∈ l, t.length ≤ B) : (l.map fun t => t.length + 2).sum ≤ l.length * (B + 2) := by
  induction l with
  | nil => exact Nat.zero_le _
  | cons x r ih =>
    have h1 := h x List.mem_cons_self
    have h2 := ih fun t ht => h t (List.mem_cons_of_mem _ ht)
    rw [List.map_cons, List.sum_cons, List.length_cons, Nat.succ_mul]
    omega
theorem shownAll_map : ∀ ds : List PyData, PyData.shownAll ds = ds.map PyData.shown
  | [] => PyData.shownAll_nil
  | d :: ds => by rw [PyData.shownAll_cons, shownAll_map ds, List.map_cons]
theorem showableAll_all : ∀ {ds : List PyData}, (∀ d ∈ ds, d.showable = true) → PyData.showableAll ds = true := PySem.Spec.showableAll_of
theorem depthAll_le {L : Nat} : ∀ {ds : List PyData}, (∀ d ∈ ds, d.depth ≤ L) → PyData.depthAll ds ≤ L
  | [], _ => by simp only [PyData.depthAll]; exact Nat.zero_le _
  | d :: ds, h => by
    have h1 := h d List.mem_cons_self
    have h2 := depthAll_le fun x hx => h x (List.mem_cons_of_mem _ hx)
    simp only [PyData.depthAll]
    omega
theorem OkD.list {L B n : Nat} {ds : List PyData} (hn : ds.length ≤ n) (h : ∀ d ∈ ds, OkD L B d) : OkD (L + 1) (n * (B + 2) + 2) (.list ds) := by
  refine ⟨by simp only [PyData.showable]; exact showableAll_all fun d hd => (h d hd).sh, ?_, ?_⟩
  · have := depthAll_le fun d hd => (h d hd).dp
    simp only [PyData.depth]
    omega
  · rw [PyData.shown_list, shownAll_map, strLen_append, strLen_append]
    have h1 := join_le (ds.map PyData.shown)
    have h2 := sum_le_of (l := ds.map PyData.shown) (B := B) fun t ht => by
      obtain ⟨d, hd, rfl⟩ := List.mem_map.mp ht
      exact (h d hd).ln
    rw [List.length_map] at h2
    have h3 := Nat.mul_le_mul_right (B + 2) hn
    have e1 : ((("[" : String) : Str)).length = 1 := by decide +kernel
    have e2 : ((("]" : String) : Str)).length = 1 := by decide +kernel
    omega
theorem OkD.tuple {L B n : Nat} {ds : List PyData} (hn : ds.length ≤ n) (h : ∀ d ∈ ds, OkD L B d) : OkD (L + 1) (n * (B + 2) + 3) (.tuple ds) := by
  refine ⟨by simp only [PyData.showable]; exact showableAll_all fun d hd => (h d hd).sh, ?_, ?_⟩
  · have := depthAll_le fun d hd => (h d hd).dp
    simp only [PyData.depth]
    omega
  · rw [PyData.shown_tuple, shownAll_map, strLen_append, strLen_append]
    have h1 := join_le (ds.map PyData.shown)
    have h2 := sum_le_of (l := ds.map PyData.shown) (B := B) fun t ht => by
      obtain ⟨d, hd, rfl⟩ := List.mem_map.mp ht
      exact (h d hd).ln
    rw [List.length_map] at h2
    have h3 := Nat.mul_le_mul_right (B + 2) hn
    have e1 : ((("(" : String) : Str)).length = 1 := by decide +kernel
    have e2 : (((if (ds.length == 1) = true then ",)" else ")" : String) : Str)).length ≤ 2 := by split <;> decide +kernel
    omega
theorem depthKv_le {L : Nat} : ∀ {ds : List (PyData × PyData)}, (∀ d ∈ ds, d.1.depth ≤ L ∧ d.2.depth ≤ L) → PyData.depthKv ds ≤ L
  | [], _ => by simp only [PyData.depthKv]; exact Nat.zero_le _
  | (a, b) :: ds, h => by
    have h1 : a.depth ≤ L ∧ b.depth ≤ L := h (a, b) List.mem_cons_self
    have h2 := depthKv_le fun x hx => h x (List.mem_cons_of_mem _ hx)
    simp only [PyData.depthKv]
    omega
theorem shownKv_map : ∀ ds : List (PyData × PyData), PyData.shownKv ds = ds.map fun p => p.1.shown ++ ((": " : String) : Str) ++ p.2.shown
  | [] => PyData.shownKv_nil
  | (a, b) :: ds => by rw [PyData.shownKv_cons, shownKv_map ds, List.map_cons]
theorem OkD.dict {L B C n : Nat} {ds : List (PyData × PyData)} (hn : ds.length ≤ n) (h : ∀ d ∈ ds, OkD L C d.1 ∧ OkD L B d.2) : OkD (L + 1) (n * (C + B + 4) + 2) (.dict ds) := by
  refine ⟨by simp only [PyData.showable]; exact PySem.Spec.showableKv_of fun d hd => ⟨(h d hd).1.sh, (h d hd).2.sh⟩, ?_, ?_⟩
  · have := depthKv_le fun d hd => ⟨(h d hd).1.dp, (h d hd).2.dp⟩
    simp only [PyData.depth]
    omega
  · rw [PyData.shown_dict, shownKv_map, strLen_append, strLen_append]
    have h1 := join_le (ds.map fun p => p.1.shown ++ ((": " : String) : Str) ++ p.2.shown)
    have e0 : (((": " : String) : Str)).length = 2 := by decide +kernel
    have h2 := sum_le_of (l := ds.map fun p => p.1.shown ++ ((": " : String) : Str) ++ p.2.shown) (B := C + B + 2) fun t ht => by
      obtain ⟨d, hd, rfl⟩ := List.mem_map.mp ht
      have z1 := (h d hd).1.ln
      have z2 := (h d hd).2.ln
      rw [strLen_append, strLen_append, e0]
      omega
    rw [List.length_map] at h2
    have h3 := Nat.mul_le_mul_right (C + B + 2 + 2) hn
    have e1 : ((("{" : String) : Str)).length = 1 := by decide +kernel
    have e2 : ((("}" : String) : Str)).length = 1 := by decide +kernel
    have e3 : C + B + 2 + 2 = C + B + 4 := by omega
    rw [e3] at h2 h3
    omega
/-! ### dicts made of pairs -/
theorem putK_end {kvs : List (Key × V)} {k : Key} {v : V} (h : k ∉ kvs.map (·.1)) : putK kvs k v = kvs ++ [(k, v)] := by
  unfold putK
  rw [if_neg]
  intro q
  obtain ⟨p, hp, e⟩ := List.any_eq_true.mp q
  exact h (List.mem_map.mpr ⟨p, hp, of_decide_eq_true e⟩)
theorem mergeK_nd : ∀ (more kvs : List (Key × V)), ((kvs ++ more).map (·.1)).Nodup → mergeK kvs more = kvs ++ more
  | [], kvs, _ => (List.append_nil _).symm
  | (k, v) :: r, kvs, h => by
    have e : kvs ++ (k, v) :: r = (kvs ++ [(k, v)]) ++ r := by rw [List.append_assoc]; rfl
    have hk : k ∉ kvs.map (·.1) := fun m => by
      rw [List.map_append, List.nodup_append] at h
      exact h.2.2 k m k (by rw [List.map_cons]; exact List.mem_cons_self) rfl
    show mergeK (putK kvs k v) r = _
    rw [putK_end hk, e]
    rw [e] at h
    exact mergeK_nd r _ h
theorem DrKv.zip {K : PySem.W.Frag} {H : Hp} {N : Addr → Prop} : ∀ (ks : List Key) {vs : List V} {ds : List PyData}, DrAll K H N vs ds → DrKv K H N (ks.zip vs) ((ks.map keyD).zip ds)
  | [], _, _, _ => .nil
  | _ :: _, _, _, .nil => .nil
  | k :: ks, _, _, .cons h t => .cons h (DrKv.zip ks t)
theorem nodup_zip {α β : Type} {ks : List α} (h : ks.Nodup) : ∀ vs : List β, ((ks.zip vs).map (·.1)).Nodup := fun vs => by
  have e : (ks.zip vs).map (·.1) = ks.take vs.length := by
    induction ks generalizing vs with
    | nil => cases vs <;> rfl
    | cons k ks ih =>
      cases vs with
      | nil => rfl
      | cons v vs =>
        show k :: (ks.zip vs).map (·.1) = _
        rw [ih (List.nodup_cons.mp h).2]
        rfl
  rw [e]
  exact h.sublist (List.take_sublist _ _)
/-- a comprehension without tests: the item is kept -/
theorem yes_if {σ : L2.St} {H : Hp} {A B : Hp → Prop} (h : A H) : tYes σ H fun b H3 => if b = true then A H3 else B H3 := by
  unfold tYes
  dsimp only
  rw [if_pos rfl]
  exact h
/-! ### texts made of texts -/
/-- the signs of a text -/
abbrev sg (x : Str) : List Nat := x.cps.toList
theorem sg_len (x : Str) : (sg x).length = x.length := Array.length_toList
theorem sg_app (x y : Str) : sg (x ++ y) = sg x ++ sg y := by
  show ((x.cps ++ y.cps).toList : List Nat) = _
  rw [Array.toList_append]
theorem sg_empty : sg "" = [] := by rw [show ("" : Str) = ⟨#[]⟩ from empty_str]
theorem app_empty (x : Str) : x ++ ((("" : String) : Str)) = x := str_ext (by
  show sg (x ++ _) = sg x
  rw [sg_app, sg_empty, List.append_nil])
theorem sg_join : ∀ ys : List Str, sg (Txt.join "" ys) = (ys.map sg).flatten := by
  intro ys
  show sg (Builtin.Str.glued "" ys) = _
  rw [StrLaws.glued_eq_join]
  induction ys with
  | nil => rfl
  | cons y r ih =>
    cases r with
    | nil =>
      show sg y = _
      rw [List.map_cons, List.map_nil, List.flatten_cons, List.flatten_nil, List.append_nil]
    | cons z t =>
      show sg (y ++ ((("" : String) : Str)) ++ Str.join "" (z :: t)) = _
      rw [app_empty, sg_app, ih, List.map_cons (a := y), List.flatten_cons]
/-- a text that is not long, of signs that repr writes short -/
structure Sm (n : Nat) (x : Str) : Prop where
  ln : x.length ≤ n
  ch : ∀ c ∈ sg x, c < 128
theorem Sm.mono {n m : Nat} {x : Str} (h : Sm n x) (hm : n ≤ m) : Sm m x := ⟨Nat.le_trans h.ln hm, h.ch⟩
theorem Sm.app {n m : Nat} {x y : Str} (h : Sm n x) (h' : Sm m y) : Sm (n + m) (x ++ y) := ⟨by
  rw [strLen_append]
  exact Nat.add_le_add h.ln h'.ln, fun c hc => by
  rw [sg_app] at hc
  exact (List.mem_append.mp hc).elim (h.ch c) (h'.ch c)⟩
theorem Sm.cut {n : Nat} {x : Str} (h : Sm n x) (lo hi : Option Int) : Sm n (cutS x lo hi) := ⟨Nat.le_trans (cutS_length x lo hi) h.ln, fun c hc => by
  have e : sg (cutS x lo hi) = ((sg x).drop (HT.sIx x.length 0 lo)).take (HT.sIx x.length x.length hi - HT.sIx x.length 0 lo) := rfl
  rw [e] at hc
  exact h.ch c (List.mem_of_mem_drop (List.mem_of_mem_take hc))⟩
theorem Sm.one {c : Nat} (h : c < 128) : Sm 1 ⟨#[c]⟩ := ⟨Nat.le_refl _, fun d hd => by
  have hd' : d ∈ [c] := hd
  rw [List.mem_singleton.mp hd']
  exact h⟩
theorem Sm.join {ys : List Str} (h : ∀ y ∈ ys, Sm 1 y) : Sm ys.length (Txt.join "" ys) := by
  constructor
  · rw [← sg_len, sg_join]
    induction ys with
    | nil => exact Nat.le_refl _
    | cons y r ih =>
      have h1 := (h y List.mem_cons_self).ln
      have h2 := ih fun z hz => h z (List.mem_cons_of_mem _ hz)
      rw [List.map_cons, List.flatten_cons, List.length_append, List.length_cons, sg_len]
      omega
  · intro c hc
    rw [sg_join] at hc
    obtain ⟨l, hl, hc⟩ := List.mem_flatten.mp hc
    obtain ⟨y, hy, rfl⟩ := List.mem_map.mp hl
    exact (h y hy).ch c hc
theorem Sm.ok {n B : Nat} {x : Str} (h : Sm n x) (hb : 10 * n + 2 ≤ B) : OkD 0 B (.str x) := by
  refine ⟨by simp only [PyData.showable], by simp only [PyData.depth]; exact Nat.le_refl _, ?_⟩
  rw [PyData.shown_str]
  have h1 := StrLaws.reprText_len x fun c hc => Nat.lt_of_lt_of_le (h.ch c hc) (by decide)
  have h2 := h.ln
  omega
theorem sum_ones {ys : List Str} (h : ∀ y ∈ ys, Sm 1 y) : (ys.map (·.length)).sum ≤ ys.length := by
  induction ys with
  | nil => exact Nat.le_refl _
  | cons y r ih =>
    have h1 := (h y List.mem_cons_self).ln
    have h2 := ih fun z hz => h z (List.mem_cons_of_mem _ hz)
    rw [List.map_cons, List.sum_cons, List.length_cons]
    omega
/-- text * number -/
def rMulS : R2 := fun x y H Q => ∃ z n, x = .str z ∧ y = .int n ∧ MulOk z n ∧ Q (.str (Txt.mul z n)) H
theorem op_mulS {X : Cx} : OpR X (binaryOp .Mult) rMulS := by
  intro pins s σ H x y v u Q I rx ry h
  obtain ⟨z, n, rfl, rfl, ok, q⟩ := h
  obtain ⟨t, rfl⟩ := rx
  obtain ⟨t', rfl⟩ := ry
  exact SB.mul ok fun t k => ⟨.str _, H, I.tok _, ⟨_, rfl⟩, q⟩
theorem foldl_app (l : List (Array Nat)) : ∀ a : Array Nat, (l.foldl (· ++ ·) a).toList = a.toList ++ (l.map Array.toList).flatten := by
  induction l with
  | nil => intro a; simp
  | cons x r ih =>
    intro a
    rw [List.foldl_cons, ih, Array.toList_append, List.map_cons, List.flatten_cons, List.append_assoc]
theorem mul_sm {x : Str} {n : Nat} (h : Sm 1 x) (h1 : 2 ≤ n) (hx : (x.length == 0) = false) : Sm n (Txt.mul x (n : Int)) := by
  have e : Txt.mul x (n : Int) = ⟨(List.replicate n x.cps).foldl (· ++ ·) #[]⟩ := by
    unfold Txt.mul
    rw [if_neg (by omega), hx, show ((n : Int) == 1) = false from beq_eq_false_iff_ne.mpr (by omega)]
    rfl
  have e2 : sg (Txt.mul x (n : Int)) = (List.replicate n (sg x)).flatten := by
    rw [e]
    show ((List.replicate n x.cps).foldl (· ++ ·) #[]).toList = _
    rw [foldl_app, List.map_replicate]
    rfl
  constructor
  · rw [← sg_len, e2, List.length_flatten, List.map_replicate, List.sum_replicate_nat, sg_len]
    have := h.ln
    exact Nat.le_trans (Nat.mul_le_mul_left n this) (by omega)
  · intro c hc
    rw [e2] at hc
    obtain ⟨l, hl, hc⟩ := List.mem_flatten.mp hc
    rw [(List.mem_replicate.mp hl).2] at hc
    exact h.ch c hc
/-- bit in ['0', '1'] -/
theorem bit_in (c : Nat) : inV (.str ⟨#[c]⟩) [.str "0", .str "1"] = (("01" : Str)).cps.contains c := by
  have e0 : ("0" : Str) = ⟨#[48]⟩ := by decide +kernel
  have e1 : ("1" : Str) = ⟨#[49]⟩ := by decide +kernel
  have e2 : (("01" : Str)).cps = #[48, 49] := by decide +kernel
  have eq1 : ∀ d : Nat, eqV (.str ⟨#[d]⟩) (.str ⟨#[c]⟩) = (c == d) := fun d => by
    show ((⟨#[d]⟩ : Str) == ⟨#[c]⟩) = (c == d)
    rw [Bool.eq_iff_iff, beq_iff_eq, beq_iff_eq]
    constructor
    · intro h
      have h2 : ([d] : List Nat) = [c] := congrArg Array.toList (Str.mk.inj h)
      exact (List.cons.inj h2).1.symm
    · rintro rfl
      rfl
  rw [e0, e1, e2]
  show (eqV (.str ⟨#[48]⟩) (.str ⟨#[c]⟩) || (eqV (.str ⟨#[49]⟩) (.str ⟨#[c]⟩) || false)) = _
  rw [eq1, eq1, Bool.eq_iff_iff]
  simp
def top (i : Nat) : Stmt := PySem.Challenge.pw_keptroutes_k02_prefixes_known.main.body.getD i (.Pass ⟨0, 0, 0, 0⟩)
abbrev sHas : Stmt := top 1
abbrev sPfx : Stmt := top 2
abbrev sPen : Stmt := top 4
abbrev sNext : Stmt := top 5
abbrev sDraw : Stmt := top 6
abbrev sAny : Stmt := top 7
abbrev sLaw : Stmt := top 8
section
variable {P : Program} {w : World} {K : PySem.W.Frag} {mg : Str → Option Value} {base : Heap}
theorem scPen : FnScope ["script"] ["script"] (defScope sPen) := ⟨rfl, rfl, rfl, by decide +kernel, rfl, by decide +kernel, by decide +kernel⟩
theorem ok_pen {f : Addr} {fd : FuncData} {k : Nat} (F : Fun K "_law_pen" "_law_pen" sPen f fd) (ml : mg "list" = none) : FnOk P w K mg base CX0 (k + 1) f fd ["script"] (spPen K) := by
  refine F.ok scPen (fun vs H Q E h => ?_) (fun cdv A outer s H vs Q E hr h => ?_)
  · obtain ⟨a, ns, rfl, _⟩ := h
    rfl
  · obtain ⟨a, ns, rfl, hS, hlen, q⟩ := h
    refine ⟨_, pss_one (ps_ret (pe_lst (pa_cons (pe_callTy call_list_of (by rfl) ml (by decide +kernel) (pa_cons (pe_slice sl_list (pv 0) po_none (po_some pe_int)) pa_nil)) (pa_cons pe_int (pa_cons pe_int pa_nil))))), ?_⟩
    obtain ⟨ms, em, hm⟩ := cut60 ns
    refine ⟨.ref a, rfl, 60, rfl, a, ns.map V.int, rfl, hS, fun b nb => ?_⟩
    rw [em]
    refine ⟨b, _, rfl, .inl (.inl (.inl upd_same)), fun c nc => ?_⟩
    refine ⟨by show 3 ≤ sizeLine; decide, fun p np => ?_⟩
    have s1 : Same H (upd H b (.lst (ms.map V.int))) := same_upd nb
    have s2 := same_upd (o := .lst (ms.map V.int)) nc
    have s3 := same_upd (o := penL c 0 0 []) np
    have nf : H p = none := (s1.trans s2).free np
    refine q _ p c (s1.trans (s2.trans s3)) nf (s1.free nc) ⟨ms, 0, 0, upd_same, ?_, hm, Int.le_refl _, Int.le_refl _, Int.le_refl _⟩
    exact s3 _ _ upd_same
theorem scNext : FnScope ["pen", "index", "cell", "low", "mid", "top"] ["pen"] (defScope sNext) := ⟨rfl, rfl, rfl, by decide +kernel, rfl, by decide +kernel, by decide +kernel⟩
theorem ok_next {f : Addr} {fd : FuncData} {k : Nat} (F : Fun K "_law_next" "_law_next" sNext f fd) (ml : mg "len" = none) : FnOk P w K mg base CX0 (k + 1) f fd ["pen"] spNext := by
  refine F.ok scNext (fun vs H Q E h => ?_) (fun cdv A outer s H vs Q E hr h => ?_)
  · obtain ⟨p, n, m, c, ns, i, z, rfl, _⟩ := h
    rfl
  · obtain ⟨p, n, m, c, ns, i, z, rfl, hp, hn, q⟩ := h
    have nd := scNext.nd
    have hu := hr.units
    refine ⟨_, pss_cons (ps_set (i := 1) nd rfl (.inl rfl) (pe_ix ix_list (pv 0) pe_int (fun _ _ => rfl)))
      (pss_cons (ps_asg (pe_op op_add (pv 1) pe_int) (pg_sub (pv 0) pe_int set_list))
      (pss_cons (ps_set (i := 2) nd rfl (.inl rfl) (pe_op op_add (pe_op op_mul (pv 1) pe_int) pe_int))
      (C8.pss_cut (ps_if (pt_cmpR (op_neD hu) (pe_ix ix_list (pv 0) pe_int (fun _ _ => rfl)) (pe_lst pa_nil) (nomark _))
        (pss_one (ps_set (i := 2) nd rfl (.inl rfl) (pe_ix ix_list (pe_ix ix_list (pv 0) pe_int (fun _ _ => rfl))
          (pe_op op_mod (pv 1) (pe_callB call_len_seq (by rfl) ml PySem.boot_len (pa_cons (pe_ix ix_list (pv 0) pe_int (fun _ _ => rfl)) pa_nil))) (fun _ _ => rfl)))) pss_nil)
      (C8.pss_cut (ps_if (PW.pt (pw_and (pt_cmpR op_lt (pv 1) (pe_callB call_len_seq (by rfl) ml PySem.boot_len (pa_cons (pe_ix ix_list (pv 0) pe_int (fun _ _ => rfl)) pa_nil)) (nomark _))
          (pw_and1 (pt_cmpR op_ge (pv 2) (pe_op op_pow pe_int pe_int) (nomark _)))))
        (pss_one (ps_ret (pv 2))) pss_nil)
      (C8.pss_cut (ps_set (i := 3) nd rfl (.inl rfl) (pe_op op_mod (pe_op op_add (pe_op op_add (pe_op op_mod (pv 2) pe_int) (pe_op op_mul (pv 1) pe_int)) pe_int) pe_int))
      (C8.pss_cut (ps_set (i := 4) nd rfl (.inl rfl) (pe_op op_mod (pe_op op_add (pe_op op_add (pe_op op_mul (pv 3) (pv 3)) (pe_op op_mul (pv 1) pe_int)) pe_int) pe_int))
      (C8.pss_cut (ps_set (i := 5) nd rfl (.inl rfl) (pe_op op_mod (pe_op op_add (pe_op op_add (pe_op op_mul (pv 4) (pv 4)) (pv 3)) (pe_op op_mul (pe_op op_mul (pv 1) (pv 1)) pe_int)) pe_int))
      (pss_one (ps_ret (pe_op op_add (pe_op op_mul (pe_op op_add (pe_op op_mul (pv 5) pe_int) (pv 4)) pe_int) (pv 3)))))))))))  , ?_⟩
    have hpL : H p = some (.lst (.ref c :: .int i :: .int z :: m)) := hp.at_
    have ncp : c ≠ p := hp.ne
    -- index = pen[1]; pen[1] = index + 1
    refine ⟨.ref p, rfl, p, _, 1, .int i, rfl, rfl, SqL.of hpL, atI_nat (j := 1) rfl, ?_⟩
    refine ⟨.int i, rfl, i, 1, rfl, rfl, .ref p, rfl, p, _, 1, 1, rfl, rfl, hpL, ix1, ?_⟩
    have e1 : (V.ref c :: .int i :: .int z :: m).set 1 (.int (i + 1)) = .ref c :: .int (i + 1) :: .int z :: m := rfl
    rw [e1]
    generalize hH : upd H p (.lst (.ref c :: .int (i + 1) :: .int z :: m)) = H1
    have h1 : H1 p = some (.lst (.ref c :: .int (i + 1) :: .int z :: m)) := by rw [← hH, upd_same]
    have hc1 : H1 c = some (.lst (ns.map V.int)) := by rw [← hH, upd_ne ncp]; exact hp.cells
    have b1 : But p H H1 := by rw [← hH]; exact But.upd
    -- cell = index * 1049 + 29
    refine ⟨.int i, rfl, _, _, rfl, rfl, .inr ⟨by decide, by decide⟩, _, _, rfl, rfl, ?_⟩
    have hi0 := hp.i0
    have hi1 := hp.i1
    have hnB : n ≤ 1000000000000 := hn
    -- pen[0] != []
    refine ⟨fun σ H2 => ∃ cell : Int, σ = [some (.ref p), some (.int i), some (.int cell), none, none, none] ∧ H2 p = some (.lst (.ref c :: .int (i + 1) :: .int z :: m)) ∧ H2 c = some (.lst (ns.map V.int)) ∧ But p H H2, ?_, ?_⟩
    · refine ⟨.ref p, rfl, p, _, 0, .ref c, rfl, rfl, SqL.of h1, atI_nat (j := 0) rfl, Nat.zero_le _, fun e ne => ?_⟩
      have s2 : Same H1 (upd H1 e (.lst [])) := same_upd ne
      have hp2 : (upd H1 e (.lst [])) p = some (.lst (.ref c :: .int (i + 1) :: .int z :: m)) := s2 _ _ h1
      have hc2 : (upd H1 e (.lst [])) c = some (.lst (ns.map V.int)) := s2 _ _ hc1
      have b2 : But p H (upd H1 e (.lst [])) := b1.trans (.of_same s2)
      refine ⟨.list (ns.map PyData.int), .list [], .lst (SqL.of hc2) (dpAll_ints ns), .lst (SqL.of upd_same) .nil, PySem.W.ke_shaped_ints ns, rfl, _, rfl, ?_⟩
      rw [eqv_nil]
      by_cases hz : ns = []
      · rw [decide_eq_true hz]
        refine iteF ?_
        exact ⟨_, rfl, hp2, hc2, b2⟩
      · rw [decide_eq_false hz]
        refine iteT ?_
        have hl : 0 < ns.length := List.length_pos_iff.mpr hz
        have hlt : (i % (ns.length : Int)).toNat < ns.length := by
          have h1 := Int.emod_nonneg i (show (ns.length : Int) ≠ 0 by omega)
          have h2 := Int.emod_lt_of_pos i (show (0 : Int) < ns.length by omega)
          omega
        have hnn := Int.emod_nonneg i (show (ns.length : Int) ≠ 0 by omega)
        have g : atI (ns.map V.int) (i % (((ns.map V.int).length : Nat) : Int)) = some (.int ns[(i % (ns.length : Int)).toNat]) := by
          rw [List.length_map]
          refine at_of (j := (i % (ns.length : Int)).toNat) (by omega) ?_
          rw [List.getElem?_map, List.getElem?_eq_getElem hlt]
          rfl
        refine ⟨.ref p, rfl, p, _, 0, .ref c, rfl, rfl, SqL.of hp2, atI_nat (j := 0) rfl, .int i, rfl, .ref p, rfl, p, _, 0, .ref c, rfl, rfl, SqL.of hp2, atI_nat (j := 0) rfl,
          c, _, rfl, .inl (SqL.of hc2), _, _, rfl, rfl, by rw [List.length_map]; omega, c, _, _, _, rfl, rfl, SqL.of hc2, g, ?_⟩
        exact ⟨_, rfl, hp2, hc2, b2⟩
    · rintro σ H2 ⟨cell, rfl, hp2, hc2, b2⟩
      have fin : ∀ x : Int, 0 ≤ x → Q (.int x) H2 := fun x hx => q x H2 hx b2 (hp.but b2 hp2 (by omega) (by omega) hp.s0)
      have m1 := Int.emod_nonneg (cell % 2147483587 + i * 70061 + 53) (show (2147483587 : Int) ≠ 0 by decide)
      have m2 := Int.emod_lt_of_pos (cell % 2147483587 + i * 70061 + 53) (show (0 : Int) < 2147483587 by decide)
      have M0 : (2147483587 : Int) ≠ 0 := by decide
      have M1 : (0 : Int) < 2147483587 := by decide
      have M2 : (0 : Int) < 2147483563 := by decide
      have M3 : (0 : Int) < 2147483549 := by decide
      refine ⟨fun σ' H' => σ' = [some (.ref p), some (.int i), some (.int cell), none, none, none] ∧ H' = H2, ?_, ?_⟩
      · refine ⟨.int i, rfl, .ref p, rfl, p, _, 0, .ref c, rfl, rfl, SqL.of hp2, atI_nat (j := 0) rfl, c, _, rfl, .inl (SqL.of hc2), _, _, rfl, rfl, _, rfl, ?_⟩
        refine ite2 (fun _ => ?_) (fun _ => iteF ⟨rfl, rfl⟩)
        refine ⟨.int cell, rfl, _, _, rfl, rfl, ⟨by decide, by decide, by decide⟩, _, _, rfl, rfl, _, rfl, ?_⟩
        refine ite2 (fun hc => ?_) (fun _ => ⟨rfl, rfl⟩)
        have hc' : (10 : Int) ^ 18 ≤ cell := of_decide_eq_true hc
        exact ⟨.int cell, rfl, fin cell (by omega)⟩
      · rintro σ' H' ⟨rfl, rfl⟩
        refine ⟨fun σ' Ha => Ha = H' ∧ ∃ low : Int, 0 ≤ low ∧ low < 2147483587 ∧ σ' = [some (.ref p), some (.int i), some (.int cell), some (.int low), none, none], ?_, ?_⟩
        · refine ⟨.int cell, rfl, _, _, rfl, rfl, M1, .int i, rfl, _, _, rfl, rfl, .inr ⟨by decide, by decide⟩, _, _, rfl, rfl, _, _, rfl, rfl, _, _, rfl, rfl, M1, ?_⟩
          exact ⟨rfl, _, Int.emod_nonneg _ M0, Int.emod_lt_of_pos _ M1, rfl⟩
        rintro σ' Hb ⟨rfl, low, l1, l2, rfl⟩
        refine ⟨fun σ' Ha => Ha = Hb ∧ ∃ mid : Int, 0 ≤ mid ∧ mid < 2147483563 ∧ σ' = [some (.ref p), some (.int i), some (.int cell), some (.int low), some (.int mid), none], ?_, ?_⟩
        · refine ⟨.int low, rfl, .int low, rfl, _, _, rfl, rfl, .inl ⟨by omega, by omega⟩, .int i, rfl, _, _, rfl, rfl, .inr ⟨by decide, by decide⟩, _, _, rfl, rfl, _, _, rfl, rfl, _, _, rfl, rfl, M2, ?_⟩
          exact ⟨rfl, _, Int.emod_nonneg _ (by decide), Int.emod_lt_of_pos _ M2, rfl⟩
        rintro σ' Hc ⟨rfl, mid, d1, d2, rfl⟩
        refine ⟨fun σ' Ha => Ha = Hc ∧ ∃ tp : Int, 0 ≤ tp ∧ σ' = [some (.ref p), some (.int i), some (.int cell), some (.int low), some (.int mid), some (.int tp)], ?_, ?_⟩
        · refine ⟨.int mid, rfl, .int mid, rfl, _, _, rfl, rfl, .inl ⟨by omega, by omega⟩, .int low, rfl, _, _, rfl, rfl, .int i, rfl, .int i, rfl, _, _, rfl, rfl, .inl ⟨by omega, by omega⟩, _, _, rfl, rfl, .inr ⟨by decide, by decide⟩, _, _, rfl, rfl, _, _, rfl, rfl, M3, ?_⟩
          exact ⟨rfl, _, Int.emod_nonneg _ (by decide), rfl⟩
        rintro σ' H3 ⟨rfl, tp, t1, rfl⟩
        refine ⟨.int tp, rfl, _, _, rfl, rfl, .inr ⟨by decide, by decide⟩, .int mid, rfl, _, _, rfl, rfl, _, _, rfl, rfl, .inr ⟨by decide, by decide⟩, .int low, rfl, _, _, rfl, rfl, ?_⟩
        exact fin _ (by show 0 ≤ (tp * 2147483587 + mid) * 2147483563 + low; omega)
theorem scDraw : FnScope ["pen", "below", "digit"] ["pen", "below"] (defScope sDraw) := ⟨rfl, rfl, rfl, by decide +kernel, rfl, by decide +kernel, by decide +kernel⟩
theorem ok_draw {f fN : Addr} {fd fdN : FuncData} {k : Nat} (F : Fun K "_law_draw" "_law_draw" sDraw f fd) (FN : Fun K "_law_next" "_law_next" sNext fN fdN) (bN : Binds K fdN ["pen"] []) (gN : mg "_law_next" = some (.ref fN)) (ml : mg "len" = none) :
    FnOk P w K mg base CX0 (k + 2) f fd ["pen", "below"] spDraw := by
  have GN : FnOk P w K mg base CX0 (k + 1) fN fdN ["pen"] spNext := ok_next FN ml
  refine F.ok scDraw (fun vs H Q E h => ?_) (fun cdv A outer s H vs Q E hr h => ?_)
  · obtain ⟨p, c, n, m, below, rfl, _⟩ := h
    rfl
  · obtain ⟨p, c, n, m, below, rfl, ⟨ns, i, z, hp⟩, hn, hb0, hb1, q⟩ := h
    have nd := scDraw.nd
    refine ⟨_, C8.pss_cut (ps_if (pt_cmpR op_lt (pe_ix ix_list (pv 0) pe_int (fun _ _ => rfl)) (pv 1) (nomark _))
        (pss_one (ps_asg (pe_call GN hr (by rfl) gN FN.kp bN .nil pass0 (pa_cons (pv 0) pa_nil)) (pg_sub (pv 0) pe_int set_list))) pss_nil)
      (pss_cons (ps_set (i := 2) nd rfl (.inl rfl) (pe_op op_mod (pe_ix ix_list (pv 0) pe_int (fun _ _ => rfl)) (pv 1)))
      (pss_cons (ps_asg (pe_op op_fdiv (pe_ix ix_list (pv 0) pe_int (fun _ _ => rfl)) (pv 1)) (pg_sub (pv 0) pe_int set_list))
      (pss_one (ps_ret (pv 2))))), ?_⟩
    refine ⟨fun σ H2 => σ = [some (.ref p), some (.int below), none] ∧ But p H H2 ∧ ∃ i z, PenAt H2 p (n + 1) m c ns i z, ?_, ?_⟩
    · refine ⟨.ref p, rfl, p, _, 2, .int z, rfl, rfl, SqL.of hp.at_, atI_nat (j := 2) rfl, .int below, rfl, _, _, rfl, rfl, _, rfl, ?_⟩
      refine ite2 (fun _ => ?_) (fun _ => ⟨rfl, .refl _ _, i, z, hp.mono (Nat.le_succ _)⟩)
      refine ⟨.ref p, rfl, p, n, m, c, ns, i, z, rfl, hp, hn, fun x H1 hx b1 hp1 => ?_⟩
      refine ⟨.ref p, rfl, p, _, 2, 2, rfl, rfl, hp1.at_, ix2, ?_⟩
      exact ⟨rfl, b1.trans .upd, i + 1, x, hp1.next hp1.i0 hp1.i1 hx⟩
    · rintro σ H2 ⟨rfl, b2, i', z', hp2⟩
      refine ⟨.ref p, rfl, p, _, 2, .int z', rfl, rfl, SqL.of hp2.at_, atI_nat (j := 2) rfl, .int below, rfl, _, _, rfl, rfl, hb0, ?_⟩
      refine ⟨.ref p, rfl, p, _, 2, .int z', rfl, rfl, SqL.of hp2.at_, atI_nat (j := 2) rfl, .int below, rfl, _, _, rfl, rfl, ⟨hb0, hb1⟩, .ref p, rfl, p, _, 2, 2, rfl, rfl, hp2.at_, ix2, ?_⟩
      refine ⟨_, rfl, q _ _ (Int.emod_nonneg _ (by omega)) (Int.emod_lt_of_pos _ hb0) (b2.trans .upd) ⟨ns, i', z' / below, hp2.next hp2.i0 hp2.i1 (Int.ediv_nonneg hp2.s0 (by omega))⟩⟩
end
/-! ### has_only, is_prefix -/
def spHas : Sp := fun vs H Q _ => ∃ x y : Str, vs = [.str x, .str y] ∧ x.length ≤ sizeLine ∧ Q (.bl (onlyOf y x)) H
def spPfx (K : PySem.W.Frag) : Sp := fun vs H Q _ => ∃ (v : V) (w : Int), vs = [v, .int w] ∧ TyS K H v ∧ (∀ x, v = .str x → x.length ≤ sizeLine) ∧ Q (.bl (isPfx v w)) H
section
variable {P : Program} {w : World} {K : PySem.W.Frag} {mg : Str → Option Value} {base : Heap}
theorem scHas : FnScope ["text", "signs"] ["text", "signs"] (defScope sHas) := ⟨rfl, rfl, rfl, by decide +kernel, rfl, by decide +kernel, by decide +kernel⟩
theorem ok_has {f : Addr} {fd : FuncData} {k : Nat} (F : Fun K "has_only" "has_only" sHas f fd) : FnOk P w K mg base CX0 (k + 1) f fd ["text", "signs"] spHas := by
  refine F.ok scHas (fun vs H Q E h => ?_) (fun cdv A outer s H vs Q E hr h => ?_)
  · obtain ⟨x, y, rfl, _⟩ := h
    rfl
  · obtain ⟨x, y, rfl, hl, q⟩ := h
    refine ⟨_, pss_one (ps_ret (pe_cmpR op_eq (pe_bm PySem.F.plainAttrs_str PySem.F.slot_str_lstrip PySem.F.type_str_lstrip mt_lstripChars (pv 0) (pa_cons (pv 1) pa_nil)) pe_str (nomark _))), ?_⟩
    refine ⟨.str x, rfl, rfl, .str y, rfl, x, y, rfl, rfl, hl, rfl, ?_⟩
    show Q (.bl (decide (V.str (Txt.lstripChars x y) = V.str ""))) H
    rw [lstrip_empty]
    exact q
theorem scPfx : FnScope ["thing", "width"] ["thing", "width"] (defScope sPfx) := ⟨rfl, rfl, rfl, by decide +kernel, rfl, by decide +kernel, by decide +kernel⟩
theorem ok_pfx {f fH : Addr} {fd fdH : FuncData} {k : Nat} (F : Fun K "is_prefix" "is_prefix" sPfx f fd) (FH : Fun K "has_only" "has_only" sHas fH fdH) (bH : Binds K fdH ["text", "signs"] []) (gH : mg "has_only" = some (.ref fH))
    (mi : mg "isinstance" = none) (ms : mg "str" = none) (ml : mg "len" = none) : FnOk P w K mg base CX0 (k + 2) f fd ["thing", "width"] (spPfx K) := by
  have GH : FnOk P w K mg base CX0 (k + 1) fH fdH ["text", "signs"] spHas := ok_has FH
  refine F.ok scPfx (fun vs H Q E h => ?_) (fun cdv A outer s H vs Q E hr h => ?_)
  · obtain ⟨v, w, rfl, _⟩ := h
    rfl
  · obtain ⟨v, w, rfl, ⟨t, ty, kt⟩, hl, q⟩ := h
    refine ⟨_, pss_one (ps_ret (pe_and (pe_callB call_isi (by rfl) mi (by decide +kernel) (pa_cons (pv 0) (pa_cons (pe_bltn (v := .ty "str") (by rfl) ms (by decide +kernel) rfl) pa_nil)))
      (pe_and (pe_cmpR op_le (pe_callB call_len_str (by rfl) ml PySem.boot_len (pa_cons (pv 0) pa_nil)) (pv 1) (nomark _))
        (pe_one (pe_call GH hr (by rfl) gH FH.kp bH .nil pass0 (pa_cons (pv 0) (pa_cons pe_str pa_nil))))))), ?_⟩
    refine ⟨v, rfl, v, .ty "str", .type t, .type "str", _, rfl, .ty _, ty, kt, _, rfl, ?_⟩
    cases v with
    | str x =>
      refine iteT ?_
      have hx := hl x rfl
      refine ⟨.str x, rfl, x, rfl, hx, .int w, rfl, _, _, rfl, rfl, _, rfl, ?_⟩
      by_cases hw : (x.length : Int) ≤ w
      · rw [decide_eq_true hw]
        refine iteT ⟨.str x, rfl, x, _, rfl, hx, ?_⟩
        have e : isPfx (.str x) w = isBits x := by
          show (decide ((x.length : Int) ≤ w) && isBits x) = isBits x
          rw [decide_eq_true hw, Bool.true_and]
        rw [e] at q
        exact q
      · rw [decide_eq_false hw]
        refine iteF ?_
        have e : isPfx (.str x) w = false := by
          show (decide ((x.length : Int) ≤ w) && isBits x) = false
          rw [decide_eq_false hw, Bool.false_and]
        rw [e] at q
        exact q
    | _ => exact iteF q
end
/-! ### _law_any: some data, new, of few levels -/
def anyCost : Nat → Nat
  | 0 => 1
  | l + 1 => 2 + 3 * anyCost l
def anyB : Nat → Nat
  | 0 => 64
  | l + 1 => 3 * (anyB l + 30) + 30
/-- what the call hands back: data that stands apart from all that was tracked -/
def spAny (K : PySem.W.Frag) (lv : Nat) : Sp := fun vs H Q _ => ∃ (p c : Addr) (n : Nat) (m : List V), vs = [.ref p, .int lv] ∧ Pen H p c n m ∧ n + anyCost lv ≤ PB ∧
  ∀ (v : V) (d : PyData) (H' : Hp), But p H H' → Pen H' p c (n + anyCost lv) m → Dr K H' (fun a => H a = none) v d → OkD lv (anyB lv) d → (∀ x, v = .str x → x.length ≤ 100) → Q v H'
def menuL : List V := [.int 0, .int 1, .int (-1), .bl true, .non, .str "", .str "0", .str "a", .str "aA", .int (10 ^ 39), .str "10"]
theorem menu_get {K : PySem.W.Frag} {H : Hp} {N : Addr → Prop} (r : Int) (h0 : 0 ≤ r) (h1 : r < 11) : ∃ v d, atI menuL r = some v ∧ Dr K H N v d ∧ OkD 0 64 d ∧ ∀ x, v = .str x → x.length ≤ 100 := by
  obtain rfl | rfl | rfl | rfl | rfl | rfl | rfl | rfl | rfl | rfl | rfl : r = 0 ∨ r = 1 ∨ r = 2 ∨ r = 3 ∨ r = 4 ∨ r = 5 ∨ r = 6 ∨ r = 7 ∨ r = 8 ∨ r = 9 ∨ r = 10 := by omega
  · exact ⟨_, _, rfl, .int _, ⟨by decide +kernel, by decide +kernel, by decide +kernel⟩, fun _ e => nomatch e⟩
  · exact ⟨_, _, rfl, .int _, ⟨by decide +kernel, by decide +kernel, by decide +kernel⟩, fun _ e => nomatch e⟩
  · exact ⟨_, _, rfl, .int _, ⟨by decide +kernel, by decide +kernel, by decide +kernel⟩, fun _ e => nomatch e⟩
  · exact ⟨_, _, rfl, .bl _, ⟨by decide +kernel, by decide +kernel, by decide +kernel⟩, fun _ e => nomatch e⟩
  · exact ⟨_, _, rfl, .non, ⟨by decide +kernel, by decide +kernel, by decide +kernel⟩, fun _ e => nomatch e⟩
  · exact ⟨_, _, rfl, .str _, ⟨by decide +kernel, by decide +kernel, by decide +kernel⟩, fun x e => by cases e; decide +kernel⟩
  · exact ⟨_, _, rfl, .str _, ⟨by decide +kernel, by decide +kernel, by decide +kernel⟩, fun x e => by cases e; decide +kernel⟩
  · exact ⟨_, _, rfl, .str _, ⟨by decide +kernel, by decide +kernel, by decide +kernel⟩, fun x e => by cases e; decide +kernel⟩
  · exact ⟨_, _, rfl, .str _, ⟨by decide +kernel, by decide +kernel, by decide +kernel⟩, fun x e => by cases e; decide +kernel⟩
  · exact ⟨_, _, rfl, .int _, ⟨by decide +kernel, by decide +kernel, by decide +kernel⟩, fun _ e => nomatch e⟩
  · exact ⟨_, _, rfl, .str _, ⟨by decide +kernel, by decide +kernel, by decide +kernel⟩, fun x e => by cases e; decide +kernel⟩
section
variable {P : Program} {w : World} {K : PySem.W.Frag} {mg : Str → Option Value} {base : Heap}
theorem scAny : FnScope ["pen", "levels", "road", "parts", "turn", "k"] ["pen", "levels"] (defScope sAny) := ⟨rfl, rfl, rfl, by decide +kernel, rfl, by decide +kernel, by decide +kernel⟩
theorem ok_any0 {f fD : Addr} {fd fdD : FuncData} {k : Nat} (F : Fun K "_law_any" "_law_any" sAny f fd) (GD : FnOk P w K mg base CX0 k fD fdD ["pen", "below"] spDraw) (FD : Fun K "_law_draw" "_law_draw" sDraw fD fdD) (bD : Binds K fdD ["pen", "below"] []) (gD : mg "_law_draw" = some (.ref fD)) :
    FnOk P w K mg base CX0 (k + 1) f fd ["pen", "levels"] (spAny K 0) := by
  refine F.ok scAny (fun vs H Q E h => ?_) (fun cdv A outer s H vs Q E hr h => ?_)
  · obtain ⟨p, c, n, m, rfl, _⟩ := h
    rfl
  · obtain ⟨p, c, n, m, rfl, hp, hn, q⟩ := h
    have nd := scAny.nd
    refine ⟨_, pss_cons (ps_set (i := 2) nd rfl (.inl rfl) (pe_call GD hr (by rfl) gD FD.kp bD .nil pass0 (pa_cons (pv 0) (pa_cons (pe_ifExp (pt_cmpR op_gt (pv 1) pe_int (nomark _)) pe_int pe_int) pa_nil))))
      (pss_cons (ps_if (pt_cmpR op_lt (pv 2) pe_int (nomark _)) (pss_one (ps_ret (pe_ix ix_list (pe_lst (pa_cons pe_int (pa_cons pe_int (pa_cons (pe_un un_neg pe_int) (pa_cons pe_bl (pa_cons pe_non (pa_cons pe_str (pa_cons pe_str
          (pa_cons pe_str (pa_cons pe_str (pa_cons (pe_op op_pow pe_int pe_int) (pa_cons pe_str pa_nil)))))))))))) (pv 2) (fun _ _ => rfl)))) pss_nil)
      (pss_cons ps_never (pss_cons ps_never (pss_cons ps_never (pss_one ps_never))))), ?_⟩
    refine ⟨.ref p, rfl, .int 0, rfl, _, _, rfl, rfl, _, rfl, iteF ?_⟩
    refine ⟨p, c, n, m, 11, rfl, hp, by have : n + 1 ≤ PB := hn; omega, by decide, by decide, fun r H1 r0 r1 b1 p1 => ?_⟩
    refine ⟨.int r, rfl, _, _, rfl, rfl, _, rfl, ite2 (fun _ => ?_) (fun e => absurd (decide_eq_true r1) e)⟩
    refine ⟨_, rfl, _, _, rfl, rfl, ⟨by decide, by decide, by decide⟩, by show 11 ≤ sizeLine; decide, fun l nl => ?_⟩
    have s2 : Same H1 (upd H1 l (.lst menuL)) := same_upd nl
    obtain ⟨v, d, hv, hd, hok, hx⟩ := menu_get (K := K) (H := upd H1 l (.lst menuL)) (N := fun a => H a = none) r r0 r1
    refine ⟨.int r, rfl, l, menuL, r, v, rfl, rfl, SqL.of upd_same, hv, ?_⟩
    exact q v d _ (b1.trans (.of_same s2)) (p1.keep s2) hd hok hx
end
def keysL : List Key := [.inr "a", .inr "b", .inr "c", .inl 0]
theorem keysL_nd : keysL.Nodup := by decide +kernel
theorem keysL_ok {k : Key} (h : k ∈ keysL) : OkD 0 8 (keyD k) := by
  simp only [keysL, List.mem_cons, List.not_mem_nil, or_false] at h
  obtain rfl | rfl | rfl | rfl := h <;> exact ⟨by decide +kernel, by decide +kernel, by decide +kernel⟩
section
variable {P : Program} {w : World} {K : PySem.W.Frag} {mg : Str → Option Value} {base : Heap}
theorem ok_anyS {f fD : Addr} {fd fdD : FuncData} {k l : Nat} (F : Fun K "_law_any" "_law_any" sAny f fd) (GA : FnOk P w K mg base CX0 k f fd ["pen", "levels"] (spAny K l)) (bA : Binds K fd ["pen", "levels"] []) (gA : mg "_law_any" = some (.ref f))
    (GD : FnOk P w K mg base CX0 k fD fdD ["pen", "below"] spDraw) (FD : Fun K "_law_draw" "_law_draw" sDraw fD fdD) (bD : Binds K fdD ["pen", "below"] []) (gD : mg "_law_draw" = some (.ref fD))
    (mr : mg "range" = none) (md : mg "dict" = none) (ml : mg "len" = none) (mt : mg "tuple" = none) :
    FnOk P w K mg base CX0 (k + 1) f fd ["pen", "levels"] (spAny K (l + 1)) := by
  refine F.ok scAny (fun vs H Q E h => ?_) (fun cdv A outer s H vs Q E hr h => ?_)
  · obtain ⟨p, cc, n, m, rfl, _⟩ := h
    rfl
  · obtain ⟨p, cc, n, m, rfl, hp, hn, q⟩ := h
    have nd := scAny.nd
    refine ⟨_, pss_cons (ps_set (i := 2) nd rfl (.inl rfl) (pe_call GD hr (by rfl) gD FD.kp bD .nil pass0 (pa_cons (pv 0) (pa_cons (pe_ifExp (pt_cmpR op_gt (pv 1) pe_int (nomark _)) pe_int pe_int) pa_nil))))
      (pss_cons (ps_if (pt_cmpR op_lt (pv 2) pe_int (nomark _)) (pss_one (ps_ret (pe_ix ix_list (pe_lst (pa_cons pe_int (pa_cons pe_int (pa_cons (pe_un un_neg pe_int) (pa_cons pe_bl (pa_cons pe_non (pa_cons pe_str (pa_cons pe_str
          (pa_cons pe_str (pa_cons pe_str (pa_cons (pe_op op_pow pe_int pe_int) (pa_cons pe_str pa_nil)))))))))))) (pv 2) (fun _ _ => rfl)))) pss_nil)
      (pss_cons (ps_set (i := 3) nd rfl (.inr rfl) (pe_lc (own := [("turn", 4)]) (g := gName 4) (tt := tYes) rfl nd
          (pi_range1 (by rfl) mr (pa_cons (pe_call GD hr (by rfl) gD FD.kp bD .nil pass0 (pa_cons (pv 0) (pa_cons pe_int pa_nil))) pa_nil))
          (blkOk_by (N := ["pen", "levels", "road", "parts", "turn", "k"]) (sc := defScope sAny) (by decide +kernel)) (fun _ _ _ _ _ => pg_name (i := 4) nd rfl (.inl rfl)) (fun _ _ _ _ _ => pts_nil)
          (fun _ _ _ _ _ => pe_call GA hr (by rfl) gA F.kp bA .nil pass0 (pa_cons (pv 0) (pa_cons (pe_op op_sub (pv 1) pe_int) pa_nil)))))
      (pss_cons (ps_if (pt_cmpR op_eq (pv 2) pe_int (nomark _)) (pss_one (ps_ret (pv 3))) pss_nil)
      (pss_cons (ps_if (pt_cmpR op_eq (pv 2) pe_int (nomark _)) (pss_one (ps_ret (pe_callTy (call_dictP rfl) (by rfl) md (by decide +kernel) (pa_cons
          (pe_lc (own := [("k", 5)]) (g := gName 5) (tt := tYes) rfl nd (pi_range1 (by rfl) mr (pa_cons (pe_callB call_len_seq (by rfl) ml PySem.boot_len (pa_cons (pv 3) pa_nil)) pa_nil))
            (blkOk_by (N := ["pen", "levels", "road", "parts", "turn", "k"]) (sc := defScope sAny) (by decide +kernel)) (fun _ _ _ _ _ => pg_name (i := 5) nd rfl (.inl rfl)) (fun _ _ _ _ _ => pts_nil)
            (fun _ _ _ _ _ => pe_tup (pa_cons (pe_ix (r := rIxL K) ix_list (pe_lst (pa_cons pe_str (pa_cons pe_str (pa_cons pe_str (pa_cons pe_int pa_nil))))) (pv 5) (fun _ _ => rfl)) (pa_cons (pe_ix (r := rIxL K) ix_list (pv 3) (pv 5) (fun _ _ => rfl)) pa_nil)))) pa_nil)))) pss_nil)
      (pss_one (ps_ret (pe_callTy call_tuple_of (by rfl) mt (by decide +kernel) (pa_cons (pv 3) pa_nil)))))))), ?_⟩
    have hn' : n + (2 + 3 * anyCost l) ≤ PB := hn
    refine ⟨.ref p, rfl, .int ((l + 1 : Nat) : Int), rfl, _, _, rfl, rfl, _, rfl, ?_⟩
    rw [show decide ((0 : Int) < ((l + 1 : Nat) : Int)) = true from decide_eq_true (by omega)]
    refine iteT ⟨p, cc, n, m, 15, rfl, hp, by omega, by decide, by decide, fun r H1 r0 r1 b1 p1 => ?_⟩
    refine ⟨.int r, rfl, _, _, rfl, rfl, _, rfl, ite2 (fun e => ?_) (fun e => ?_)⟩
    · have r11 : r < 11 := of_decide_eq_true e
      refine ⟨_, rfl, _, _, rfl, rfl, ⟨by decide, by decide, by decide⟩, by show 11 ≤ sizeLine; decide, fun l' nl => ?_⟩
      have s2 : Same H1 (upd H1 l' (.lst menuL)) := same_upd nl
      obtain ⟨v, d, hv, hd, hok, hx⟩ := menu_get (K := K) (H := upd H1 l' (.lst menuL)) (N := fun a => H a = none) r r0 r11
      refine ⟨.int r, rfl, l', menuL, r, v, rfl, rfl, SqL.of upd_same, hv, ?_⟩
      refine q v d _ (b1.trans (.of_same s2)) ((p1.keep s2).mono ?_) hd (hok.mono (Nat.zero_le _) ?_) hx
      · show n + 1 ≤ n + (2 + 3 * anyCost l)
        omega
      · show 64 ≤ 3 * (anyB l + 30) + 30
        omega
    · -- parts
      refine ⟨.ref p, rfl, p, cc, n + 1, m, 4, rfl, p1, by omega, by decide, by decide, fun c H2 c0 c1 b2 p2 => ?_⟩
      refine ⟨c, rfl, by omega, by omega, fun D nD => ?_⟩
      have b12 : But p H H2 := b1.trans b2
      have nDp : D ≠ p := p2.ne_p nD
      have nDc : D ≠ cc := p2.ne_c nD
      have hD0 : H D = none := b12.free nDp nD
      refine lc_range (n := c.toNat) (fun i H' => ∃ vs ds, H' D = some (.lst vs) ∧ vs.length = i ∧ DrAll K H' (fun a => H a = none ∧ a ≠ D) vs ds ∧ (∀ d ∈ ds, OkD l (anyB l) d) ∧ But p H H' ∧ Pen H' p cc (n + 2 + i * anyCost l) m) ?_ ?_ ?_
      · refine ⟨[], [], upd_same, rfl, .nil, fun _ h => absurd h List.not_mem_nil, b12.trans (.of_same (same_upd nD)), (p2.keep (same_upd nD)).mono (by omega)⟩
      · rintro i H' hi ⟨vs, ds, hD, hl, hall, hok, bH, pH⟩
        refine ⟨rfl, yes_if ?_⟩
        have hc : i * anyCost l + anyCost l ≤ 3 * anyCost l := by
          have : (i + 1) * anyCost l ≤ 3 * anyCost l := Nat.mul_le_mul_right _ (by omega)
          rw [Nat.succ_mul] at this
          exact this
        refine ⟨.ref p, rfl, .int ((l + 1 : Nat) : Int), rfl, _, _, rfl, rfl, p, cc, n + 2 + i * anyCost l, m, ?_, pH, by omega, fun v d H3 b3 p3 hd hdk hx => ?_⟩
        · have e : ((l + 1 : Nat) : Int) - 1 = (l : Int) := by omega
          show [V.ref p, V.int (((l + 1 : Nat) : Int) - 1)] = _
          rw [e]
        have old : ∀ a, H' a = none → H a = none ∧ a ≠ D := fun a ha => ⟨bH.free (pH.ne_p ha) ha, fun e => by rw [e, hD] at ha; cases ha⟩
        have hD3 : H3 D = some (.lst vs) := b3 D _ nDp hD
        refine ⟨vs, hD3, Nat.lt_of_le_of_lt (show vs.length ≤ 1000 by omega) (by decide), vs ++ [v], ds ++ [d], upd_same, by rw [List.length_append, hl]; rfl, ?_, ?_, ?_, ?_⟩
        · refine DrAll.snoc ?_ ?_
          · refine hd.move (fun a o ha e => ?_) old
            rw [upd_ne (old a ha).2]
            exact e
          · refine hall.move (fun a o ha e => ?_) fun _ h => h
            rw [upd_ne ha.2]
            exact b3 a o (hp.ne_p ha.1) e
        · intro x hx
          rcases List.mem_append.mp hx with hx | hx
          · exact hok x hx
          · rw [List.mem_singleton.mp hx]
            exact hdk
        · intro a o na ha
          have naD : a ≠ D := fun e' => by
            rw [e', hD0] at ha
            cases ha
          rw [upd_ne naD]
          exact b3 a o na (bH a o na ha)
        · have e : n + 2 + (i + 1) * anyCost l = n + 2 + i * anyCost l + anyCost l := by rw [Nat.succ_mul]; omega
          rw [e]
          exact p3.off nDp nDc
      · rintro H' ⟨vs, ds, hD, hl, hall, hok, bH, pH⟩
        have hl3 : vs.length ≤ 3 := by omega
        have hds : ds.length = vs.length := hall.len.symm
        have pE : Pen H' p cc (n + anyCost (l + 1)) m := pH.mono (by
          have : c.toNat * anyCost l ≤ 3 * anyCost l := Nat.mul_le_mul_right _ (by omega)
          show _ ≤ n + (2 + 3 * anyCost l)
          omega)
        have hall' : DrAll K H' (fun a => H a = none) vs ds := hall.move (fun _ _ _ e => e) fun _ h => h.1
        refine ⟨.int r, rfl, rfl, _, rfl, ite2 (fun _ => ?_) (fun _ => ?_)⟩
        · refine ⟨.ref D, rfl, q (.ref D) (.list ds) H' bH pE (.lst hD0 (SqL.of hD) hall') ((OkD.list (n := 3) (by omega) hok).mono (Nat.le_refl _) ?_) fun _ e => nomatch e⟩
          show 3 * (anyB l + 2) + 2 ≤ 3 * (anyB l + 30) + 30
          omega
        refine ⟨.int r, rfl, rfl, _, rfl, ite2 (fun _ => ?_) (fun _ => ?_)⟩
        · have hsz : vs.length < 100 := by omega
          refine ⟨.ref D, rfl, D, vs, rfl, .inl (SqL.of hD), (vs.length : Int), rfl, by omega, by omega, fun G nG => ?_⟩
          have nGD : D ≠ G := ne_of_none hD nG
          refine lc_range (n := ((vs.length : Nat) : Int).toNat) (fun i H'' => ∃ ps : List Addr, H'' G = some (.lst (ps.map V.ref)) ∧ ps.length = i ∧ Paired (fun a kv => SqT K H'' a [kV kv.1, kv.2]) ps ((keysL.zip vs).take i) ∧ Same H' H'') ?_ ?_ ?_
          · exact ⟨[], upd_same, rfl, .nil, same_upd nG⟩
          · rintro i H'' hi ⟨ps, hG, hpl, hps, sm⟩
            have hiv : i < vs.length := hi
            refine ⟨rfl, yes_if ?_⟩
            refine ⟨by show 4 ≤ sizeLine; decide, fun b nb => ?_⟩
            have s1 : Same H'' (upd H'' b (.lst [.str "a", .str "b", .str "c", .int 0])) := same_upd nb
            have hk : ∃ key, keysL[i]? = some key ∧ ([.str "a", .str "b", .str "c", .int 0] : List V)[i]? = some (kV key) := by
              obtain rfl | rfl | rfl : i = 0 ∨ i = 1 ∨ i = 2 := by omega
              · exact ⟨_, rfl, rfl⟩
              · exact ⟨_, rfl, rfl⟩
              · exact ⟨_, rfl, rfl⟩
            obtain ⟨key, k1, k2⟩ := hk
            have hv : vs[i]? = some vs[i] := List.getElem?_eq_getElem hiv
            refine ⟨.int (0 + i), rfl, b, _, _, kV key, rfl, rfl, SqL.of upd_same, at_of (Int.zero_add _) k2, .ref D, rfl, .int (0 + i), rfl, D, vs, _, vs[i], rfl, rfl, SqL.of (s1 _ _ (sm _ _ hD)), at_of (Int.zero_add _) hv, by show 2 ≤ sizeLine; decide, fun t nt => ?_⟩
            have s2 := same_upd (o := .tup [kV key, vs[i]]) nt
            have hG2 := s2 _ _ (s1 _ _ hG)
            have ntG : t ≠ G := fun e => by rw [e, s1 _ _ hG] at nt; cases nt
            have zg : (keysL.zip vs)[i]? = some (key, vs[i]) := by
              rw [List.getElem?_zip_eq_some]
              exact ⟨k1, hv⟩
            refine ⟨_, hG2, Nat.lt_of_le_of_lt (show (ps.map V.ref).length ≤ 1000 by rw [List.length_map]; omega) (by decide), ps ++ [t], by rw [upd_same, List.map_append]; rfl, by rw [List.length_append, hpl]; rfl, ?_, ?_⟩
            · rw [List.take_add_one, zg]
              refine Paired.snoc (hps.mono fun a kv h => ?_) ?_
              · have h2 := h
                rcases h with (h | ⟨o, h⟩) | h
                · have na : a ≠ G := ne_of h hG (fun e => nomatch e)
                  exact .inl (.inl (by rw [upd_ne na]; exact s2 _ _ (s1 _ _ h)))
                · have na : a ≠ G := ne_of h hG (fun e => nomatch e)
                  exact .inl (.inr ⟨o, by rw [upd_ne na]; exact s2 _ _ (s1 _ _ h)⟩)
                · exact .inr h
              · refine .inl (.inl ?_)
                rw [upd_ne ntG, upd_same]
            · intro a o ha
              have naG : a ≠ G := ne_of_none ha nG
              rw [upd_ne naG]
              exact s2 _ _ (s1 _ _ (sm _ _ ha))
          · rintro H'' ⟨ps, hG, hpl, hps, sm⟩
            have ez : (keysL.zip vs).take ((vs.length : Nat) : Int).toNat = keysL.zip vs := List.take_of_length_le (by
              rw [List.length_zip]
              show min 4 vs.length ≤ vs.length
              omega)
            rw [ez] at hps
            refine ⟨G, ps, keysL.zip vs, rfl, SqL.of hG, hps, fun b nb => ?_⟩
            have em : mergeK [] (keysL.zip vs) = keysL.zip vs := by
              rw [mergeK_nd _ _ (by rw [List.nil_append]; exact nodup_zip keysL_nd vs), List.nil_append]
            rw [em]
            have s3 : Same H' (upd H'' b (.dK (keysL.zip vs))) := sm.trans (same_upd nb)
            have bH3 : But p H (upd H'' b (.dK (keysL.zip vs))) := bH.trans (.of_same s3)
            have pE3 := pE.keep s3
            have hb0 : H b = none := (bH.trans (.of_same sm)).free ((pE.keep sm).ne_p nb) nb
            refine q (.ref b) (.dict ((keysL.map keyD).zip ds)) _ bH3 pE3 (.dic hb0 (.inl upd_same) (DrKv.zip keysL (hall'.move (fun a o _ e => s3 a o e) fun _ h => h))) ((OkD.dict (n := 3) (C := 8) (B := anyB l) ?_ fun d hd => ?_).mono (Nat.le_refl _) ?_) fun _ e => nomatch e
            · rw [List.length_zip]
              omega
            · obtain ⟨h1, h2⟩ := List.of_mem_zip hd
              obtain ⟨key, hk, e⟩ := List.mem_map.mp h1
              rw [← e]
              exact ⟨(keysL_ok hk).mono (Nat.zero_le _) (Nat.le_refl _), hok _ h2⟩
            · show 3 * (8 + anyB l + 4) + 2 ≤ 3 * (anyB l + 30) + 30
              omega
        · refine ⟨.ref D, rfl, D, vs, rfl, .inl ⟨SqL.of hD, fun b nb => ?_⟩⟩
          have s3 : Same H' (upd H' b (.tup vs)) := same_upd nb
          refine q (.ref b) (.tuple ds) _ (bH.trans (.of_same s3)) (pE.keep s3) (.tup (bH.free (pE.ne_p nb) nb) (.inl (.inl upd_same)) (hall'.move (fun a o _ e => s3 a o e) fun _ h => h)) ((OkD.tuple (n := 3) (by omega) hok).mono (Nat.le_refl _) ?_) fun _ e => nomatch e
          show 3 * (anyB l + 2) + 3 ≤ 3 * (anyB l + 30) + 30
          omega
end
/-! ### the law -/
def sizesL : List V := [.int 0, .int 1, .int 2, .int 5, .int 6, .int 31, .int 32, .int 33, .int 40]
theorem size_get (r : Int) (h0 : 0 ≤ r) (h1 : r < 9) : ∃ z : Nat, atI sizesL r = some (.int z) ∧ z ≤ 40 := by
  obtain rfl | rfl | rfl | rfl | rfl | rfl | rfl | rfl | rfl : r = 0 ∨ r = 1 ∨ r = 2 ∨ r = 3 ∨ r = 4 ∨ r = 5 ∨ r = 6 ∨ r = 7 ∨ r = 8 := by omega
  · exact ⟨0, rfl, by decide⟩
  · exact ⟨1, rfl, by decide⟩
  · exact ⟨2, rfl, by decide⟩
  · exact ⟨5, rfl, by decide⟩
  · exact ⟨6, rfl, by decide⟩
  · exact ⟨31, rfl, by decide⟩
  · exact ⟨32, rfl, by decide⟩
  · exact ⟨33, rfl, by decide⟩
  · exact ⟨40, rfl, by decide⟩
/-- a sign of a written text -/
theorem sign_get {x : Str} (hx : ∀ c ∈ sg x, c < 128) (r : Int) (h0 : 0 ≤ r) (h1 : r < (x.length : Int)) : ∃ c, atI (sg x) r = some c ∧ c < 128 := by
  have hl : r.toNat < (sg x).length := by rw [sg_len]; omega
  refine ⟨(sg x)[r.toNat], at_nat (by omega) hl, hx _ (List.getElem_mem hl)⟩
where
  at_nat {l : List Nat} {r : Int} (h0 : 0 ≤ r) (hl : r.toNat < l.length) : atI l r = some l[r.toNat] := by
    have e : r = ((r.toNat : Nat) : Int) := by omega
    have h := atI_nat (xs := l) (j := r.toNat) (List.getElem?_eq_getElem hl)
    rw [← e] at h
    exact h
abbrev SIG : Str := " !+-/2:Oloab\n\t.\"'\\"
theorem sig_ch : ∀ c ∈ sg SIG, c < 128 := by decide +kernel
theorem sig_len : SIG.length ≤ 30 ∧ 0 < SIG.length := by decide +kernel
/-- an item of the law's list: some data -/
def Itm (K : PySem.W.Frag) (N : Addr → Prop) (H : Hp) (v : V) : Prop := ∃ d, Dr K H N v d ∧ OkD 5 70000 d ∧ ∀ x, v = .str x → x.length ≤ 6000
theorem Itm.move {K : PySem.W.Frag} {N : Addr → Prop} {H H' : Hp} {v : V} (k : ∀ a o, N a → H a = some o → H' a = some o) (h : Itm K N H v) : Itm K N H' v := by
  obtain ⟨d, h1, h2, h3⟩ := h
  exact ⟨d, h1.move k fun _ h => h, h2, h3⟩
theorem Itm.same {K : PySem.W.Frag} {N : Addr → Prop} {H H' : Hp} {v : V} (k : Same H H') (h : Itm K N H v) : Itm K N H' v := h.move fun a o _ e => k a o e
theorem Itm.str {K : PySem.W.Frag} {N : Addr → Prop} {H : Hp} {n : Nat} {x : Str} (h : Sm n x) (hn : n ≤ 6000) : Itm K N H (.str x) :=
  ⟨_, .str x, (h.ok (B := 70000) (by omega)).mono (Nat.zero_le _) (Nat.le_refl _), fun y e => by rw [← V.str.inj e]; exact Nat.le_trans h.ln hn⟩
def spLaw (K : PySem.W.Frag) : Sp := fun vs H Q _ => ∃ (a : Addr) (ns : List Int), vs = [.ref a] ∧ SqL K H a (ns.map V.int) ∧ ns.length ≤ 63 ∧ ∀ H', Q (.bl true) H'
abbrev NL : List Str := ["script", "pen", "signs", "turn", "size", "thing", "spot", "sign", "odd", "things", "one", "most", "seen", "due", "k", "bit"]
section
variable {P : Program} {w : World} {K : PySem.W.Frag} {mg : Str → Option Value} {base : Heap}
theorem scLaw : FnScope NL ["script"] (defScope sLaw) := ⟨rfl, rfl, rfl, by decide +kernel, rfl, by decide +kernel, by decide +kernel⟩
structure Txt2 (mg : Str → Option Value) : Prop where
  range : mg "range" = none
  len : mg "len" = none
  repr : mg "repr" = none
  isi : mg "isinstance" = none
  str : mg "str" = none
  all : mg "all" = none
theorem ok_law {f fP fD fA fI : Addr} {fd fdP fdD fdA fdI : FuncData} (F : Fun K "law" "law" sLaw f fd) (T : Txt2 mg) (sys : ∃ mm, base.Ns sysModules mm)
    (GP : FnOk P w K mg base CX0 6 fP fdP ["script"] (spPen K)) (FP : Fun K "_law_pen" "_law_pen" sPen fP fdP) (bP : Binds K fdP ["script"] []) (gP : mg "_law_pen" = some (.ref fP))
    (GD : FnOk P w K mg base CX0 6 fD fdD ["pen", "below"] spDraw) (FD : Fun K "_law_draw" "_law_draw" sDraw fD fdD) (bD : Binds K fdD ["pen", "below"] []) (gD : mg "_law_draw" = some (.ref fD))
    (GA : FnOk P w K mg base CX0 6 fA fdA ["pen", "levels"] (spAny K 2)) (FA : Fun K "_law_any" "_law_any" sAny fA fdA) (bA : Binds K fdA ["pen", "levels"] []) (gA : mg "_law_any" = some (.ref fA))
    (GI : FnOk P w K mg base CX0 6 fI fdI ["thing", "width"] (spPfx K)) (FI : Fun K "is_prefix" "is_prefix" sPfx fI fdI) (bI : Binds K fdI ["thing", "width"] []) (gI : mg "is_prefix" = some (.ref fI)) :
    FnG P w K mg base 7 f fd ["script"] (spLaw K) := by
  refine okG F scLaw (fun vs H Q E h => ?_) (fun cdv A outer s H vs Q g hr h => ?_)
  · obtain ⟨a, ns, rfl, _⟩ := h
    rfl
  · obtain ⟨a, ns, rfl, hS, hlen, q⟩ := h
    have nd := scLaw.nd
    have hu := hr.units
    have calls := fun {X : Cx} (h1 : X.A.guards = some []) (h2 : X.A.units + 64 < cLine) (h3 : ∃ mm, X.base.Ns sysModules mm) => call_repr h1 h2 h3
    refine ⟨_, pss_cons (ps_set (i := 1) nd rfl (.inr rfl) (pe_call GP hr (by rfl) gP FP.kp bP .nil pass0 (pa_cons (pv 0) pa_nil)))
      (pss_cons (ps_set (i := 2) nd rfl (.inl rfl) pe_str)
      (pss_cons (ps_for PassesOwn.never rfl (pi_range1 (by rfl) T.range (pa_cons pe_int pa_nil)) (pg_name (i := 3) nd rfl (.inl rfl))
        (pss_cons (ps_set (i := 4) nd rfl (.inl rfl) (pe_ix ix_list (pe_lst (pa_cons pe_int (pa_cons pe_int (pa_cons pe_int (pa_cons pe_int (pa_cons pe_int (pa_cons pe_int (pa_cons pe_int (pa_cons pe_int (pa_cons pe_int pa_nil))))))))))
            (pe_call GD hr (by rfl) gD FD.kp bD .nil pass0 (pa_cons (pv 1) (pa_cons pe_int pa_nil))) (fun _ _ => rfl)))
        (pss_cons (ps_set (i := 5) nd rfl (.inl rfl) (pe_join pe_str (pe_lc (own := [("k", 14)]) (g := gName 14) (tt := tYes) rfl nd (pi_range1 (by rfl) T.range (pa_cons (pv 4) pa_nil))
            (blkOk_by (N := NL) (sc := defScope sLaw) (by decide +kernel)) (fun _ _ _ _ _ => pg_name (i := 14) nd rfl (.inl rfl)) (fun _ _ _ _ _ => pts_nil)
            (fun _ _ _ _ _ => pe_ix (r := rIxS) ix_str pe_str (pe_call GD hr (by rfl) gD FD.kp bD .nil pass0 (pa_cons (pv 1) (pa_cons pe_int pa_nil))) (fun _ _ => rfl)))))
        (pss_cons (ps_set (i := 6) nd rfl (.inl rfl) (pe_call GD hr (by rfl) gD FD.kp bD .nil pass0 (pa_cons (pv 1) (pa_cons (pe_op op_add (pe_callB call_len_str (by rfl) T.len PySem.boot_len (pa_cons (pv 5) pa_nil)) pe_int) pa_nil))))
        (pss_cons (ps_set (i := 7) nd rfl (.inl rfl) (pe_ix ix_str (pv 2) (pe_call GD hr (by rfl) gD FD.kp bD .nil pass0 (pa_cons (pv 1) (pa_cons (pe_callB call_len_str (by rfl) T.len PySem.boot_len (pa_cons (pv 2) pa_nil)) pa_nil))) (fun _ _ => rfl)))
        (pss_cons (ps_set (i := 8) nd rfl (.inl rfl) (pe_op op_add_str (pe_op op_add_str (pe_slice sl_str (pv 5) po_none (po_some (pv 6))) (pv 7)) (pe_slice sl_str (pv 5) (po_some (pv 6)) po_none)))
        (pss_cons (ps_set (i := 9) nd rfl (.inl rfl) (pe_lst (pa_cons (pv 5) (pa_cons (pv 8) (pa_cons (pe_op op_add_str (pe_op op_add_str (pe_slice sl_str (pv 5) po_none (po_some (pv 6))) (pv 7)) (pe_slice sl_str (pv 5) (po_some (pe_op op_add (pv 6) pe_int)) po_none))
            (pa_cons (pe_lst (pa_cons (pv 5) pa_nil)) (pa_cons (pe_tup (pa_cons (pv 5) pa_nil)) (pa_cons pe_non (pa_cons pe_int (pa_cons pe_int (pa_cons pe_bl (pa_cons pe_dnewK (pa_cons pe_str pa_nil)))))))))))))
        (pss_one (ps_for PassesOwn.never rfl (pi_list (pe_op op_cat (pv 9) (pe_lst (pa_cons (pe_call GA hr (by rfl) gA FA.kp bA .nil pass0 (pa_cons (pv 1) (pa_cons pe_int pa_nil))) (pa_cons (pe_op op_mulS pe_str pe_int) (pa_cons (pe_op op_pow pe_int pe_int) pa_nil))))))
            (pg_name (i := 10) nd rfl (.inl rfl))
          (pss_one (ps_for PassesOwn.never rfl (pi_tup (pe_tup (pa_cons pe_int (pa_cons pe_int (pa_cons pe_int (pa_cons pe_int (pa_cons pe_int pa_nil))))))) (pg_name (i := 11) nd rfl (.inl rfl))
            (pss_cons (ps_set (i := 12) nd rfl (.inl rfl) (pe_callB (calls g hu sys) (by rfl) T.repr (by decide +kernel) (pa_cons (pv 10) pa_nil)))
            (C8.pss_cut (ps_set (i := 13) nd rfl (.inl rfl) (pe_and (pe_callB call_isi (by rfl) T.isi (by decide +kernel) (pa_cons (pv 10) (pa_cons (pe_bltn (v := .ty "str") (by rfl) T.str (by decide +kernel) rfl) pa_nil)))
              (pe_and (pe_cmpR op_le (pe_callB call_len_str (by rfl) T.len PySem.boot_len (pa_cons (pv 10) pa_nil)) (pv 11) (nomark _))
              (pe_one (pe_callB (cr_all rfl) (by rfl) T.all (by decide +kernel) (pa_cons (pe_lc (own := [("bit", 15)]) (g := gName 15) (tt := tYes) rfl nd (pi_str (pv 10))
                (blkOk_by (N := NL) (sc := defScope sLaw) (by decide +kernel)) (fun _ _ _ _ _ => pg_name (i := 15) nd rfl (.inl rfl)) (fun _ _ _ _ _ => pts_nil)
                (fun _ _ _ _ _ => pe_cmpR (r := rIn K false) op_in_seq (pv 15) (pe_lst (pa_cons pe_str (pa_cons pe_str pa_nil))) (by rfl))) pa_nil))))))
            (pss_one (ps_if (PW.pt (pw_or (pt_cmpR op_ne (pe_callB (calls g hu sys) (by rfl) T.repr (by decide +kernel) (pa_cons (pe_call GI hr (by rfl) gI FI.kp bI .nil pass0 (pa_cons (pv 10) (pa_cons (pv 11) pa_nil))) pa_nil))
                (pe_callB (calls g hu sys) (by rfl) T.repr (by decide +kernel) (pa_cons (pv 13) pa_nil)) (nomark _))
                (pw_or1 (pt_cmpR op_ne (pe_callB (calls g hu sys) (by rfl) T.repr (by decide +kernel) (pa_cons (pv 10) pa_nil)) (pv 12) (nomark _))))) (pss_one (ps_ret pe_bl)) pss_nil)))))))))))))))
      (pss_one (ps_ret pe_bl)))), ?_⟩
    refine ⟨.ref a, rfl, a, ns, rfl, hS, hlen, fun H0 p c sm0 np nc hp => ?_⟩
    refine ⟨16, rfl, by decide, by decide, for_range (n := 16) (fun i σ H' => ∃ x3 x4 x5 x6 x7 x8 x9 x10 x11 x12 x13, σ = [some (.ref a), some (.ref p), some (.str SIG), x3, x4, x5, x6, x7, x8, x9, x10, x11, x12, x13, none, none] ∧ Pen H' p c (60 * i) []) ⟨_, _, _, _, _, _, _, _, _, _, _, rfl, hp⟩ ?_ ?_⟩
    · rintro i σ H1 hi ⟨x3, x4, x5, x6, x7, x8, x9, x10, x11, x12, x13, rfl, hp1⟩
      -- size
      refine ⟨by show 9 ≤ sizeLine; decide, fun l nl => ?_⟩
      refine ⟨.ref p, rfl, p, c, 60 * i, [], 9, rfl, hp1.keep (same_upd nl), by show 60 * i ≤ 1000000000000; omega, by decide, by decide, fun r H2 r0 r1 b2 p2 => ?_⟩
      obtain ⟨z, hz, z40⟩ := size_get r r0 r1
      refine ⟨l, sizesL, r, _, rfl, rfl, SqL.of (b2 l _ (hp1.ne_p nl) upd_same), hz, ?_⟩
      -- thing
      refine ⟨⟨_, rfl⟩, .int (z : Int), rfl, (z : Int), rfl, by omega, by omega, fun D nD => lc_range (n := ((z : Nat) : Int).toNat) (fun j H' => ∃ ys : List Str, H' D = some (.lst (ys.map V.str)) ∧ ys.length = j ∧ (∀ y ∈ ys, Sm 1 y) ∧ Pen H' p c (60 * i + 1 + j) []) ?_ ?_ ?_⟩
      · exact ⟨[], upd_same, rfl, fun _ h => absurd h List.not_mem_nil, p2.off (p2.ne_p nD) (p2.ne_c nD)⟩
      · rintro j H' hj ⟨ys, hD, hy, hys, pj⟩
        have hjz : j < z := hj
        refine ⟨rfl, yes_if ?_⟩
        refine ⟨.ref p, rfl, p, c, 60 * i + 1 + j, [], 2, rfl, pj, by show 60 * i + 1 + j ≤ 1000000000000; omega, by decide, by decide, fun d H'' d0 d1 b p' => ?_⟩
        obtain ⟨ch, hch, hc128⟩ := sign_get (x := "01") (by decide +kernel) d d0 d1
        refine ⟨"01", d, ch, rfl, rfl, by decide +kernel, hch, _, b D _ (p2.ne_p nD) hD, ?_, ys ++ [⟨#[ch]⟩], ?_, ?_, ?_, p'.off (p2.ne_p nD) (p2.ne_c nD)⟩
        · exact Nat.lt_of_le_of_lt (show (ys.map V.str).length ≤ 1000 by rw [List.length_map]; omega) (by decide)
        · rw [upd_same, List.map_append]
          rfl
        · rw [List.length_append, hy]
          rfl
        · intro y hy
          rcases List.mem_append.mp hy with hy | hy
          · exact hys y hy
          · rw [List.mem_singleton.mp hy]
            exact Sm.one hc128
      · rintro H' ⟨ys, hD, hy, hys, pj⟩
        have hyz : ys.length = z := hy
        refine ⟨"", D, ys, rfl, rfl, .inl (SqL.of hD), ?_, ?_⟩
        · have := sum_ones hys
          have e : ((("" : String) : Str)).length = 0 := by decide +kernel
          rw [e]
          omega
        have hT : Sm 40 (Txt.join "" ys) := (Sm.join hys).mono (by omega)
        revert hT
        generalize Txt.join "" ys = th
        intro hT
        have tl : th.length ≤ sizeLine := Nat.le_trans hT.ln (by decide)
        have tl40 := hT.ln
        have pj' : Pen H' p c (60 * i + 41) [] := pj.mono (by
          have : ((z : Nat) : Int).toNat = z := rfl
          omega)
        -- spot
        refine ⟨.ref p, rfl, .str th, rfl, th, rfl, tl, _, _, rfl, rfl, p, c, _, [], (th.length : Int) + 1, rfl, pj', by show 60 * i + 41 ≤ 1000000000000; omega, by omega, by omega, fun sp H3 s0 s1 b3 p3 => ?_⟩
        -- sign
        refine ⟨.str SIG, rfl, .ref p, rfl, .str SIG, rfl, SIG, rfl, by decide +kernel, p, c, _, [], (SIG.length : Int), rfl, p3, by show 60 * i + 41 + 1 ≤ 1000000000000; omega, by have := sig_len; omega, by have := sig_len; omega, fun r2 H4 q0 q1 b4 p4 => ?_⟩
        obtain ⟨ch, hch, hc128⟩ := sign_get sig_ch r2 q0 q1
        refine ⟨SIG, r2, ch, rfl, rfl, by decide +kernel, hch, ?_⟩
        have h1 : Sm 1 ⟨#[ch]⟩ := Sm.one hc128
        -- odd
        have big : ∀ {n : Nat} {x : Str}, Sm n x → n ≤ 1000 → x.length ≤ sizeLine := fun h hn => Nat.le_trans h.ln (Nat.le_trans hn (by decide))
        have add : ∀ {n m : Nat} {x y : Str}, Sm n x → Sm m y → n + m ≤ 1000 → x.length + y.length ≤ sizeLine := fun h h' hn => by
          have z1 := h.ln
          have z2 := h'.ln
          exact Nat.le_trans (Nat.add_le_add z1 z2) (Nat.le_trans hn (by decide))
        have c1 := hT.cut none (some sp)
        have c2 := hT.cut (some sp) none
        have c3 := hT.cut (some (sp + 1)) none
        refine ⟨.str th, rfl, .int sp, rfl, sp, rfl, th, rfl, tl, .str ⟨#[ch]⟩, rfl, _, _, rfl, rfl, add c1 h1 (by decide), .str th, rfl, .int sp, rfl, sp, rfl, th, rfl, tl, _, _, rfl, rfl, add (c1.app h1) c2 (by decide), ?_⟩
        have o1 : Sm 81 (cutS th none (some sp) ++ ⟨#[ch]⟩ ++ cutS th (some sp) none) := (c1.app h1).app c2
        have o2 : Sm 81 (cutS th none (some sp) ++ ⟨#[ch]⟩ ++ cutS th (some (sp + 1)) none) := (c1.app h1).app c3
        revert o1
        generalize cutS th none (some sp) ++ ⟨#[ch]⟩ ++ cutS th (some sp) none = od
        intro o1
        -- things
        refine ⟨.str th, rfl, .str od, rfl, .str th, rfl, .int sp, rfl, sp, rfl, th, rfl, tl, .str ⟨#[ch]⟩, rfl, _, _, rfl, rfl, add c1 h1 (by decide), .str th, rfl, .int sp, rfl, _, _, rfl, rfl, _, rfl, th, rfl, tl, _, _, rfl, rfl, add (c1.app h1) c3 (by decide),
          .str th, rfl, by show 1 ≤ sizeLine; decide, fun l4 n4 => ?_⟩
        refine ⟨.str th, rfl, by show 1 ≤ sizeLine; decide, fun t5 n5 => ?_⟩
        intro d10 n10
        refine ⟨by show 11 ≤ sizeLine; decide, fun L nL => ?_⟩
        have q4 := same_upd (o := .lst [.str th]) n4
        have q5 := same_upd (o := .tup [.str th]) n5
        have q6 := same_upd (o := .dK []) n10
        generalize hHd : upd (upd (upd (upd H4 l4 (.lst [.str th])) t5 (.tup [.str th])) d10 (.dK [])) L _ = Hd
        have q7 : Same (upd (upd (upd H4 l4 (.lst [.str th])) t5 (.tup [.str th])) d10 (.dK [])) Hd := by
          rw [← hHd]
          exact same_upd nL
        have f4 : Hd l4 = some (.lst [.str th]) := q7 _ _ (q6 _ _ (q5 _ _ upd_same))
        have f5 : Hd t5 = some (.tup [.str th]) := q7 _ _ (q6 _ _ upd_same)
        have f6 : Hd d10 = some (.dK []) := q7 _ _ upd_same
        have f7 : Hd L = some (.lst [.str th, .str od, .str (cutS th none (some sp) ++ ⟨#[ch]⟩ ++ cutS th (some (sp + 1)) none), .ref l4, .ref t5, .non, .int 0, .int 1, .bl true, .ref d10, .str ""]) := by
          rw [← hHd, upd_same]
        have pd : Pen Hd p c (60 * i + 43) [] := p4.keep (q4.trans (q5.trans (q6.trans q7)))
        clear hHd
        revert o2 f7
        generalize cutS th none (some sp) ++ ⟨#[ch]⟩ ++ cutS th (some (sp + 1)) none = o3
        intro o2 f7
        have m4 : l4 ≠ p := p4.ne_p n4
        have m5 : t5 ≠ p := (p4.keep q4).ne_p n5
        have m6 : d10 ≠ p := ((p4.keep q4).keep q5).ne_p n10
        have m7 : L ≠ p := (((p4.keep q4).keep q5).keep q6).ne_p nL
        have one : ∀ d ∈ [PyData.str th], OkD 0 500 d := fun d hd => by
          rw [List.mem_singleton.mp hd]
          exact hT.ok (by decide)
        have all1 : ∀ v ∈ ([.str th, .str od, .str o3, .ref l4, .ref t5, .non, .int 0, .int 1, .bl true, .ref d10, .str ""] : List V), Itm K (fun a => a ≠ p) Hd v := by
          refine List.forall_mem_cons.mpr ⟨Itm.str hT (by decide), List.forall_mem_cons.mpr ⟨Itm.str o1 (by decide), List.forall_mem_cons.mpr ⟨Itm.str o2 (by decide), List.forall_mem_cons.mpr ⟨⟨_, .lst m4 (SqL.of f4) (.cons (.str th) .nil), (OkD.list (n := 1) (Nat.le_refl _) one).mono (by decide) (by decide), fun _ e => nomatch e⟩,
            List.forall_mem_cons.mpr ⟨⟨_, .tup m5 (.inl (.inl f5)) (.cons (.str th) .nil), (OkD.tuple (n := 1) (Nat.le_refl _) one).mono (by decide) (by decide), fun _ e => nomatch e⟩, List.forall_mem_cons.mpr ⟨⟨_, .non, ⟨by decide +kernel, by decide +kernel, by decide +kernel⟩, fun _ e => nomatch e⟩,
            List.forall_mem_cons.mpr ⟨⟨_, .int _, ⟨by decide +kernel, by decide +kernel, by decide +kernel⟩, fun _ e => nomatch e⟩, List.forall_mem_cons.mpr ⟨⟨_, .int _, ⟨by decide +kernel, by decide +kernel, by decide +kernel⟩, fun _ e => nomatch e⟩,
            List.forall_mem_cons.mpr ⟨⟨_, .bl _, ⟨by decide +kernel, by decide +kernel, by decide +kernel⟩, fun _ e => nomatch e⟩, List.forall_mem_cons.mpr ⟨⟨_, .dic m6 (.inl f6) .nil, (OkD.dict (n := 0) (L := 0) (B := 0) (C := 0) (Nat.le_refl _) (fun _ h => absurd h List.not_mem_nil)).mono (by decide) (by decide), fun _ e => nomatch e⟩,
            List.forall_mem_cons.mpr ⟨Itm.str (n := 0) ⟨by decide +kernel, by decide +kernel⟩ (by decide), List.forall_mem_nil _⟩⟩⟩⟩⟩⟩⟩⟩⟩⟩⟩
        -- things + [..]
        refine ⟨.ref L, rfl, .ref p, rfl, p, c, _, [], rfl, pd, by show 60 * i + 43 + 17 ≤ 1000000000000; omega, fun v d H5 b5 p5 hd hok hx => ?_⟩
        refine ⟨"0", 5000, rfl, rfl, by unfold MulOk; decide +kernel, _, _, rfl, rfl, ⟨by decide, by decide, by decide⟩, by show 3 ≤ sizeLine; decide, fun M nM => ?_⟩
        have q8 := same_upd (o := .lst [v, .str (Txt.mul "0" 5000), .int (10 ^ (39 : Int).toNat)]) nM
        refine ⟨L, M, _, _, rfl, rfl, q8 _ _ (b5 _ _ m7 f7), upd_same, by show 14 ≤ sizeLine; decide, fun Z nZ => ?_⟩
        have q9 : Same _ (upd (upd H5 M (.lst [v, .str (Txt.mul "0" 5000), .int (10 ^ (39 : Int).toNat)])) Z (.lst ([.str th, .str od, .str o3, .ref l4, .ref t5, .non, .int 0, .int 1, .bl true, .ref d10, .str ""] ++ [v, .str (Txt.mul "0" 5000), .int (10 ^ (39 : Int).toNat)]))) := same_upd nZ
        have hz0 : Sm 5000 (Txt.mul "0" (5000 : Nat)) := mul_sm ⟨by decide +kernel, by decide +kernel⟩ (by decide) (by decide +kernel)
        have all2 : ∀ x ∈ ([.str th, .str od, .str o3, .ref l4, .ref t5, .non, .int 0, .int 1, .bl true, .ref d10, .str ""] ++ [v, .str (Txt.mul "0" 5000), .int (10 ^ (39 : Int).toNat)] : List V), Itm K (fun a => a ≠ p) (upd (upd H5 M (.lst [v, .str (Txt.mul "0" 5000), .int (10 ^ (39 : Int).toNat)])) Z (.lst ([.str th, .str od, .str o3, .ref l4, .ref t5, .non, .int 0, .int 1, .bl true, .ref d10, .str ""] ++ [v, .str (Txt.mul "0" 5000), .int (10 ^ (39 : Int).toNat)]))) x := by
          intro x hxm
          refine Itm.same (q8.trans q9) ?_
          rcases List.mem_append.mp hxm with hm | hm
          · exact (all1 x hm).move fun a o na e => b5 a o na e
          · revert x
            refine fun x _ hm => List.forall_mem_cons.mpr ⟨?_, List.forall_mem_cons.mpr ⟨Itm.str hz0 (by decide), List.forall_mem_cons.mpr ⟨⟨_, .int _, ⟨by decide +kernel, by decide +kernel, by decide +kernel⟩, fun _ e => nomatch e⟩, List.forall_mem_nil _⟩⟩⟩ x hm
            exact ⟨d, hd.move (fun _ _ _ e => e) (fun a ha => pd.ne_p ha), hok.mono (by decide) (by decide), fun x e => Nat.le_trans (hx x e) (by decide)⟩
        revert all2
        generalize ([.str th, .str od, .str o3, .ref l4, .ref t5, .non, .int 0, .int 1, .bl true, .ref d10, .str ""] ++ [v, .str (Txt.mul "0" 5000), .int (10 ^ (39 : Int).toNat)] : List V) = its
        intro all2
        have pz : Pen (upd (upd H5 M (.lst [v, .str (Txt.mul "0" 5000), .int (10 ^ (39 : Int).toNat)])) Z (.lst its)) p c (60 * (i + 1)) [] := ((p5.keep q8).keep (same_upd nZ)).mono (by show 60 * i + 43 + 17 ≤ 60 * (i + 1); omega)
        have fz : (upd (upd H5 M (.lst [v, .str (Txt.mul "0" 5000), .int (10 ^ (39 : Int).toNat)])) Z (.lst its)) Z = some (.lst its) := upd_same
        revert all2 pz fz
        generalize upd (upd H5 M (.lst [v, .str (Txt.mul "0" 5000), .int (10 ^ (39 : Int).toNat)])) Z (.lst its) = HZ
        intro all2 pz fz
        refine ⟨Z, rfl, ⟨_, SqL.of fz⟩, for_list (K := K) (a := Z) (xs := its) (fun _ σ H' => (∃ x3 x4 x5 x6 x7 x8 x9 x10 x11 x12 x13, σ = [some (.ref a), some (.ref p), some (.str SIG), x3, x4, x5, x6, x7, x8, x9, x10, x11, x12, x13, none, none]) ∧ Same HZ H') ⟨⟨_, _, _, _, _, _, _, _, _, _, _, rfl⟩, .refl _⟩ (fun _ _ _ _ h => h.2.seq (SqL.of fz)) ?_ ?_⟩
        · rintro j v σ H' hv ⟨⟨x3, x4, x5, x6, x7, x8, x9, x10, x11, x12, x13, rfl⟩, smz⟩
          obtain ⟨d, hd0, hok, hx⟩ := all2 v (List.mem_of_getElem? hv)
          have hd := hd0.move (H' := H') (N' := fun a => a ≠ p) (fun a o _ e => smz a o e) fun _ h => h
          refine ⟨by show 5 ≤ sizeLine; decide, fun Tt nT => ?_⟩
          refine ⟨Tt, rfl, ⟨_, .inl (.inl upd_same)⟩, for_tup (K := K) (a := Tt) (xs := [.int 1, .int 2, .int 5, .int 31, .int 32]) (fun _ σ H'' => (∃ x3 x4 x5 x6 x7 x8 x9 x11 x12 x13, σ = [some (.ref a), some (.ref p), some (.str SIG), x3, x4, x5, x6, x7, x8, x9, some v, x11, x12, x13, none, none]) ∧ Same H' H'' ∧ H'' Tt = some (.tup [.int 1, .int 2, .int 5, .int 31, .int 32]))
            ⟨⟨_, _, _, _, _, _, _, _, _, _, rfl⟩, same_upd nT, upd_same⟩ (fun _ _ _ _ h => .inl (.inl h.2.2)) ?_ ?_⟩
          · rintro k w σ H'' hw ⟨⟨x3, x4, x5, x6, x7, x8, x9, x11, x12, x13, rfl⟩, sm, fT⟩
            obtain ⟨m, rfl⟩ : ∃ m : Int, w = .int m := by
              have hm := List.mem_of_getElem? hw
              simp only [List.mem_cons, List.not_mem_nil, or_false] at hm
              rcases hm with rfl | rfl | rfl | rfl | rfl <;> exact ⟨_, rfl⟩
            have hd2 := hd.move (H' := H'') (N' := fun a => a ≠ p) (fun a o _ e => sm a o e) fun _ h => h
            have sl : d.shown.length ≤ sizeLine := Nat.le_trans hok.ln (by decide)
            have hdp : d.depth ≤ 60 := Nat.le_trans hok.dp (by decide)
            -- seen
            refine ⟨v, rfl, v, d, _, rfl, hd2, hok.sh, hdp, sl, ?_⟩
            -- due
            refine ⟨fun σ H3 => σ = [some (.ref a), some (.ref p), some (.str SIG), x3, x4, x5, x6, x7, x8, x9, some v, some (.int m), some (.str d.shown), some (.bl (isPfx v m)), none, none] ∧ Same H'' H3, ?_, ?_⟩
            · obtain ⟨t, ty, kt⟩ := TyS.of hd2
              refine ⟨v, rfl, v, .ty "str", .type t, .type "str", _, rfl, .ty _, ty, kt, _, rfl, ?_⟩
              cases v with
              | str x =>
                refine iteT ?_
                have hxl : x.length ≤ sizeLine := Nat.le_trans (hx x rfl) (by decide)
                refine ⟨.str x, rfl, x, rfl, hxl, .int m, rfl, _, _, rfl, rfl, _, rfl, ?_⟩
                by_cases hm : (x.length : Int) ≤ m
                · rw [decide_eq_true hm]
                  refine iteT ⟨.str x, rfl, x, rfl, fun D nD => ?_⟩
                  refine lc_it (walk_str (z := x)) (fun b H3 => H3 D = some (.lst (((sg x).take b).map fun c => V.bl ((("01" : Str)).cps.contains c))) ∧ Same H'' H3) ⟨by rw [upd_same]; rfl, same_upd nD⟩ (fun _ _ _ _ => trivial) ?_ ?_
                  · rintro b y H3 H4 hb ⟨fD, s3⟩ ⟨rfl, ch, hch, rfl⟩
                    refine ⟨rfl, yes_if ?_⟩
                    refine ⟨.str ⟨#[ch]⟩, rfl, by show 2 ≤ sizeLine; decide, fun B nB => ?_⟩
                    have sB := same_upd (o := .lst [.str "0", .str "1"]) nB
                    refine ⟨B, _, rfl, .inl (SqL.of upd_same), rfl, rfl, ?_⟩
                    refine ⟨_, sB _ _ fD, ?_, ?_, ?_⟩
                    · refine Nat.lt_of_le_of_lt (show _ ≤ x.length from ?_) (Nat.lt_of_le_of_lt (hx x rfl) (by decide))
                      rw [List.length_map, List.length_take, sg_len]
                      omega
                    · have e : (sg x)[b]? = some ch := by
                        rw [← hch]
                        exact Array.getElem?_toList
                      rw [upd_same, List.take_add_one, e, List.map_append]
                      show some (HO.lst (_ ++ [V.bl (if false = true then _ else _)])) = _
                      rw [if_neg Bool.false_ne_true, bit_in]
                      rfl
                    · intro a o ha
                      have na : a ≠ D := ne_of_none ha nD
                      rw [upd_ne na]
                      exact sB _ _ (s3 _ _ ha)
                  · rintro H3 ⟨fD, s3⟩
                    have e : (sg x).take x.cps.size = sg x := List.take_of_length_le (Nat.le_of_eq Array.length_toList)
                    rw [e] at fD
                    refine ⟨D, (sg x).map fun c => (("01" : Str)).cps.contains c, rfl, SqL.of (by rw [fD, List.map_map]; rfl), ?_⟩
                    refine ⟨?_, s3⟩
                    have e2 : isPfx (.str x) m = ((sg x).map fun c => (("01" : Str)).cps.contains c).all id := by
                      show (decide ((x.length : Int) ≤ m) && isBits x) = _
                      rw [decide_eq_true hm, Bool.true_and, List.all_map]
                      rfl
                    rw [e2]
                    rfl
                · rw [decide_eq_false hm]
                  refine iteF ⟨?_, .refl _⟩
                  have e2 : isPfx (.str x) m = false := by
                    show (decide ((x.length : Int) ≤ m) && isBits x) = _
                    rw [decide_eq_false hm, Bool.false_and]
                  rw [e2]
                  rfl
              | _ => exact iteF ⟨rfl, .refl _⟩
            · rintro σ H3 ⟨rfl, s3⟩
              have hd3 := hd2.move (H' := H3) (N' := fun a => a ≠ p) (fun a o _ e => s3 a o e) fun _ h => h
              refine ⟨v, rfl, .int m, rfl, v, m, rfl, TyS.of hd3, fun x e => Nat.le_trans (hx x e) (by decide), ?_⟩
              have okb : ∀ b : Bool, OkD 0 10 (.bool b) := fun b => by cases b <;> exact ⟨by decide +kernel, by decide +kernel, by decide +kernel⟩
              refine ⟨_, .bool (isPfx v m), fun _ => True, rfl, .bl _, (okb _).sh, Nat.le_trans (okb _).dp (by decide), Nat.le_trans (okb _).ln (by decide), .bl (isPfx v m), rfl, _, .bool (isPfx v m), fun _ => True, rfl, .bl _, (okb _).sh, Nat.le_trans (okb _).dp (by decide), Nat.le_trans (okb _).ln (by decide), rfl, _, rfl, iteNS rfl ?_⟩
              refine ⟨v, rfl, v, d, _, rfl, hd3, hok.sh, hdp, sl, .str d.shown, rfl, rfl, _, rfl, iteNS rfl ?_⟩
              exact ⟨⟨_, _, _, _, _, _, _, _, _, _, rfl⟩, sm.trans s3, s3 _ _ fT⟩
          · rintro σ H'' ⟨⟨x3, x4, x5, x6, x7, x8, x9, x11, x12, x13, rfl⟩, sm, _⟩
            exact ⟨⟨_, _, _, _, _, _, _, _, _, _, _, rfl⟩, smz.trans sm⟩
        · rintro σ H' ⟨⟨x3, x4, x5, x6, x7, x8, x9, x10, x11, x12, x13, rfl⟩, smz⟩
          exact ⟨_, _, _, _, _, _, _, _, _, _, _, rfl, pz.keep smz⟩
    · rintro σ H' ⟨x3, x4, x5, x6, x7, x8, x9, x10, x11, x12, x13, rfl, _⟩
      exact q _
end
theorem all_mk {l : PySem.W.OpenLaw} {w : World} {K : PySem.W.Frag} {h : Heap} {mg : Str → Option Value} {fa fH fI fP fN fD fA fL : Addr} (X : K.In h) (G : h.Ns mainGlobals mg) (hfa : mg "law" = some (.ref fa))
    {odH anH odI anI odP anP odN anN odD anD odA anA odL anL : Option Addr} {slH slI slP slN slD slA slL : Array (Option Value)} {ocH kVH dcH pmH cdH ctH ocI kVI dcI pmI cdI ctI ocP kVP dcP pmP cdP ctP ocN kVN dcN pmN cdN ctN ocD kVD dcD pmD cdD ctD ocA kVA dcA pmA cdA ctA ocL kVL dcL pmL cdL ctL : Value}
    (aH : PySem.W.nsIn K mainGlobals "has_only" = some (some (.ref fH))) (lH : K.lookup fH = some ⟨ocH, odH, .func (PySem.W.fnOf "has_only" "has_only" (defArgs sHas) (defBody sHas) (defScope sHas) .none kVH dcH pmH anH cdH ctH), slH⟩)
    (cH : PySem.W.codeIn K cdH "has_only" = true) (kH : PySem.W.keepIn K (.ref fH) = true)
    (aI : PySem.W.nsIn K mainGlobals "is_prefix" = some (some (.ref fI))) (lI : K.lookup fI = some ⟨ocI, odI, .func (PySem.W.fnOf "is_prefix" "is_prefix" (defArgs sPfx) (defBody sPfx) (defScope sPfx) .none kVI dcI pmI anI cdI ctI), slI⟩)
    (cI : PySem.W.codeIn K cdI "is_prefix" = true) (kI : PySem.W.keepIn K (.ref fI) = true)
    (aP : PySem.W.nsIn K mainGlobals "_law_pen" = some (some (.ref fP))) (lP : K.lookup fP = some ⟨ocP, odP, .func (PySem.W.fnOf "_law_pen" "_law_pen" (defArgs sPen) (defBody sPen) (defScope sPen) .none kVP dcP pmP anP cdP ctP), slP⟩)
    (cP : PySem.W.codeIn K cdP "_law_pen" = true) (kP : PySem.W.keepIn K (.ref fP) = true)
    (aN : PySem.W.nsIn K mainGlobals "_law_next" = some (some (.ref fN))) (lN : K.lookup fN = some ⟨ocN, odN, .func (PySem.W.fnOf "_law_next" "_law_next" (defArgs sNext) (defBody sNext) (defScope sNext) .none kVN dcN pmN anN cdN ctN), slN⟩)
    (cN : PySem.W.codeIn K cdN "_law_next" = true) (kN : PySem.W.keepIn K (.ref fN) = true)
    (aD : PySem.W.nsIn K mainGlobals "_law_draw" = some (some (.ref fD))) (lD : K.lookup fD = some ⟨ocD, odD, .func (PySem.W.fnOf "_law_draw" "_law_draw" (defArgs sDraw) (defBody sDraw) (defScope sDraw) .none kVD dcD pmD anD cdD ctD), slD⟩)
    (cD : PySem.W.codeIn K cdD "_law_draw" = true) (kD : PySem.W.keepIn K (.ref fD) = true)
    (aA : PySem.W.nsIn K mainGlobals "_law_any" = some (some (.ref fA))) (lA : K.lookup fA = some ⟨ocA, odA, .func (PySem.W.fnOf "_law_any" "_law_any" (defArgs sAny) (defBody sAny) (defScope sAny) .none kVA dcA pmA anA cdA ctA), slA⟩)
    (cA : PySem.W.codeIn K cdA "_law_any" = true) (kA : PySem.W.keepIn K (.ref fA) = true)
    (aL : PySem.W.nsIn K mainGlobals "law" = some (some (.ref fL))) (lL : K.lookup fL = some ⟨ocL, odL, .func (PySem.W.fnOf "law" "law" (defArgs sLaw) (defBody sLaw) (defScope sLaw) .none kVL dcL pmL anL cdL ctL), slL⟩)
    (cL : PySem.W.codeIn K cdL "law" = true) (kL : PySem.W.keepIn K (.ref fL) = true)
    (z0 : PySem.W.nsIn K mainGlobals "list" = some none)
    (z1 : PySem.W.nsIn K mainGlobals "len" = some none)
    (z2 : PySem.W.nsIn K mainGlobals "range" = some none)
    (z3 : PySem.W.nsIn K mainGlobals "dict" = some none)
    (z4 : PySem.W.nsIn K mainGlobals "tuple" = some none)
    (z5 : PySem.W.nsIn K mainGlobals "isinstance" = some none)
    (z6 : PySem.W.nsIn K mainGlobals "str" = some none)
    (z7 : PySem.W.nsIn K mainGlobals "repr" = some none)
    (z8 : PySem.W.nsIn K mainGlobals "all" = some none)
    : ∃ fd : FuncData, (∀ (s : Shared) (v : Value), BindsTo s fd ⟨[v], []⟩ [("script", v)]) ∧ ∀ base : Heap, K.In base → base.Ns mainGlobals mg → (∃ mm, base.Ns sysModules mm) → FnG l.prog w K mg base 7 fa fd ["script"] (spLaw K) := by
  have e := hfa.symm.trans (PySem.W.mg_of X G aL)
  cases e
  have FH := fun_mk (st := sHas) lH cH kH
  have bH := FH.binds (ps := ["text", "signs"]) fun _ _ _ _ _ _ us hl => match us, hl with | [_, _], _ => rfl
  have gH := PySem.W.mg_of X G aH
  have FI := fun_mk (st := sPfx) lI cI kI
  have bI := FI.binds (ps := ["thing", "width"]) fun _ _ _ _ _ _ us hl => match us, hl with | [_, _], _ => rfl
  have gI := PySem.W.mg_of X G aI
  have FP := fun_mk (st := sPen) lP cP kP
  have bP := FP.binds (ps := ["script"]) fun _ _ _ _ _ _ us hl => match us, hl with | [_], _ => rfl
  have gP := PySem.W.mg_of X G aP
  have FN := fun_mk (st := sNext) lN cN kN
  have bN := FN.binds (ps := ["pen"]) fun _ _ _ _ _ _ us hl => match us, hl with | [_], _ => rfl
  have gN := PySem.W.mg_of X G aN
  have FD := fun_mk (st := sDraw) lD cD kD
  have bD := FD.binds (ps := ["pen", "below"]) fun _ _ _ _ _ _ us hl => match us, hl with | [_, _], _ => rfl
  have gD := PySem.W.mg_of X G aD
  have FA := fun_mk (st := sAny) lA cA kA
  have bA := FA.binds (ps := ["pen", "levels"]) fun _ _ _ _ _ _ us hl => match us, hl with | [_, _], _ => rfl
  have gA := PySem.W.mg_of X G aA
  have FL := fun_mk (st := sLaw) lL cL kL
  have m_list := PySem.W.mg_none_of X G z0
  have m_len := PySem.W.mg_none_of X G z1
  have m_range := PySem.W.mg_none_of X G z2
  have m_dict := PySem.W.mg_none_of X G z3
  have m_tuple := PySem.W.mg_none_of X G z4
  have m_isinstance := PySem.W.mg_none_of X G z5
  have m_str := PySem.W.mg_none_of X G z6
  have m_repr := PySem.W.mg_none_of X G z7
  have m_all := PySem.W.mg_none_of X G z8
  refine ⟨PySem.W.fnOf "law" "law" (defArgs sLaw) (defBody sLaw) (defScope sLaw) .none kVL dcL pmL anL cdL ctL, fun s v => .of_eq rfl, fun base _ _ sys => ?_⟩
  have GP := (ok_pen (P := l.prog) (w := w) (base := base) (mg := mg) (k := 0) FP m_list).mono (show 0 + 1 ≤ 6 by decide)
  have GD := ok_draw (P := l.prog) (w := w) (base := base) (mg := mg) (k := 0) FD FN bN gN m_len
  have GH := ok_pfx (P := l.prog) (w := w) (base := base) (mg := mg) (k := 0) FI FH bH gH m_isinstance m_str m_len
  have A0 := ok_any0 (P := l.prog) (w := w) (base := base) (mg := mg) FA GD FD bD gD
  have A1 := ok_anyS FA A0 bA gA (GD.mono (by decide)) FD bD gD m_range m_dict m_len m_tuple
  have A2 := ok_anyS FA A1 bA gA (GD.mono (by decide)) FD bD gD m_range m_dict m_len m_tuple
  exact ok_law FL ⟨m_range, m_len, m_repr, m_isinstance, m_str, m_all⟩ sys GP FP bP gP (GD.mono (by decide)) FD bD gD (A2.mono (by decide)) FA bA gA (GH.mono (by decide)) FI bI gI
end Kt
open PySem PySem.W PyProof.Rows
set_option maxRecDepth 100000 in
set_option maxHeartbeats 0 in
theorem PySem.Challenge.cw_keptroutes_k02_prefixes_known_holds : PySem.Challenge.rw_keptroutes_k02_prefixes_known.Holds := by
  w_on; o_law; k_head; (case hw => w_witness2)
  k_fill
  refine Kt.walkG (l := PySem.Challenge.rw_keptroutes_k02_prefixes_known) (n := 63) (k := 7) (x := "script") (sp := fun w => Kt.spLaw _) rfl (by decide) rfl ?him ⟨rfl, by decide, by decide⟩ (fun w h Y => PySem.W.kIn_of Y) ?F (fun _ _ a ns hl hS => ⟨a, ns, rfl, hS, hl, fun _ => rfl⟩)
  case him => rfl
  case F =>
    intro w mg fa h KX G hmg
    refine' Kt.all_mk KX G hmg ?aH ?lH ?cH ?kH ?aI ?lI ?cI ?kI ?aP ?lP ?cP ?kP ?aN ?lN ?cN ?kN ?aD ?lD ?cD ?kD ?aA ?lA ?cA ?kA ?aL ?lL ?cL ?kL ?z0 ?z1 ?z2 ?z3 ?z4 ?z5 ?z6 ?z7 ?z8
    (case aH => k_is); (case lH => k_is); (case cH => k_is); (case kH => k_is); (case aI => k_is); (case lI => k_is); (case cI => k_is); (case kI => k_is); (case aP => k_is); (case lP => k_is); (case cP => k_is); (case kP => k_is); (case aN => k_is); (case lN => k_is); (case cN => k_is); (case kN => k_is); (case aD => k_is); (case lD => k_is); (case cD => k_is); (case kD => k_is); (case aA => k_is); (case lA => k_is); (case cA => k_is); (case kA => k_is); (case aL => k_is); (case lL => k_is); (case cL => k_is); (case kL => k_is); (case z0 => k_is); (case z1 => k_is); (case z2 => k_is); (case z3 => k_is); (case z4 => k_is); (case z5 => k_is); (case z6 => k_is); (case z7 => k_is); (case z8 => k_is)

import PyProof.Rows.All
import Wide.All
import OpenK.AllK
import Wide.FinOn
import HandS.ForMost
import HandS.Codes
import HandS.IsInst
import HandS.StrMore
import HandS.DictComp
import HandS.Walk
import HandS.Style
import HandS.Conv
import PyProof.ReprRoads
import HandS.Strs
import HandS.SetFor
import HandS.ClsMeth
import HandS.Property
import HandS.AnyAll
import PyProof.Rows.SortShellAny
import KE.RegKSuper
import PyProof.DictUpdate
import HandS.SetKeys
import HandS.MakeKwOnly
import HandS.GenList
import HandS.ListItems
import HandS.GenYield
import HandS.NoneIn
import HandS.Star
import HandS.DeepEq
import PyProof.Rows.StrPins
import PyProof.Rows.StrPadWhole
import PyProof.Rows.StrPadFill
import HandS.WordsExc
import HandS.ExcOwn
import HandS.ExcIs
import HandS.ExcValue
import HandS.DictTup
import KE.SortData
import KE.KRevSl
import KE.OsRunLaw
import KE.DataMinMax
import PySem.Challenge.RW_keptroutes_k45_sequences_that_are_none
set_option Elab.async false
set_option linter.all false
set_option maxRecDepth 100000
set_option maxHeartbeats 4000000
section
open PySem PySem.W PyProof.Rows
local macro_rules | `(tactic| k_head) => `(tactic| k_headL)
set_option maxHeartbeats 0 in
open_top Kt.head0 for PySem.Challenge.rw_keptroutes_k45_sequences_that_are_none
end
namespace Kt
open PySem PySem.Spec PyProof.Rows L2
/-! ### defs that may call repr: no repr is under way around them -/
structure FnG (P : Program) (w : World) (K : PySem.W.Frag) (mg : Str → Option Value) (base : Heap) (k : Nat) (f : Addr) (fd : FuncData) (ps : List Str) (sp : Sp) : Prop where
  many : ∀ vs H Q E, sp vs H Q E → vs.length = ps.length
  go : ∀ (A : Around), A.guards = some [] → ∀ (outer : List Env) (s : Shared) (H : Hp) (args : Args) (us : List Value) (vs : List V) (Q : VK), Room k A → Env0 P w K mg base A outer s H →
    BindsTo s fd args (ps.zip us) → Vals vs us → sp vs H Q E0 → codeAny (model P w) A (.call (.ref f) args) (CR CX0 outer P w H s Q E0) s
theorem FnG.mono {P : Program} {w : World} {K : PySem.W.Frag} {mg : Str → Option Value} {base : Heap} {j k : Nat} {f : Addr} {fd : FuncData} {ps : List Str} {sp : Sp} (F : FnG P w K mg base j f fd ps sp) (h : j ≤ k) : FnG P w K mg base k f fd ps sp :=
  ⟨F.many, fun A g outer s H args us vs Q hr => F.go A g outer s H args us vs Q (hr.mono h)⟩
section
variable {P : Program} {w : World} {K : PySem.W.Frag} {mg : Str → Option Value} {base : Heap}
/-- a def's promise, from its body, where no repr is under way -/
theorem okG {x qual : Str} {st : Stmt} {f : Addr} {fd : FuncData} {N ps : List Str} {k : Nat} {sp : Sp} (F : Fun K x qual st f fd) (S : FnScope N ps (defScope st)) (many : ∀ vs H Q E, sp vs H Q E → vs.length = ps.length)
    (body : ∀ (cdv : Value) (A : Around) (outer : List Env) (s : Shared) (H : Hp) (vs : List V) (Q : VK), A.guards = some [] → Room k (A.deeper (envOfC qual (defScope st) s.heap.objs.size f cdv)) → sp vs H Q E0 →
      ∃ t, PSs (cxOf CX0 P w K mg base N qual (defScope st) f cdv A outer s H E0).nox (defBody st) t ∧ t { nx := fun _ H' => Q .non H', rt := Q } (start N vs) H) : FnG P w K mg base (k + 1) f fd ps sp := by
  obtain ⟨oc, od, kV, doc, pm, an, cdv, ct, osl, rfl, lk, hcd⟩ := F.ex
  refine ⟨many, fun A g outer s H args us vs Q room e0 bind rel want => ?_⟩
  have old : ∀ b o, base.get? b = some o → s.heap.get? b = some o := fun b o e => (e0.bs b o e).1
  have KX : K.In s.heap := e0.mod.kin.keeps old
  have lim : s.heap.NoLimit := e0.mod.nolimit.keeps old
  have kinds : ∀ y ∈ ps.zip us, (defScope st).names.lookup y.1 = some .local ∨ ((defScope st).names.lookup y.1 = some .cell ∧ ((cellsFrom (s.heap.objs.size + 1) (defScope st).names []).lookup y.1).isSome = true) := by
    rintro ⟨n, v⟩ hy
    rcases S.par n (List.of_mem_zip hy).1 with q | q
    · exact .inl q
    · exact .inr ⟨q, PySem.W.cellsFrom_some _ _ _ (.inl q)⟩
  refine codeAny_call_function room.depth (KX _ _ lk) rfl S.co S.gen rfl (PySem.W.codeRec_of KX hcd) (bind _ _ _ _ (wpAny_newFunctionEnv_cells S.kind kinds fun env he s1 x => ?_))
  subst he
  obtain ⟨t, ht, hq⟩ := body cdv A outer s H vs Q g (room.deeper _) want
  have I := inv_start (CX := CX0) (E := E0) S room.hd e0 (many _ _ _ _ want) rel x
  refine ⟨lim.keeps x.toInCall.keep, codeAny_func (wpAny_mono (ht.nox.run [] s1 (start N vs) H _ I hq) (fun fl s' hs => ?_) fun e s' hs => hs)⟩
  cases fl with
  | ret u =>
    obtain ⟨v, σ', H', J, rv, q⟩ := hs
    exact ⟨v, H', J.os, J.bare, J.base, J.hok, rv, q⟩
  | next =>
    obtain ⟨σ', H', J, q⟩ := hs
    exact ⟨V.non, H', J.os, J.bare, J.base, J.hok, rfl, q⟩
  | brk =>
    obtain ⟨_, _, _, q⟩ := hs
    exact q.elim
  | cont =>
    obtain ⟨_, _, _, q⟩ := hs
    exact q.elim
end
/-- f(a, ..) of such a def, within such a def -/
theorem pe_callG {X : Cx} {k : Nat} {f : Addr} {fd : FuncData} {ps : List Str} {sp : Sp} {x : Str} {p pos : Pos} {e : Expr} {es : List Expr} {t : TA} (F : FnG X.prog X.w X.K X.mg X.base k f fd ps sp) (g : X.A.guards = some []) (hr : Room k X.A) (hg : Gl X x) (hm : X.mg x = some (.ref f))
    (hk : PySem.W.keepIn X.K (.ref f) = true) (hb : Binds X.K fd ps []) (ha : PA X (e :: es) t) (hdb : (x == ("__debug__" : Str)) = false := by decide)
    (he : starEach (e :: es) X.env = (false, eval e X.env) :: starEach es X.env := by rfl) (hpl : (backTo pos (starEach es X.env)).any (·.1) = false := by rfl) : PE X (.Call (.Name x p) (e :: es) [] pos) (tCall sp [] E0 t) := by
  constructor
  intro pins s σ H Q I h
  refine wpAny_Call_Name_kw (ld_glob I hg hm (PySem.W.callWith_K (h₀ := X.base) I.ok.mod.kin hk (thn (ha.run pos pins s σ H _ I h) ?_) he hpl) hdb)
  rintro us s1 ⟨vs, H1, I1, r, q⟩
  refine ⟨I1.kIn, ?_⟩
  have r2 : Vals (vs ++ []) (us ++ []) := r.append .nil
  have hl : (us ++ []).length = ps.length := by rw [← r2.length]; exact F.many _ _ _ _ q
  refine wpAny_call (codeAny_mono (F.go X.A g X.stack s1 H1 ⟨us, []⟩ (us ++ []) (vs ++ []) Q hr I1.env0 (hb s1 us I1.kIn hl) r2 q) fun res s' hq => ?_)
  match res, hq with
  | .ok (.ret u), hq => exact I1.after hq
/-! ### the end of a law whose promise is of this kind -/
theorem law_callG {P : Program} {w : World} {K : PySem.W.Frag} {mg mb : Str → Option Value} {k : Nat} {fa a : Addr} {fd : FuncData} {x : Str} {sp : Sp} {s₁ : Shared} {vs : List Value} {ns : List Int}
    (KX : K.In s₁.heap) (hns : s₁.heap.Ns mainGlobals mg) (hb : s₁.heap.Ns builtinsNs mb) (hbb : ∀ x : Str, x ≠ "__name__" → mb x = bootBuiltins x) (hlim : s₁.heap.NoLimit) (hsys : ∃ mm, s₁.heap.Ns sysModules mm) (hg : s₁.gens = #[])
    (ha : s₁.heap.get? a = some { cls := .type "list", data := .seq vs.toArray }) (hi : IntsAre vs ns) (hl : ns.length ≤ sizeLine) (hr : Room k callerA)
    (F : ∀ base : Heap, K.In base → base.Ns mainGlobals mg → (∃ mm, base.Ns sysModules mm) → FnG P w K mg base k fa fd [x] sp) (hbind : ∀ (s : Shared) (u : Value), BindsTo s fd ⟨[u], []⟩ [(x, u)])
    (hsp : ∀ H : Hp, SqL K H a (ns.map V.int) → sp [.ref a] H (fun v _ => v = .bl true) E0) :
    codeAny (model P w) callerA (.call (.ref fa) ⟨[.ref a], []⟩) (fun r s' => r = .ok (.ret (.bool true)) ∧ OldK s₁.heap s'.heap ∧ s'.os = s₁.os ∧ AllBare s'.gens) s₁ := by
  have rv := vals_ints hi
  have lenV := hi.length
  have main : ∀ H : Hp, SqL K H a (ns.map V.int) → HOk P w H s₁.heap → (∀ b, H b ≠ none → b = a ∧ K.lookup a = none ∧ ∃ u, H b = some (.frz { cls := .type "list", data := .seq vs.toArray } u)) →
      codeAny (model P w) callerA (.call (.ref fa) ⟨[.ref a], []⟩) (fun r s' => r = .ok (.ret (.bool true)) ∧ OldK s₁.heap s'.heap ∧ s'.os = s₁.os ∧ AllBare s'.gens) s₁ := by
    intro H hS ok only
    have free : ∀ {b : Addr} {o : Obj}, s₁.heap.get? b = some o → (H b ≠ none → False) → (hidT s₁.heap H).get? b = some o := fun {b o} e n => hidT_get e (by
      cases q : H b with
      | none => rfl
      | some u => exact (n (by rw [q]; exact fun z => nomatch z)).elim)
    have dct : ∀ {b : Addr} {m : Str → Option Value}, s₁.heap.Ns b m → (hidT s₁.heap H).Ns b m := by
      rintro b m ⟨o, es, ep, e, d, r⟩
      refine ⟨o, es, ep, free e fun n => ?_, d, r⟩
      obtain ⟨rfl, _, _⟩ := only b n
      rw [ha] at e
      cases e
      cases d
    have kin : K.In (hidT s₁.heap H) := fun b o e => free (KX b o e) fun n => by
      obtain ⟨rfl, z, _⟩ := only b n
      rw [z] at e
      cases e
    have mod : Mod K mg (hidT s₁.heap H) := ⟨kin, dct hns, ⟨mb, dct hb, hbb⟩, by obtain ⟨mc, h1, h2⟩ := hlim; exact ⟨mc, dct h1, h2⟩⟩
    have sys : ∃ mm, (hidT s₁.heap H).Ns sysModules mm := by obtain ⟨mm, h⟩ := hsys; exact ⟨mm, dct h⟩
    have env : Env0 P w K mg (hidT s₁.heap H) callerA [] s₁ H := ⟨rfl, mod, fun _ _ => of_hidT, Nat.le_of_eq (hidT_size _ _), trivial, fun _ hb => absurd hb List.not_mem_nil, ok, .of_eq hg⟩
    refine codeAny_mono ((F _ kin (dct hns) sys).go callerA rfl [] s₁ H ⟨[.ref a], []⟩ [.ref a] [.ref a] _ hr env (hbind s₁ (.ref a)) (.cons rfl .nil) (hsp H hS)) fun r s' h => ?_
    match r, h with
    | .ok (.ret u), ⟨v, H', os, bare, un, ok', rel, q⟩ =>
      subst q
      cases (show u = Value.bool true from rel)
      refine ⟨rfl, OldK.of_keep fun b o e => ?_, os, bare⟩
      cases q : H b with
      | none => exact un.keep b o e q (fun z => nomatch z) fun z => nomatch z
      | some u =>
        obtain ⟨rfl, _, u', z⟩ := only b (by rw [q]; exact fun z => nomatch z)
        rw [ha] at e
        cases e
        exact (ok' b _ (un.frzs b _ _ z)).1
  cases hk : K.lookup a with
  | some o =>
    have e := KX a o hk
    rw [ha] at e
    cases e
    exact main (fun _ => none) (.inr ⟨_, vs.toArray, _, hk, rfl, rfl, rfl, by rw [List.size_toArray, lenV]; exact hl, rv⟩) (fun b u z => nomatch (show (none : Option HO) = some u from z)) fun b z => absurd rfl z
  | none =>
    refine main (fun b => if b = a then some (.frz { cls := .type "list", data := .seq vs.toArray } (.lst (ns.map V.int))) else none) (.inl (.inr ⟨_, if_pos rfl⟩)) (fun b u z => ?_) fun b z => ?_
    · by_cases q : b = a
      · dsimp only at z
        rw [if_pos q] at z
        cases z
        rw [q]
        exact ⟨ha, by rw [List.length_map]; exact hl, vs, _, rv, ha⟩
      · dsimp only at z
        rw [if_neg q] at z
        cases z
    · by_cases q : b = a
      · exact ⟨q, hk, _, if_pos q⟩
      · exact absurd (if_neg q) z
theorem walkG {l : PySem.W.OpenLaw} {n k : Nat} {q : Program} {loose : List Str} {XP : (Str → Option Value) → Heap → Prop} {YP : World → Heap → Prop} {d : DefRec} {K : Params → PySem.W.Frag} {sp : World → Sp} {x : Str} (hn : l.most = some n) (hn2 : n ≤ sizeLine) (hdf : d.params.defaults = [])
    (him : importsNone q = true) (hr : Room k callerA) (hY : ∀ (w : World) (h : Heap), YP w h → (K w.params).In h)
    (F : ∀ (w : World) (mg : Str → Option Value) (fa : Addr) (h : Heap), (K w.params).In h → h.Ns mainGlobals mg → mg d.name = some (.ref fa) →
      ∃ fd : FuncData, (∀ (s : Shared) (u : Value), BindsTo s fd ⟨[u], []⟩ [(x, u)]) ∧ ∀ base : Heap, (K w.params).In base → base.Ns mainGlobals mg → (∃ mm, base.Ns sysModules mm) → FnG l.prog w (K w.params) mg base k fa fd [x] (sp w))
    (hsp : ∀ (w : World) (H : Hp) (a : Addr) (ns : List Int), ns.length ≤ n → SqL (K w.params) H a (ns.map V.int) → sp w [.ref a] H (fun v _ => v = .bl true) E0) : PySem.W.WalkO q loose XP YP l.row.toRowW d [] (fun f vs => PySem.call f vs) :=
  Att.attach_call hn hdf fun w _ _ mg _ fa _ _ _ _ a _ ns G Y _ _ _ hmg hobj hints hlen hg => by
    have KX := hY w _ Y
    obtain ⟨fd, hb, hF⟩ := F w mg fa _ KX G.T.g hmg
    obtain ⟨mm, hm, _⟩ := (G.T.seer him).mods
    exact law_callG KX G.T.g G.T.b G.T.builtins G.T.nolimit ⟨mm, hm⟩ hg hobj hints (Nat.le_trans hlen hn2) hr hF hb fun H hS => hsp w H a ns hlen hS
/-! ### repr of data: none, bools, ints, texts, lists, tuples, dicts by ints and texts -/
def keyD : Key → PyData
  | .inl i => .int i
  | .inr x => .str x
mutual
/-- in the heap H the value is this data -/
inductive Dr (K : PySem.W.Frag) (H : Hp) (N : Addr → Prop) : V → PyData → Prop
  | non : Dr K H N .non .none
  | bl (b : Bool) : Dr K H N (.bl b) (.bool b)
  | int (i : Int) : Dr K H N (.int i) (.int i)
  | str (x : Str) : Dr K H N (.str x) (.str x)
  | lst {a : Addr} {xs : List V} {ds : List PyData} (n : N a) (h : SqL K H a xs) (all : DrAll K H N xs ds) : Dr K H N (.ref a) (.list ds)
  | tup {a : Addr} {xs : List V} {ds : List PyData} (n : N a) (h : SqT K H a xs) (all : DrAll K H N xs ds) : Dr K H N (.ref a) (.tuple ds)
  | dic {a : Addr} {kvs : List (Key × V)} {ds : List (PyData × PyData)} (n : N a) (h : Rd H a (.dK kvs)) (all : DrKv K H N kvs ds) : Dr K H N (.ref a) (.dict ds)
inductive DrAll (K : PySem.W.Frag) (H : Hp) (N : Addr → Prop) : List V → List PyData → Prop
  | nil : DrAll K H N [] []
  | cons {v : V} {vs : List V} {d : PyData} {ds : List PyData} (h : Dr K H N v d) (t : DrAll K H N vs ds) : DrAll K H N (v :: vs) (d :: ds)
inductive DrKv (K : PySem.W.Frag) (H : Hp) (N : Addr → Prop) : List (Key × V) → List (PyData × PyData) → Prop
  | nil : DrKv K H N [] []
  | cons {k : Key} {v : V} {kvs : List (Key × V)} {d : PyData} {ds : List (PyData × PyData)} (h : Dr K H N v d) (t : DrKv K H N kvs ds) : DrKv K H N ((k, v) :: kvs) ((keyD k, d) :: ds)
end
mutual
theorem Dr.move {K : PySem.W.Frag} {H H' : Hp} {N N' : Addr → Prop} (k : ∀ a o, N a → H a = some o → H' a = some o) (m : ∀ a, N a → N' a) : ∀ {v : V} {d : PyData}, Dr K H N v d → Dr K H' N' v d
  | _, _, .non => .non
  | _, _, .bl b => .bl b
  | _, _, .int i => .int i
  | _, _, .str x => .str x
  | _, _, .lst (a := a) n h all => .lst (m _ n) (by
    rcases h with (h | ⟨o, h⟩) | h
    · exact .inl (.inl (k _ _ n h))
    · exact .inl (.inr ⟨o, k _ _ n h⟩)
    · exact .inr h) (all.move k m)
  | _, _, .tup n h all => .tup (m _ n) (by
    rcases h with (h | ⟨o, h⟩) | h
    · exact .inl (.inl (k _ _ n h))
    · exact .inl (.inr ⟨o, k _ _ n h⟩)
    · exact .inr h) (all.move k m)
  | _, _, .dic n h all => .dic (m _ n) (by
    rcases h with h | ⟨o, h⟩
    · exact .inl (k _ _ n h)
    · exact .inr ⟨o, k _ _ n h⟩) (all.move k m)
theorem DrAll.move {K : PySem.W.Frag} {H H' : Hp} {N N' : Addr → Prop} (k : ∀ a o, N a → H a = some o → H' a = some o) (m : ∀ a, N a → N' a) : ∀ {vs : List V} {ds : List PyData}, DrAll K H N vs ds → DrAll K H' N' vs ds
  | _, _, .nil => .nil
  | _, _, .cons h t => .cons (h.move k m) (t.move k m)
theorem DrKv.move {K : PySem.W.Frag} {H H' : Hp} {N N' : Addr → Prop} (k : ∀ a o, N a → H a = some o → H' a = some o) (m : ∀ a, N a → N' a) : ∀ {kvs : List (Key × V)} {ds : List (PyData × PyData)}, DrKv K H N kvs ds → DrKv K H' N' kvs ds
  | _, _, .nil => .nil
  | _, _, .cons h t => .cons (h.move k m) (t.move k m)
end
theorem DrAll.len {K : PySem.W.Frag} {H : Hp} {N : Addr → Prop} : ∀ {vs : List V} {ds : List PyData}, DrAll K H N vs ds → vs.length = ds.length
  | _, _, .nil => rfl
  | _, _, .cons _ t => congrArg (· + 1) t.len
theorem DrAll.snoc {K : PySem.W.Frag} {H : Hp} {N : Addr → Prop} {v : V} {d : PyData} (h : Dr K H N v d) : ∀ {vs : List V} {ds : List PyData}, DrAll K H N vs ds → DrAll K H N (vs ++ [v]) (ds ++ [d])
  | _, _, .nil => .cons h .nil
  | _, _, .cons h1 t => .cons h1 (t.snoc h)
theorem DrAll.get {K : PySem.W.Frag} {H : Hp} {N : Addr → Prop} : ∀ {vs : List V} {ds : List PyData} {i : Nat} {v : V}, DrAll K H N vs ds → vs[i]? = some v → ∃ d, ds[i]? = some d ∧ Dr K H N v d
  | _, _, _, _, .nil, e => by simp at e
  | _, _, 0, _, .cons h _, e => ⟨_, rfl, by
    have e' := Option.some.inj e
    rw [← e']
    exact h⟩
  | _, _, i + 1, v, .cons _ t, e => t.get (i := i) (v := v) e
theorem read_key {h : Heap} {k : Key} {u : Value} (e : keyIs k u = true) : Reads h u (keyD k) [] := by
  rcases keyIs_shape e with ⟨i, t, rfl, rfl⟩ | ⟨x, t, rfl, rfl⟩
  · exact .int i t
  · exact .str x t
section
variable {X : Cx} {pins : List (Addr × Obj)} {σ : L2.St} {H : Hp} {s : Shared} {N : Addr → Prop}
theorem no_sys_list (I : Inv X pins σ H s) (sys : ∃ mm, X.base.Ns sysModules mm) {a : Addr} {o : Obj} {its : Array Value} {n : Nat} (e : s.heap.get? a = some o) (d : o.data = .seq its n) : a ≠ sysModules := by
  rintro rfl
  obtain ⟨mm, o', es, ep, e', d', _⟩ := sys
  rw [I.bk _ _ e'] at e
  cases e
  rw [d] at d'
  cases d'
mutual
theorem Dr.reads (I : Inv X pins σ H s) (sys : ∃ mm, X.base.Ns sysModules mm) : ∀ (d : PyData) (v : V) (u : Value), Dr X.K H N v d → RelV v u → ∃ as, Reads s.heap u d as ∧ sysModules ∉ as
  | .none, _, _, h, r => by
    cases h
    cases r
    exact ⟨_, Reads.none, List.not_mem_nil⟩
  | .bool b, _, _, h, r => by
    cases h
    cases r
    exact ⟨_, Reads.bool b, List.not_mem_nil⟩
  | .int i, _, _, h, r => by
    cases h
    obtain ⟨t, rfl⟩ := r
    exact ⟨_, Reads.int i t, List.not_mem_nil⟩
  | .str x, _, _, h, r => by
    cases h
    obtain ⟨t, rfl⟩ := r
    exact ⟨_, Reads.str x t, List.not_mem_nil⟩
  | .list ds, _, _, h, r => by
    cases h with
    | lst _ hs ha =>
      cases r
      obtain ⟨its, rv, ⟨o, n, ho, hc, _, hd⟩, _⟩ := I.list hs
      obtain ⟨as, hr, hn⟩ := DrAll.reads I sys ds _ its ha rv
      exact ⟨_, Reads.list ho hc hd hr, fun m => (List.mem_cons.mp m).elim (fun e => no_sys_list I sys ho hd e.symm) hn⟩
  | .tuple ds, _, _, h, r => by
    cases h with
    | tup _ hs ha =>
      cases r
      obtain ⟨its, rv, ⟨o, ho, hc, n, hd⟩, _⟩ := I.tuple hs
      obtain ⟨as, hr, hn⟩ := DrAll.reads I sys ds _ its ha rv
      exact ⟨_, Reads.tuple ho hc hd hr, hn⟩
  | .dict ds, _, _, h, r => by
    cases h with
    | dic _ hs ha =>
      cases r
      obtain ⟨_, hsys, vs, rel, o, es, ep, ho, hc, hd, _, ps, _⟩ := dk_rd I.hok hs
      obtain ⟨as, bs, h1, h2, h3, h4⟩ := DrKv.reads I sys ds _ vs es.toList ha rel ps
      refine ⟨_, Reads.dict ho hc.1 hd h1 h2, fun m => ?_⟩
      rcases List.mem_append.mp m with m | m
      · rcases List.mem_cons.mp m with e | m
        · rw [← e] at hsys
          cases hsys
        · exact h3 m
      · exact h4 m
theorem DrAll.reads (I : Inv X pins σ H s) (sys : ∃ mm, X.base.Ns sysModules mm) : ∀ (ds : List PyData) (vs : List V) (us : List Value), DrAll X.K H N vs ds → Vals vs us → ∃ as, ReadsAll s.heap us ds as ∧ sysModules ∉ as
  | [], _, _, h, r => by
    cases h
    cases r
    exact ⟨_, ReadsAll.nil, List.not_mem_nil⟩
  | d :: ds, _, _, h, r => by
    cases h with
    | cons h1 h2 =>
      cases r with
      | cons r1 r2 =>
        obtain ⟨as, q1, n1⟩ := Dr.reads I sys d _ _ h1 r1
        obtain ⟨bs, q2, n2⟩ := DrAll.reads I sys ds _ _ h2 r2
        exact ⟨_, ReadsAll.cons q1 q2, fun m => (List.mem_append.mp m).elim n1 n2⟩
theorem DrKv.reads (I : Inv X pins σ H s) (sys : ∃ mm, X.base.Ns sysModules mm) : ∀ (ds : List (PyData × PyData)) (kvs : List (Key × V)) (vs : List (Key × Value)) (es : List DictEntry), DrKv X.K H N kvs ds → KV kvs vs → Pairs (mixKind X.prog X.w) es vs →
    ∃ as bs, ReadsAll s.heap (es.map (·.key)) (ds.map (·.1)) as ∧ ReadsAll s.heap (es.map (·.val)) (ds.map (·.2)) bs ∧ sysModules ∉ as ∧ sysModules ∉ bs
  | [], _, _, _, h, r, p => by
    cases h
    cases r
    cases p
    exact ⟨_, _, ReadsAll.nil, ReadsAll.nil, List.not_mem_nil, List.not_mem_nil⟩
  | (_, d) :: ds, _, _, _, h, r, p => by
    cases h with
    | cons h1 h2 =>
      cases r with
      | cons r1 r2 =>
        cases p with
        | cons p1 p2 p3 =>
          obtain ⟨e1, e2⟩ := r1
          obtain ⟨as, q1, n1⟩ := Dr.reads I sys d _ _ h1 e2
          obtain ⟨bs, cs, q2, q3, n2, n3⟩ := DrKv.reads I sys ds _ _ _ h2 r2 p3
          have e1' : _ = _ := e1
          rw [← e1'] at p1
          refine ⟨[] ++ bs, as ++ cs, ReadsAll.cons (read_key p1) q2, ReadsAll.cons (by show Reads _ (DictEntry.val _) d as; rw [p2]; exact q1) q3, by rw [List.nil_append]; exact n2, fun m => (List.mem_append.mp m).elim n1 n3⟩
end
end
/-- repr(x) -/
def rRepr (K : PySem.W.Frag) : List V → Hp → VK → Prop := fun xs H Q => ∃ (x : V) (d : PyData) (N : Addr → Prop), xs = [x] ∧ Dr K H N x d ∧ d.showable = true ∧ d.depth ≤ 60 ∧ d.shown.length ≤ sizeLine ∧ Q (.str d.shown) H
theorem call_repr {X : Cx} (g : X.A.guards = some []) (hu : X.A.units + 64 < cLine) (sys : ∃ mm, X.base.Ns sysModules mm) : CallR X (.builtin "repr") (rRepr X.K) := by
  intro pins s σ H xs us Q I r h
  obtain ⟨x, d, N, rfl, hd, hs, hz, hl, q⟩ := h
  obtain ⟨u, rfl, r1⟩ := vals1 r
  obtain ⟨as, hr, hn⟩ := Dr.reads I sys d x u hd r1
  have fin : ∀ (u : Tok) h' tk, (∀ b o, s.heap.get? b = some o → h'.get? b = some o) → EP X pins σ Q (.str d.shown u) { s with heap := h', toks := tk } := fun u h' tk hk => ⟨.str d.shown, H, I.kept hk, ⟨u, rfl⟩, q⟩
  cases hd with
  | non =>
    cases r1
    exact PySem.P.repr_of_none (fin _ s.heap _ fun _ _ e => e)
  | bl b =>
    cases r1
    cases b <;> exact PySem.P.repr_of_bool (fin _ s.heap _ fun _ _ e => e)
  | int i =>
    obtain ⟨t, rfl⟩ := r1
    exact PySem.P.repr_of_int (of_decide_eq_true (by simpa only [PyData.showable] using hs)) (fin _ s.heap _ fun _ _ e => e)
  | str z =>
    obtain ⟨t, rfl⟩ := r1
    exact PySem.P.repr_of_str (fin _ s.heap _ fun _ _ e => e) (by simpa only [PyData.shown] using hl)
  | lst _ h1 h2 =>
    cases r1
    exact repr_of_reads' (h₀ := s.heap) hr hs (fun _ => hn) g (by omega) (fun _ _ e => e) (fun h' u tk hk => fin u h' tk hk) hl
  | tup _ h1 h2 =>
    cases r1
    exact repr_of_reads' (h₀ := s.heap) hr hs (fun _ => hn) g (by omega) (fun _ _ e => e) (fun h' u tk hk => fin u h' tk hk) hl
  | dic _ h1 h2 =>
    cases r1
    exact repr_of_reads' (h₀ := s.heap) hr hs (fun _ => hn) g (by omega) (fun _ _ e => e) (fun h' u tk hk => fin u h' tk hk) hl
/-! ### texts -/
def onlyOf (y x : Str) : Bool := x.cps.toList.all fun c => y.cps.contains c
theorem takeWhile_full {α : Type} (p : α → Bool) : ∀ l : List α, decide ((l.takeWhile p).length = l.length) = l.all p
  | [] => rfl
  | a :: r => by
    have ih := takeWhile_full p r
    rw [List.takeWhile_cons, List.all_cons]
    cases ha : p a with
    | true =>
      rw [if_pos rfl, List.length_cons, List.length_cons, ← ih]
      simp
    | false =>
      rw [if_neg Bool.false_ne_true]
      simp
theorem empty_str : ("" : Str) = ⟨#[]⟩ := by decide +kernel
theorem str_ext {x y : Str} (h : x.cps.toList = y.cps.toList) : x = y := by
  cases x
  cases y
  congr 1
  exact Array.toList_inj.mp h
theorem lstrip_empty (x y : Str) : decide (V.str (Txt.lstripChars x y) = V.str "") = onlyOf y x := by
  have e : Txt.lstripChars x y = ⟨x.cps.extract (x.cps.toList.takeWhile y.cps.contains).length x.cps.size⟩ := stripBy_eq y.cps.contains true false x
  have h := takeWhile_full (fun c => y.cps.contains c) x.cps.toList
  unfold onlyOf
  rw [← h]
  apply decide_eq_decide.mpr
  have le : (x.cps.toList.takeWhile fun c => y.cps.contains c).length ≤ x.cps.toList.length := (List.takeWhile_sublist _).length_le
  constructor
  · intro q
    have q1 : Txt.lstripChars x y = "" := V.str.inj q
    rw [e, empty_str] at q1
    have q2 : (x.cps.extract (x.cps.toList.takeWhile y.cps.contains).length x.cps.size).size = 0 := by rw [Str.mk.inj q1]; rfl
    rw [Array.size_extract] at q2
    have q3 : x.cps.toList.length = x.cps.size := Array.length_toList
    have q4 : (x.cps.toList.takeWhile y.cps.contains).length ≤ x.cps.toList.length := le
    show (x.cps.toList.takeWhile y.cps.contains).length = _
    omega
  · intro q
    have q0 : (x.cps.toList.takeWhile y.cps.contains).length = x.cps.size := by
      rw [← Array.length_toList]
      exact q
    congr 1
    rw [e, empty_str, q0]
    congr 1
    simp
/-- bits alone -/
def isBits (x : Str) : Bool := onlyOf "01" x
/-- is_prefix -/
def isPfx (v : V) (w : Int) : Bool := match v with
  | .str x => decide ((x.length : Int) ≤ w) && isBits x
  | _ => false
def isStrV : V → Bool
  | .str _ => true
  | _ => false
/-- a value whose type isinstance reads: text or not -/
def TyS (K : PySem.W.Frag) (H : Hp) (v : V) : Prop := ∃ t : String, TyX K H v (.type t) ∧ PySem.W.kitOne K (.type t) (.type "str") = some (isStrV v)
theorem kit_f {K : PySem.W.Frag} {t : String} (h : kitB t "str" = some false) : PySem.W.kitOne K (.type t) (.type "str") = some false := kit_ty h
theorem TyS.of {K : PySem.W.Frag} {H : Hp} {N : Addr → Prop} {v : V} {d : PyData} (h : Dr K H N v d) : TyS K H v := by
  cases h with
  | non => exact ⟨_, .base .non, kit_f (by decide +kernel)⟩
  | bl b => exact ⟨_, .base (.bl b), kit_f (by decide +kernel)⟩
  | int i => exact ⟨_, .base (.int i), kit_f (by decide +kernel)⟩
  | str x => exact ⟨_, .base (.str x), kit_ty (r := true) (by decide +kernel)⟩
  | lst _ h _ =>
    rcases h with (h | ⟨o, h⟩) | ⟨o, _, _, h, hc, _⟩
    · exact ⟨_, .base (.lst h), kit_f (by decide +kernel)⟩
    · exact ⟨_, .base (.frz h), kit_f (by decide +kernel)⟩
    · exact ⟨_, .kList h hc, kit_f (by decide +kernel)⟩
  | tup _ h _ =>
    rcases h with (h | ⟨o, h⟩) | ⟨o, _, _, h, hc, _⟩
    · exact ⟨_, .base (.tup h), kit_f (by decide +kernel)⟩
    · exact ⟨_, .fTuple h, kit_f (by decide +kernel)⟩
    · exact ⟨_, .kTuple h hc, kit_f (by decide +kernel)⟩
  | dic _ h _ =>
    rcases h with h | ⟨o, h⟩
    · exact ⟨_, .base (.dK h), kit_f (by decide +kernel)⟩
    · exact ⟨_, .fDict h, kit_f (by decide +kernel)⟩
/-! ### the pen -/
/-- a pen stands at p: its numbers at c, its place i, its stock s, what was appended -/
def penL (c : Addr) (i s : Int) (m : List V) : HO := .lst (.ref c :: .int i :: .int s :: m)
structure PenAt (H : Hp) (p : Addr) (n : Nat) (m : List V) (c : Addr) (ns : List Int) (i s : Int) : Prop where
  at_ : H p = some (penL c i s m)
  cells : H c = some (.lst (ns.map V.int))
  len : ns.length ≤ 60
  i0 : 0 ≤ i
  i1 : i ≤ n
  s0 : 0 ≤ s
theorem PenAt.ne {H : Hp} {p c : Addr} {n : Nat} {m : List V} {ns : List Int} {i s : Int} (h : PenAt H p n m c ns i s) : c ≠ p := fun e => by
  have h1 := h.cells
  rw [e, h.at_] at h1
  have h2 := HO.lst.inj (Option.some.inj h1)
  cases ns with
  | nil => cases h2
  | cons x r => cases (List.cons.inj h2).1
theorem PenAt.mono {H : Hp} {p c : Addr} {n k : Nat} {m : List V} {ns : List Int} {i s : Int} (h : PenAt H p n m c ns i s) (hk : n ≤ k) : PenAt H p k m c ns i s :=
  ⟨h.at_, h.cells, h.len, h.i0, by have := h.i1; omega, h.s0⟩
/-- the pen behind a draw -/
theorem PenAt.next {H : Hp} {p c : Addr} {n k : Nat} {m : List V} {ns : List Int} {i s i' s' : Int} (h : PenAt H p n m c ns i s) (h0 : 0 ≤ i') (h1 : i' ≤ k) (h2 : 0 ≤ s') : PenAt (upd H p (penL c i' s' m)) p k m c ns i' s' :=
  ⟨upd_same, by rw [upd_ne h.ne]; exact h.cells, h.len, h0, h1, h2⟩
theorem PenAt.keep {H H' : Hp} {p c : Addr} {n : Nat} {m : List V} {ns : List Int} {i s : Int} (h : PenAt H p n m c ns i s) (k : Same H H') : PenAt H' p n m c ns i s :=
  ⟨k _ _ h.at_, k _ _ h.cells, h.len, h.i0, h.i1, h.s0⟩
/-- a pen at p, its numbers at c, whatever it holds -/
def Pen (H : Hp) (p c : Addr) (n : Nat) (m : List V) : Prop := ∃ ns i s, PenAt H p n m c ns i s
theorem Pen.keep {H H' : Hp} {p c : Addr} {n : Nat} {m : List V} (h : Pen H p c n m) (k : Same H H') : Pen H' p c n m := by
  obtain ⟨ns, i, s, h⟩ := h
  exact ⟨ns, i, s, h.keep k⟩
theorem Pen.mono {H : Hp} {p c : Addr} {n k : Nat} {m : List V} (h : Pen H p c n m) (hk : n ≤ k) : Pen H p c k m := by
  obtain ⟨ns, i, s, h⟩ := h
  exact ⟨ns, i, s, h.mono hk⟩
theorem Pen.ne_p {H : Hp} {p c : Addr} {n : Nat} {m : List V} (h : Pen H p c n m) {a : Addr} (e : H a = none) : a ≠ p := by
  obtain ⟨ns, i, s, h⟩ := h
  rintro rfl
  rw [h.at_] at e
  cases e
theorem Pen.ne_c {H : Hp} {p c : Addr} {n : Nat} {m : List V} (h : Pen H p c n m) {a : Addr} (e : H a = none) : a ≠ c := by
  obtain ⟨ns, i, s, h⟩ := h
  rintro rfl
  rw [h.cells] at e
  cases e
/-- a store elsewhere -/
theorem Pen.off {H : Hp} {p c : Addr} {n : Nat} {m : List V} (h : Pen H p c n m) {a : Addr} {o : HO} (h1 : a ≠ p) (h2 : a ≠ c) : Pen (upd H a o) p c n m := by
  obtain ⟨ns, i, s, h⟩ := h
  exact ⟨ns, i, s, by rw [upd_ne h1.symm]; exact h.at_, by rw [upd_ne h2.symm]; exact h.cells, h.len, h.i0, h.i1, h.s0⟩
/-- all but p is as it was -/
def But (p : Addr) (H H' : Hp) : Prop := ∀ b o, b ≠ p → H b = some o → H' b = some o
theorem But.refl (p : Addr) (H : Hp) : But p H H := fun _ _ _ e => e
theorem But.trans {p : Addr} {H H1 H2 : Hp} (a : But p H H1) (b : But p H1 H2) : But p H H2 := fun c o n e => b c o n (a c o n e)
theorem But.of_same {p : Addr} {H H' : Hp} (h : Same H H') : But p H H' := fun b o _ e => h b o e
theorem But.upd {p : Addr} {H : Hp} {o : HO} : But p H (upd H p o) := fun b x n e => by rw [upd_ne n]; exact e
/-- what is free behind was free ahead -/
theorem But.free {p : Addr} {H H' : Hp} (e : But p H H') {a : Addr} (n : a ≠ p) (h : H' a = none) : H a = none := by
  cases q : H a with
  | none => rfl
  | some o =>
    rw [e a o n q] at h
    cases h
theorem But.seq {K : PySem.W.Frag} {p : Addr} {H H' : Hp} {a : Addr} {xs : List V} (e : But p H H') (hn : a ≠ p) (h : SqL K H a xs) : SqL K H' a xs := by
  rcases h with (h | ⟨o, h⟩) | h
  · exact .inl (.inl (e _ _ hn h))
  · exact .inl (.inr ⟨o, e _ _ hn h⟩)
  · exact .inr h
theorem PenAt.but {H H' : Hp} {p c : Addr} {n k : Nat} {m : List V} {ns : List Int} {i s i' s' : Int} (h : PenAt H p n m c ns i s) (hb : But p H H') (e : H' p = some (penL c i' s' m)) (h0 : 0 ≤ i') (h1 : i' ≤ k) (h2 : 0 ≤ s') : PenAt H' p k m c ns i' s' :=
  ⟨e, hb _ _ h.ne h.cells, h.len, h0, h1, h2⟩
/-- no call makes more turns of the pen -/
abbrev PB : Nat := 1000000000000
def spPen (K : PySem.W.Frag) : Sp := fun vs H Q _ => ∃ (a : Addr) (ns : List Int), vs = [.ref a] ∧ SqL K H a (ns.map V.int) ∧ ns.length ≤ 63 ∧ ∀ H' p c, Same H H' → H p = none → H c = none → Pen H' p c 0 [] → Q (.ref p) H'
def spNext : Sp := fun vs H Q _ => ∃ (p : Addr) (n : Nat) (m : List V) (c : Addr) (ns : List Int) (i s : Int), vs = [.ref p] ∧ PenAt H p n m c ns i s ∧ n ≤ PB ∧
  ∀ (x : Int) (H' : Hp), 0 ≤ x → But p H H' → PenAt H' p (n + 1) m c ns (i + 1) s → Q (.int x) H'
def spDraw : Sp := fun vs H Q _ => ∃ (p c : Addr) (n : Nat) (m : List V) (below : Int), vs = [.ref p, .int below] ∧ Pen H p c n m ∧ n ≤ PB ∧ 0 < below ∧ below < 1073741824 ∧
  ∀ (d : Int) (H' : Hp), 0 ≤ d → d < below → But p H H' → Pen H' p c (n + 1) m → Q (.int d) H'
theorem sixty {ns : List Int} : HT.sIx ns.length 0 none = 0 ∧ HT.sIx ns.length ns.length (some 60) ≤ 60 := by
  refine ⟨HT.sIx_none _ _, ?_⟩
  rw [show HT.sIx ns.length ns.length (some 60) = min 60 ns.length from HT.sIx_nat ns.length ns.length 60]
  omega
theorem cut60 (ns : List Int) : ∃ ms : List Int, cutV (ns.map V.int) none (some 60) = ms.map V.int ∧ ms.length ≤ 60 := by
  unfold cutV
  refine ⟨(ns.drop (HT.sIx (ns.map V.int).length 0 none)).take (HT.sIx (ns.map V.int).length (ns.map V.int).length (some 60) - HT.sIx (ns.map V.int).length 0 none), ?_, ?_⟩
  · rw [List.map_take, List.map_drop]
  · rw [List.length_take, List.length_map]
    have h := (sixty (ns := ns)).2
    omega
theorem same_upd {H : Hp} {p : Addr} {o : HO} (h : H p = none) : Same H (upd H p o) := fun b x e => by
  rw [upd_ne (ne_of_none e h)]
  exact e
theorem ix1 {a b c : V} {m : List V} : ixN (a :: b :: c :: m).length 1 = some 1 := by
  unfold ixN
  rw [if_pos (by decide), if_pos (by rw [List.length_cons, List.length_cons]; omega)]
  rfl
theorem ix2 {a b c : V} {m : List V} : ixN (a :: b :: c :: m).length 2 = some 2 := by
  unfold ixN
  rw [if_pos (by decide), if_pos (by rw [List.length_cons, List.length_cons, List.length_cons]; omega)]
  rfl
theorem dpAll_ints {K : PySem.W.Frag} {H : Hp} : ∀ ns : List Int, DpAll K H (ns.map V.int) (ns.map PyData.int)
  | [] => .nil
  | n :: r => .cons (.int n) (dpAll_ints r)
theorem eqv_nil (ns : List Int) : PyData.eqv (.list (ns.map PyData.int)) (.list []) = decide (ns = []) := by
  cases ns with
  | nil => rfl
  | cons x r => rfl
/-! ### what the reprs of small data come to -/
structure OkD (L B : Nat) (d : PyData) : Prop where
  sh : d.showable = true
  dp : d.depth ≤ L
  ln : d.shown.length ≤ B
theorem OkD.mono {L B L' B' : Nat} {d : PyData} (h : OkD L B d) (h1 : L ≤ L') (h2 : B ≤ B') : OkD L' B' d := ⟨h.sh, Nat.le_trans h.dp h1, Nat.le_trans h.ln h2⟩
theorem comma_len : ((", " : String) : Str).length = 2 := by decide +kernel
theorem join_le : ∀ ts : List Str, (Str.join ", " ts).length ≤ (ts.map fun t => t.length + 2).sum
  | [] => Nat.zero_le _
  | [x] => by
    show x.length ≤ _
    rw [List.map_cons, List.sum_cons]
    omega
  | x :: y :: r => by
    have ih := join_le (y :: r)
    show (x ++ ((", " : String) : Str) ++ Str.join ", " (y :: r)).length ≤ _
    rw [strLen_append, strLen_append, comma_len, List.map_cons, List.sum_cons]
    omega
theorem sum_le_of {l : List Str} {B : Nat} (h : ∀ t ∈ l, t.length ≤ B) : (l.map fun t => t.length + 2).sum ≤ l.length * (B + 2) := by
  induction l with
  | nil => exact Nat.zero_le _
  | cons x r ih =>
    have h1 := h x List.mem_cons_self
    have h2 := ih fun t ht => h t (List.mem_cons_of_mem _ ht)
    rw [List.map_cons, List.sum_cons, List.length_cons, Nat.succ_mul]
    omega
theorem shownAll_map : ∀ ds : List PyData, PyData.shownAll ds = ds.map PyData.shown
  | [] => PyData.shownAll_nil
  | d :: ds => by rw [PyData.shownAll_cons, shownAll_map ds, List.map_cons]
theorem showableAll_all : ∀ {ds : List PyData}, (∀ d ∈ ds, d.showable = true) → PyData.showableAll ds = true := PySem.Spec.showableAll_of
theorem depthAll_le {L : Nat} : ∀ {ds : List PyData}, (∀ d ∈ ds, d.depth ≤ L) → PyData.depthAll ds ≤ L
  | [], _ => by simp only [PyData.depthAll]; exact Nat.zero_le _
  | d :: ds, h => by
    have h1 := h d List.mem_cons_self
    have h2 := depthAll_le fun x hx => h x (List.mem_cons_of_mem _ hx)
    simp only [PyData.depthAll]
    omega
theorem OkD.list {L B n : Nat} {ds : List PyData} (hn : ds.length ≤ n) (h : ∀ d ∈ ds, OkD L B d) : OkD (L + 1) (n * (B + 2) + 2) (.list ds) := by
  refine ⟨by simp only [PyData.showable]; exact showableAll_all fun d hd => (h d hd).sh, ?_, ?_⟩
  · have := depthAll_le fun d hd => (h d hd).dp
    simp only [PyData.depth]
    omega
  · rw [PyData.shown_list, shownAll_map, strLen_append, strLen_append]
    have h1 := join_le (ds.map PyData.shown)
    have h2 := sum_le_of (l := ds.map PyData.shown) (B := B) fun t ht => by
      obtain ⟨d, hd, rfl⟩ := List.mem_map.mp ht
      exact (h d hd).ln
    rw [List.length_map] at h2
    have h3 := Nat.mul_le_mul_right (B + 2) hn
    have e1 : ((("[" : String) : Str)).length = 1 := by decide +kernel
    have e2 : ((("]" : String) : Str)).length = 1 := by decide +kernel
    omega
theorem OkD.tuple {L B n : Nat} {ds : List PyData} (hn : ds.length ≤ n) (h : ∀ d ∈ ds, OkD L B d) : OkD (L + 1) (n * (B + 2) + 3) (.tuple ds) := by
  refine ⟨by simp only [PyData.showable]; exact showableAll_all fun d hd => (h d hd).sh, ?_, ?_⟩
  · have := depthAll_le fun d hd => (h d hd).dp
    simp only [PyData.depth]
    omega
  · rw [PyData.shown_tuple, shownAll_map, strLen_append, strLen_append]
    have h1 := join_le (ds.map PyData.shown)
    have h2 := sum_le_of (l := ds.map PyData.shown) (B := B) fun t ht => by
      obtain ⟨d, hd, rfl⟩ := List.mem_map.mp ht
      exact (h d hd).ln
    rw [List.length_map] at h2
    have h3 := Nat.mul_le_mul_right (B + 2) hn
    have e1 : ((("(" : String) : Str)).length = 1 := by decide +kernel
    have e2 : (((if (ds.length == 1) = true then ",)" else ")" : String) : Str)).length ≤ 2 := by split <;> decide +kernel
    omega
theorem depthKv_le {L : Nat} : ∀ {ds : List (PyData × PyData)}, (∀ d ∈ ds, d.1.depth ≤ L ∧ d.2.depth ≤ L) → PyData.depthKv ds ≤ L
  | [], _ => by simp only [PyData.depthKv]; exact Nat.zero_le _
  | (a, b) :: ds, h => by
    have h1 : a.depth ≤ L ∧ b.depth ≤ L := h (a, b) List.mem_cons_self
    have h2 := depthKv_le fun x hx => h x (List.mem_cons_of_mem _ hx)
    simp only [PyData.depthKv]
    omega
theorem shownKv_map : ∀ ds : List (PyData × PyData), PyData.shownKv ds = ds.map fun p => p.1.shown ++ ((": " : String) : Str) ++ p.2.shown
  | [] => PyData.shownKv_nil
  | (a, b) :: ds => by rw [PyData.shownKv_cons, shownKv_map ds, List.map_cons]
theorem OkD.dict {L B C n : Nat} {ds : List (PyData × PyData)} (hn : ds.length ≤ n) (h : ∀ d ∈ ds, OkD L C d.1 ∧ OkD L B d.2) : OkD (L + 1) (n * (C + B + 4) + 2) (.dict ds) := by
  refine ⟨by simp only [PyData.showable]; exact PySem.Spec.showableKv_of fun d hd => ⟨(h d hd).1.sh, (h d hd).2.sh⟩, ?_, ?_⟩
  · have := depthKv_le fun d hd => ⟨(h d hd).1.dp, (h d hd).2.dp⟩
    simp only [PyData.depth]
    omega
  · rw [PyData.shown_dict, shownKv_map, strLen_append, strLen_append]
    have h1 := join_le (ds.map fun p => p.1.shown ++ ((": " : String) : Str) ++ p.2.shown)
    have e0 : (((": " : String) : Str)).length = 2 := by decide +kernel
    have h2 := sum_le_of (l := ds.map fun p => p.1.shown ++ ((": " : String) : Str) ++ p.2.shown) (B := C + B + 2) fun t ht => by
      obtain ⟨d, hd, rfl⟩ := List.mem_map.mp ht
      have z1 := (h d hd).1.ln
      have z2 := (h d hd).2.ln
      rw [strLen_append, strLen_append, e0]
      omega
    rw [List.length_map] at h2
    have h3 := Nat.mul_le_mul_right (C + B + 2 + 2) hn
    have e1 : ((("{" : String) : Str)).length = 1 := by decide +kernel
    have e2 : ((("}" : String) : Str)).length = 1 := by decide +kernel
    have e3 : C + B + 2 + 2 = C + B + 4 := by omega
    rw [e3] at h2 h3
    omega
/-! ### dicts made of pairs -/
theorem putK_end {kvs : List (Key × V)} {k : Key} {v : V} (h : k ∉ kvs.map (·.1)) : putK kvs k v = kvs ++ [(k, v)] := by
  unfold putK
  rw [if_neg]
  intro q
  obtain ⟨p, hp, e⟩ := List.any_eq_true.mp q
  exact h (List.mem_map.mpr ⟨p, hp, of_decide_eq_true e⟩)
theorem mergeK_nd : ∀ (more kvs : List (Key × V)), ((kvs ++ more).map (·.1)).Nodup → mergeK kvs more = kvs ++ more
  | [], kvs, _ => (List.append_nil _).symm
  | (k, v) :: r, kvs, h => by
    have e : kvs ++ (k, v) :: r = (kvs ++ [(k, v)]) ++ r := by rw [List.append_assoc]; rfl
    have hk : k ∉ kvs.map (·.1) := fun m => by
      rw [List.map_append, List.nodup_append] at h
      exact h.2.2 k m k (by rw [List.map_cons]; exact List.mem_cons_self) rfl
    show mergeK (putK kvs k v) r = _
    rw [putK_end hk, e]
    rw [e] at h
    exact mergeK_nd r _ h
theorem DrKv.zip {K : PySem.W.Frag} {H : Hp} {N : Addr → Prop} : ∀ (ks : List Key) {vs : List V} {ds : List PyData}, DrAll K H N vs ds → DrKv K H N (ks.zip vs) ((ks.map keyD).zip ds)
  | [], _, _, _ => .nil
  | _ :: _, _, _, .nil => .nil
  | k :: ks, _, _, .cons h t => .cons h (DrKv.zip ks t)
theorem nodup_zip {α β : Type} {ks : List α} (h : ks.Nodup) : ∀ vs : List β, ((ks.zip vs).map (·.1)).Nodup := fun vs => by
  have e : (ks.zip vs).map (·.1) = ks.take vs.length := by
    induction ks generalizing vs with
    | nil => cases vs <;> rfl
    | cons k ks ih =>
      cases vs with
      | nil => rfl
      | cons v vs =>
        show k :: (ks.zip vs).map (·.1) = _
        rw [ih (List.nodup_cons.mp h).2]
        rfl
  rw [e]
  exact h.sublist (List.take_sublist _ _)
/-- a comprehension without tests: the item is kept -/
theorem yes_if {σ : L2.St} {H : Hp} {A B : Hp → Prop} (h : A H) : tYes σ H fun b H3 => if b = true then A H3 else B H3 := by
  unfold tYes
  dsimp only
  rw [if_pos rfl]
  exact h
/-! ### texts made of texts -/
/-- the signs of a text -/
abbrev sg (x : Str) : List Nat := x.cps.toList
theorem sg_len (x : Str) : (sg x).length = x.length := Array.length_toList
theorem sg_app (x y : Str) : sg (x ++ y) = sg x ++ sg y := by
  show ((x.cps ++ y.cps).toList : List Nat) = _
  rw [Array.toList_append]
theorem sg_empty : sg "" = [] := by rw [show ("" : Str) = ⟨#[]⟩ from empty_str]
theorem app_empty (x : Str) : x ++ ((("" : String) : Str)) = x := str_ext (by
  show sg (x ++ _) = sg x
  rw [sg_app, sg_empty, List.append_nil])
theorem sg_join : ∀ ys : List Str, sg (Txt.join "" ys) = (ys.map sg).flatten := by
  intro ys
  show sg (Builtin.Str.glued "" ys) = _
  rw [StrLaws.glued_eq_join]
  induction ys with
  | nil => rfl
  | cons y r ih =>
    cases r with
    | nil =>
      show sg y = _
      rw [List.map_cons, List.map_nil, List.flatten_cons, List.flatten_nil, List.append_nil]
    | cons z t =>
      show sg (y ++ ((("" : String) : Str)) ++ Str.join "" (z :: t)) = _
      rw [app_empty, sg_app, ih, List.map_cons (a := y), List.flatten_cons]
/-- a text that is not long, of signs that repr writes short -/
structure Sm (n : Nat) (x : Str) : Prop where
  ln : x.length ≤ n
  ch : ∀ c ∈ sg x, c < 128
theorem Sm.mono {n m : Nat} {x : Str} (h : Sm n x) (hm : n ≤ m) : Sm m x := ⟨Nat.le_trans h.ln hm, h.ch⟩
theorem Sm.app {n m : Nat} {x y : Str} (h : Sm n x) (h' : Sm m y) : Sm (n + m) (x ++ y) := ⟨by
  rw [strLen_append]
  exact Nat.add_le_add h.ln h'.ln, fun c hc => by
  rw [sg_app] at hc
  exact (List.mem_append.mp hc).elim (h.ch c) (h'.ch c)⟩
theorem Sm.cut {n : Nat} {x : Str} (h : Sm n x) (lo hi : Option Int) : Sm n (cutS x lo hi) := ⟨Nat.le_trans (cutS_length x lo hi) h.ln, fun c hc => by
  have e : sg (cutS x lo hi) = ((sg x).drop (HT.sIx x.length 0 lo)).take (HT.sIx x.length x.length hi - HT.sIx x.length 0 lo) := rfl
  rw [e] at hc
  exact h.ch c (List.mem_of_mem_drop (List.mem_of_mem_take hc))⟩
theorem Sm.one {c : Nat} (h : c < 128) : Sm 1 ⟨#[c]⟩ := ⟨Nat.le_refl _, fun d hd => by
  have hd' : d ∈ [c] := hd
  rw [List.mem_singleton.mp hd']
  exact h⟩
theorem Sm.join {ys : List Str} (h : ∀ y ∈ ys, Sm 1 y) : Sm ys.length (Txt.join "" ys) := by
  constructor
  · rw [← sg_len, sg_join]
    induction ys with
    | nil => exact Nat.le_refl _
    | cons y r ih =>
      have h1 := (h y List.mem_cons_self).ln
      have h2 := ih fun z hz => h z (List.mem_cons_of_mem _ hz)
      rw [List.map_cons, List.flatten_cons, List.length_append, List.length_cons, sg_len]
      omega
  · intro c hc
    rw [sg_join] at hc
    obtain ⟨l, hl, hc⟩ := List.mem_flatten.mp hc
    obtain ⟨y, hy, rfl⟩ := List.mem_map.mp hl
    exact (h y hy).ch c hc
theorem Sm.ok {n B : Nat} {x : Str} (h : Sm n x) (hb : 10 * n + 2 ≤ B) : OkD 0 B (.str x) := by
  refine ⟨by simp only [PyData.showable], by simp only [PyData.depth]; exact Nat.le_refl _, ?_⟩
  rw [PyData.shown_str]
  have h1 := StrLaws.reprText_len x fun c hc => Nat.lt_of_lt_of_le (h.ch c hc) (by decide)
  have h2 := h.ln
  omega
theorem sum_ones {ys : List Str} (h : ∀ y ∈ ys, Sm 1 y) : (ys.map (·.length)).sum ≤ ys.length := by
  induction ys with
  | nil => exact Nat.le_refl _
  | cons y r ih =>
    have h1 := (h y List.mem_cons_self).ln
    have h2 := ih fun z hz => h z (List.mem_cons_of_mem _ hz)
    rw [List.map_cons, List.sum_cons, List.length_cons]
    omega
/-- text * number -/
def rMulS : R2 := fun x y H Q => ∃ z n, x = .str z ∧ y = .int n ∧ MulOk z n ∧ Q (.str (Txt.mul z n)) H
theorem op_mulS {X : Cx} : OpR X (binaryOp .Mult) rMulS := by
  intro pins s σ H x y v u Q I rx ry h
  obtain ⟨z, n, rfl, rfl, ok, q⟩ := h
  obtain ⟨t, rfl⟩ := rx
  obtain ⟨t', rfl⟩ := ry
  exact SB.mul ok fun t k => ⟨.str _, H, I.tok _, ⟨_, rfl⟩, q⟩
theorem foldl_app (l : List (Array Nat)) : ∀ a : Array Nat, (l.foldl (· ++ ·) a).toList = a.toList ++ (l.map Array.toList).flatten := by
  induction l with
  | nil => intro a; simp
  | cons x r ih =>
    intro a
    rw [List.foldl_cons, ih, Array.toList_append, List.map_cons, List.flatten_cons, List.append_assoc]
theorem mul_sm {x : Str} {n : Nat} (h : Sm 1 x) (h1 : 2 ≤ n) (hx : (x.length == 0) = false) : Sm n (Txt.mul x (n : Int)) := by
  have e : Txt.mul x (n : Int) = ⟨(List.replicate n x.cps).foldl (· ++ ·) #[]⟩ := by
    unfold Txt.mul
    rw [if_neg (by omega), hx, show ((n : Int) == 1) = false from beq_eq_false_iff_ne.mpr (by omega)]
    rfl
  have e2 : sg (Txt.mul x (n : Int)) = (List.replicate n (sg x)).flatten := by
    rw [e]
    show ((List.replicate n x.cps).foldl (· ++ ·) #[]).toList = _
    rw [foldl_app, List.map_replicate]
    rfl
  constructor
  · rw [← sg_len, e2, List.length_flatten, List.map_replicate, List.sum_replicate_nat, sg_len]
    have := h.ln
    exact Nat.le_trans (Nat.mul_le_mul_left n this) (by omega)
  · intro c hc
    rw [e2] at hc
    obtain ⟨l, hl, hc⟩ := List.mem_flatten.mp hc
    rw [(List.mem_replicate.mp hl).2] at hc
    exact h.ch c hc
/-- bit in ['0', '1'] -/
theorem bit_in (c : Nat) : inV (.str ⟨#[c]⟩) [.str "0", .str "1"] = (("01" : Str)).cps.contains c := by
  have e0 : ("0" : Str) = ⟨#[48]⟩ := by decide +kernel
  have e1 : ("1" : Str) = ⟨#[49]⟩ := by decide +kernel
  have e2 : (("01" : Str)).cps = #[48, 49] := by decide +kernel
  have eq1 : ∀ d : Nat, eqV (.str ⟨#[d]⟩) (.str ⟨#[c]⟩) = (c == d) := fun d => by
    show ((⟨#[d]⟩ : Str) == ⟨#[c]⟩) = (c == d)
    rw [Bool.eq_iff_iff, beq_iff_eq, beq_iff_eq]
    constructor
    · intro h
      have h2 : ([d] : List Nat) = [c] := congrArg Array.toList (Str.mk.inj h)
      exact (List.cons.inj h2).1.symm
    · rintro rfl
      rfl
  rw [e0, e1, e2]
  show (eqV (.str ⟨#[48]⟩) (.str ⟨#[c]⟩) || (eqV (.str ⟨#[49]⟩) (.str ⟨#[c]⟩) || false)) = _
  rw [eq1, eq1, Bool.eq_iff_iff]
  simp
/-! ### rows -/
theorem bits_sm {x : Str} (h : isBits x = true) : ∀ c ∈ sg x, c < 128 := fun c hc => by
  have h1 := List.all_eq_true.mp h c hc
  have e2 : (("01" : Str)).cps = #[48, 49] := by decide +kernel
  rw [e2] at h1
  simp at h1
  omega
theorem bits_iff {x : Str} : isBits x = true ↔ ∀ c ∈ sg x, c = 48 ∨ c = 49 := by
  have e2 : (("01" : Str)).cps = #[48, 49] := by decide +kernel
  unfold isBits onlyOf
  rw [e2, List.all_eq_true]
  constructor
  · intro h c hc
    have := h c hc
    simp at this
    omega
  · intro h c hc
    have := h c hc
    simp
    omega
theorem bits_app {x y : Str} (h : isBits x = true) (h' : isBits y = true) : isBits (x ++ y) = true := bits_iff.mpr fun c hc => by
  rw [sg_app] at hc
  exact (List.mem_append.mp hc).elim (bits_iff.mp h c) (bits_iff.mp h' c)
theorem bits_sub {x y : Str} (h : isBits x = true) (k : ∀ c ∈ sg y, c ∈ sg x) : isBits y = true := bits_iff.mpr fun c hc => bits_iff.mp h c (k c hc)
theorem sg_cut (x : Str) (lo hi : Option Int) : sg (cutS x lo hi) = ((sg x).drop (HT.sIx x.length 0 lo)).take (HT.sIx x.length x.length hi - HT.sIx x.length 0 lo) := rfl
theorem bits_cut {x : Str} (h : isBits x = true) (lo hi : Option Int) : isBits (cutS x lo hi) = true := bits_sub h fun c hc => by
  rw [sg_cut] at hc
  exact List.mem_of_mem_drop (List.mem_of_mem_take hc)
/-- x[:k] -/
theorem sg_take (x : Str) (k : Nat) : sg (cutS x none (some (k : Int))) = (sg x).take k := by
  rw [sg_cut, HT.sIx_none, HT.sIx_nat, List.drop_zero, Nat.sub_zero, ← sg_len]
  rcases Nat.le_total k (sg x).length with h | h
  · rw [Nat.min_eq_left h]
  · rw [Nat.min_eq_right h, List.take_length, List.take_of_length_le h]
theorem take_len (x : Str) (k : Nat) : (cutS x none (some (k : Int))).length ≤ k := by
  rw [← sg_len, sg_take, List.length_take]
  omega
theorem bits_empty : isBits "" = true := by decide +kernel
theorem flat_str (xs : List Str) : (xs.map V.str).all flatV = true := by
  induction xs with
  | nil => rfl
  | cons x r ih => exact ih
theorem inV_str (x : Str) (xs : List Str) : inV (.str x) (xs.map V.str) = decide (x ∈ xs) := by
  induction xs with
  | nil => rfl
  | cons y r ih =>
    have e : inV (.str x) ((y :: r).map V.str) = ((y == x) || inV (.str x) (r.map V.str)) := rfl
    rw [e, ih, Bool.eq_iff_iff, Bool.or_eq_true, beq_iff_eq, decide_eq_true_iff, decide_eq_true_iff, List.mem_cons]
    exact ⟨fun h => h.imp Eq.symm id, fun h => h.imp Eq.symm id⟩
theorem dpAll_strs {K : PySem.W.Frag} {H : Hp} : ∀ xs : List Str, DpAll K H (xs.map V.str) (xs.map PyData.str)
  | [] => .nil
  | x :: r => .cons (.str x) (dpAll_strs r)
theorem shaped_strs {xs : List Str} (h : ∀ x ∈ xs, isBits x = true) : SeqAt.shaped (.list (xs.map PyData.str)) = true := by
  have h1 : PyData.canLayAll0 (xs.map PyData.str) = true := by
    induction xs with
    | nil => simp only [List.map_nil, PyData.canLayAll0]
    | cons x r ih =>
      rw [List.map_cons]
      simp only [PyData.canLayAll0, PyData.canLay0]
      rw [ih fun y hy => h y (List.mem_cons_of_mem _ hy), Bool.and_true]
      unfold PyData.strOk
      have hx := bits_sm (h x List.mem_cons_self)
      rw [Array.all_eq_true']
      intro c hc
      have := hx c (Array.mem_toList_iff.mpr hc)
      exact decide_eq_true (by omega)
  have h2 : PyData.depthAll (xs.map PyData.str) ≤ 0 := depthAll_le fun d hd => by
    obtain ⟨x, _, rfl⟩ := List.mem_map.mp hd
    simp only [PyData.depth]
    exact Nat.le_refl _
  unfold SeqAt.shaped
  rw [Bool.and_eq_true]
  refine ⟨by simp only [PyData.canLay0]; exact h1, decide_eq_true ?_⟩
  simp only [PyData.depth]
  omega
theorem eqv_nilS (xs : List Str) : PyData.eqv (.list (xs.map PyData.str)) (.list []) = decide (xs = []) := by
  cases xs with
  | nil => rfl
  | cons x r => rfl
/-- the prefixes of a map of this width, each once -/
structure PfxL (w : Nat) (xs : List Str) : Prop where
  nd : xs.Nodup
  bits : ∀ x ∈ xs, isBits x = true
  len : ∀ x ∈ xs, x.length ≤ w
/-- rows: prefixes of this width with values of this kind -/
structure RowsOk (w : Nat) (vok : V → Prop) (xs : List Str) (kvs : List (Key × V)) : Prop where
  keys : kvs.map (·.1) = xs.map Sum.inr
  pfx : PfxL w xs
  val : ∀ kv ∈ kvs, vok kv.2
def isIntV : V → Prop
  | .int _ => True
  | _ => False
def spBits : Sp := fun vs H Q _ => ∃ (p c : Addr) (n z : Nat) (m : List V), vs = [.ref p, .int z] ∧ Pen H p c n m ∧ n + 100 ≤ PB ∧ z ≤ 40 ∧
  ∀ (x : Str) (H' : Hp), But p H H' → Pen H' p c (n + 1 + z) m → isBits x = true → x.length ≤ z → Q (.str x) H'
def spSize : Sp := fun vs H Q _ => ∃ (p c : Addr) (n : Nat) (m : List V), vs = [.ref p] ∧ Pen H p c n m ∧ n + 100 ≤ PB ∧ m.length ≤ 1 ∧
  ∀ (z : Nat) (m' : List V) (H' : Hp), But p H H' → Pen H' p c (n + 1) m' → m'.length ≤ 1 → 1 ≤ z → z ≤ 32 → Q (.int z) H'
def spPrefixes : Sp := fun vs H Q _ => ∃ (p c : Addr) (n z k : Nat) (m : List V), vs = [.ref p, .int z, .int k] ∧ Pen H p c n m ∧ n + 1000 ≤ PB ∧ z ≤ 32 ∧ k ≤ 20 ∧
  ∀ (l : Addr) (xs : List Str) (H' : Hp), But p H H' → Pen H' p c (n + 1 + 8 * k) m → H l = none → H' l = some (.lst (xs.map V.str)) → PfxL z xs → xs.length ≤ k → Q (.ref l) H'
/-! ### types as isinstance reads them -/
def isIntish : V → Bool
  | .int _ => true
  | .bl _ => true
  | _ => false
def isBoolV : V → Bool
  | .bl _ => true
  | _ => false
def isWholeV : V → Bool
  | .int _ => true
  | _ => false
def isWidthV : V → Bool
  | .int z => decide ((1 : Int) ≤ z) && decide (z ≤ 32)
  | _ => false
structure TyI (K : PySem.W.Frag) (H : Hp) (v : V) (t : String) : Prop where
  ty : TyX K H v (.type t)
  int : PySem.W.kitOne K (.type t) (.type "int") = some (isIntish v)
  bool : PySem.W.kitOne K (.type t) (.type "bool") = some (isBoolV v)
theorem kitv {K : PySem.W.Frag} {t c : String} {b : Bool} (h : kitB t c = some b) : PySem.W.kitOne K (.type t) (.type c) = some b := kit_ty h
theorem TyI.of {K : PySem.W.Frag} {H : Hp} {N : Addr → Prop} {v : V} {d : PyData} (h : Dr K H N v d) : ∃ t, TyI K H v t := by
  cases h with
  | non => exact ⟨_, .base .non, kitv (b := false) (by decide +kernel), kitv (b := false) (by decide +kernel)⟩
  | bl b => exact ⟨_, .base (.bl b), kitv (b := true) (by decide +kernel), kitv (b := true) (by decide +kernel)⟩
  | int i => exact ⟨_, .base (.int i), kitv (b := true) (by decide +kernel), kitv (b := false) (by decide +kernel)⟩
  | str x => exact ⟨_, .base (.str x), kitv (b := false) (by decide +kernel), kitv (b := false) (by decide +kernel)⟩
  | lst _ h _ =>
    rcases h with (h | ⟨o, h⟩) | ⟨o, _, _, h, hc, _⟩
    · exact ⟨_, .base (.lst h), kitv (b := false) (by decide +kernel), kitv (b := false) (by decide +kernel)⟩
    · exact ⟨_, .base (.frz h), kitv (b := false) (by decide +kernel), kitv (b := false) (by decide +kernel)⟩
    · exact ⟨_, .kList h hc, kitv (b := false) (by decide +kernel), kitv (b := false) (by decide +kernel)⟩
  | tup _ h _ =>
    rcases h with (h | ⟨o, h⟩) | ⟨o, _, _, h, hc, _⟩
    · exact ⟨_, .base (.tup h), kitv (b := false) (by decide +kernel), kitv (b := false) (by decide +kernel)⟩
    · exact ⟨_, .fTuple h, kitv (b := false) (by decide +kernel), kitv (b := false) (by decide +kernel)⟩
    · exact ⟨_, .kTuple h hc, kitv (b := false) (by decide +kernel), kitv (b := false) (by decide +kernel)⟩
  | dic _ h _ =>
    rcases h with h | ⟨o, h⟩
    · exact ⟨_, .base (.dK h), kitv (b := false) (by decide +kernel), kitv (b := false) (by decide +kernel)⟩
    · exact ⟨_, .fDict h, kitv (b := false) (by decide +kernel), kitv (b := false) (by decide +kernel)⟩
/-! ### locked and as it was -/
theorem upd_back {H : Hp} {d : Addr} {u o : HO} (h : H d = some u) : upd (upd H d o) d u = H := by
  rw [upd_upd]
  funext b
  by_cases hb : b = d
  · rw [hb, upd_same, h]
  · rw [upd_ne hb]
/-- a dict comprehension over any walk -/
theorem dc_it {J : It} {n : Nat} {G : Hp → Prop} {Y : Nat → Hp → V → Hp → Prop} (w : Walk J n G Y) {g : TG} {tt : TT} {tk tv : TE} {vs : List Nat} {σ : L2.St} {H1 : Hp} {D : Addr} {Qd : Hp → Prop} (Pv : Nat → Hp → Prop) (h0 : Pv 0 (upd H1 D (.dK []))) (hG : ∀ i H, i ≤ n → Pv i H → G H)
    (hs : ∀ i x H H', i < n → Pv i H → Y i H x H' → g x (wipe σ vs) H' fun σ2 H2 => wipe σ2 vs = wipe σ vs ∧ tt σ2 H2 fun b H3 =>
      if b = true then tk σ2 H3 fun y H4 => tv σ2 H4 fun z H5 => ∃ kvs k, y = kV k ∧ H5 D = some (.dK kvs) ∧ kvs.length < sizeLine ∧ Pv (i + 1) (upd H5 D (.dK (putK kvs k z))) else Pv (i + 1) H3) (hd : ∀ H, Pv n H → Qd H) :
    ∃ W : Nat → Nat → Hp → Prop, (∃ m, W 0 m (upd H1 D (.dK []))) ∧ ∀ i m H, W i m H → (J.stop i H ∧ Qd H) ∨ (J.go i H ∧ ∃ Nx : Hp → Prop, (∀ H', Nx H' → ∃ m', m' < m ∧ W (i + 1) m' H') ∧
      ∀ x H', J.yld i H x H' → g x (wipe σ vs) H' fun σ2 H2 => wipe σ2 vs = wipe σ vs ∧ tt σ2 H2 fun b H3 =>
        if b = true then tk σ2 H3 fun y H4 => tv σ2 H4 fun z H5 => ∃ kvs k, y = kV k ∧ H5 D = some (.dK kvs) ∧ kvs.length < sizeLine ∧ Nx (upd H5 D (.dK (putK kvs k z))) else Nx H3) := by
  refine ⟨fun i m H => m + i = n ∧ Pv i H, ⟨n, rfl, h0⟩, ?_⟩
  rintro i m H ⟨hm, p⟩
  have q := hG i H (by omega) p
  rcases Nat.lt_or_ge i n with lt | ge
  · exact .inr ⟨w.goes i H lt q, Pv (i + 1), fun H' p' => ⟨m - 1, by omega, by omega, p'⟩, fun x H' y => hs i x H H' lt p (w.yields i H x H' lt q y)⟩
  · obtain rfl : i = n := by omega
    exact .inl ⟨w.stops H q, hd H p⟩
/-! ### prefixes of texts -/
def Pre (y x : Str) : Prop := sg y <+: sg x
instance (y x : Str) : Decidable (Pre y x) := inferInstanceAs (Decidable (sg y <+: sg x))
theorem startswith_iff (x y : Str) : Txt.startswith x y = decide (Pre y x) := by
  have e : Txt.startswith x y = (decide (0 + y.length ≤ x.length) && ((x.cps.extract 0 (0 + y.length)) == y.cps)) := rfl
  rw [e, Bool.eq_iff_iff, Bool.and_eq_true, decide_eq_true_iff, decide_eq_true_iff, beq_iff_eq]
  have e2 : (x.cps.extract 0 (0 + y.length)).toList = (sg x).take y.length := by simp [sg]
  constructor
  · rintro ⟨_, h⟩
    have h2 : (sg x).take y.length = sg y := by rw [← e2, h]
    show sg y <+: sg x
    rw [← h2]
    exact List.take_prefix _ _
  · intro h
    have h1 : sg y = (sg x).take (sg y).length := List.prefix_iff_eq_take.mp h
    have h3 := h.length_le
    rw [sg_len, sg_len] at h3
    refine ⟨by omega, ?_⟩
    apply Array.toList_inj.mp
    rw [e2, ← sg_len y]
    exact h1.symm
theorem pre_take (x : Str) (k : Nat) : Pre (cutS x none (some (k : Int))) x := by
  show sg _ <+: sg x
  rw [sg_take]
  exact List.take_prefix _ _
theorem pre_eq {x y : Str} (h : Pre y x) : y = cutS x none (some (y.length : Int)) := str_ext (by
  show sg y = sg _
  rw [sg_take, ← sg_len]
  exact List.prefix_iff_eq_take.mp h)
theorem pre_len {x y : Str} (h : Pre y x) : y.length ≤ x.length := by
  have := List.IsPrefix.length_le h
  rw [sg_len, sg_len] at this
  exact this
/-- the longest of xs with which x begins -/
def IsLong (xs : List Str) (x : Str) : Option Str → Prop
  | none => ∀ y ∈ xs, ¬ Pre y x
  | some y => y ∈ xs ∧ Pre y x ∧ ∀ z ∈ xs, Pre z x → z.length ≤ y.length
theorem IsLong.uniq {xs ys : List Str} {x : Str} (hm : ∀ y, y ∈ xs ↔ y ∈ ys) : ∀ {r r' : Option Str}, IsLong xs x r → IsLong ys x r' → r = r'
  | none, none, _, _ => rfl
  | none, some y, h, h' => absurd h'.2.1 (h y ((hm y).mpr h'.1))
  | some y, none, h, h' => absurd h.2.1 (h' y ((hm y).mp h.1))
  | some y, some z, h, h' => by
    have h1 := h.2.2 z ((hm z).mpr h'.1) h'.2.1
    have h2 := h'.2.2 y ((hm y).mp h.1) h.2.1
    have e : y.length = z.length := by omega
    rw [pre_eq h.2.1, pre_eq h'.2.1, e]
def optV : Option Str → V
  | none => .non
  | some x => .str x
/-! ### dicts by texts -/
theorem valV_mem {kvs : List (Key × V)} {k : Key} : (valV kvs k).isSome = true ↔ k ∈ kvs.map (·.1) := by
  unfold valV
  rw [Option.isSome_map, List.find?_isSome, List.mem_map]
  constructor
  · rintro ⟨p, hp, e⟩
    exact ⟨p, hp, of_decide_eq_true e⟩
  · rintro ⟨p, hp, e⟩
    exact ⟨p, hp, decide_eq_true e⟩
theorem inr_mem {kvs : List (Key × V)} {xs : List Str} (h : kvs.map (·.1) = xs.map Sum.inr) (y : Str) : (Sum.inr y : Key) ∈ kvs.map (·.1) ↔ y ∈ xs := by
  rw [h, List.mem_map]
  constructor
  · rintro ⟨z, hz, e⟩
    rw [← Sum.inr.inj e]
    exact hz
  · intro hy
    exact ⟨y, hy, rfl⟩
theorem key_at {kvs : List (Key × V)} {xs : List Str} (h : kvs.map (·.1) = xs.map Sum.inr) {i : Nat} {k : Key} {v : V} (e : kvs[i]? = some (k, v)) : ∃ y, xs[i]? = some y ∧ k = .inr y := by
  have h1 : (kvs.map (·.1))[i]? = some k := by rw [List.getElem?_map, e]; rfl
  rw [h, List.getElem?_map] at h1
  cases hx : xs[i]? with
  | none => rw [hx] at h1; cases h1
  | some y =>
    rw [hx] at h1
    exact ⟨y, rfl, (Option.some.inj h1).symm⟩
theorem valV_some {kvs : List (Key × V)} (nd : (kvs.map (·.1)).Nodup) {k : Key} {v : V} (h : (k, v) ∈ kvs) : valV kvs k = some v := by
  induction kvs with
  | nil => cases h
  | cons p r ih =>
    obtain ⟨k', v'⟩ := p
    rw [List.map_cons, List.nodup_cons] at nd
    rcases List.mem_cons.mp h with e | h
    · cases e
      exact valV_pos rfl
    · have hne : k' ≠ k := fun e => nd.1 (by rw [e]; exact List.mem_map.mpr ⟨_, h, rfl⟩)
      have hz := ih nd.2 h
      unfold valV at hz ⊢
      rw [List.find?_cons_of_neg (by simpa using hne)]
      exact hz
/-! ### the lines of a law: a new dict by drawn prefixes -/
theorem SqT.but {K : PySem.W.Frag} {p a : Addr} {H H' : Hp} {o : List V} {xs : List V} (e : But p H H') (hp : H p = some (.lst o)) (h : SqT K H a xs) : SqT K H' a xs := by
  rcases h with (h | ⟨u, h⟩) | h
  · exact .inl (.inl (e _ _ (ne_of h hp (fun z => nomatch z)) h))
  · exact .inl (.inr ⟨u, e _ _ (ne_of h hp (fun z => nomatch z)) h⟩)
  · exact .inr h
theorem SqT.same {K : PySem.W.Frag} {a : Addr} {H H' : Hp} {xs : List V} (e : Same H H') (h : SqT K H a xs) : SqT K H' a xs := by
  rcases h with (h | ⟨u, h⟩) | h
  · exact .inl (.inl (e _ _ h))
  · exact .inl (.inr ⟨u, e _ _ h⟩)
  · exact .inr h
def spLines (vok : V → Prop) (most : Nat) : Sp := fun vs H Q _ => ∃ (p c : Addr) (n z : Nat) (m : List V), vs = [.ref p, .int z] ∧ Pen H p c n m ∧ n + 1000 ≤ PB ∧ z ≤ 32 ∧
  ∀ (d : Addr) (xs : List Str) (kvs : List (Key × V)) (H' : Hp), But p H H' → H d = none → H' d = some (.dK kvs) → RowsOk z vok xs kvs → xs.length ≤ most → Pen H' p c (n + 200) m → Q (.ref d) H'
theorem Pen.lst {H : Hp} {p c : Addr} {n : Nat} {m : List V} (h : Pen H p c n m) : ∃ o, H p = some (.lst o) := by
  obtain ⟨ns, i, s, h⟩ := h
  exact ⟨_, h.at_⟩
/-- the loop of such a dict: pairs of a prefix and a value that is drawn -/
structure PairsAt (K : PySem.W.Frag) (H : Hp) (D : Addr) (vok : V → Prop) (xs : List Str) (ps : List Addr) (kvs : List (Key × V)) : Prop where
  at_ : H D = some (.lst (ps.map V.ref))
  prs : Paired (fun a kv => SqT K H a [kV kv.1, kv.2]) ps kvs
  keys : kvs.map (·.1) = xs.map Sum.inr
  val : ∀ kv ∈ kvs, vok kv.2
theorem PairsAt.but {K : PySem.W.Frag} {H H' : Hp} {D p : Addr} {vok : V → Prop} {xs : List Str} {ps : List Addr} {kvs : List (Key × V)} {o : List V} (h : PairsAt K H D vok xs ps kvs) (e : But p H H') (hp : H p = some (.lst o)) (hD : D ≠ p) : PairsAt K H' D vok xs ps kvs :=
  ⟨e _ _ hD h.at_, h.prs.mono fun _ _ t => SqT.but e hp t, h.keys, h.val⟩
theorem PairsAt.same {K : PySem.W.Frag} {H H' : Hp} {D : Addr} {vok : V → Prop} {xs : List Str} {ps : List Addr} {kvs : List (Key × V)} (h : PairsAt K H D vok xs ps kvs) (e : Same H H') : PairsAt K H' D vok xs ps kvs :=
  ⟨e _ _ h.at_, h.prs.mono fun _ _ t => SqT.same e t, h.keys, h.val⟩
theorem PairsAt.snoc {K : PySem.W.Frag} {H : Hp} {D : Addr} {vok : V → Prop} {xs : List Str} {ps : List Addr} {kvs : List (Key × V)} (h : PairsAt K H D vok xs ps kvs) {y : Str} {v : V} (hv : vok v) {t : Addr} (ht : H t = none) :
    PairsAt K (upd (upd H t (.tup [.str y, v])) D (.lst (ps.map V.ref ++ [.ref t]))) D vok (xs ++ [y]) (ps ++ [t]) (kvs ++ [(.inr y, v)]) := by
  have nt : t ≠ D := fun e => by
    rw [e, h.at_] at ht
    cases ht
  refine ⟨by rw [upd_same, List.map_append]; rfl, Paired.snoc (h.prs.mono fun a kv q => ?_) (.inl (.inl (by rw [upd_ne nt, upd_same]; rfl))), by rw [List.map_append, List.map_append, h.keys]; rfl, fun kv hk => ?_⟩
  · refine SqT.but (p := D) (H := upd H t (.tup [.str y, v])) .upd (by rw [upd_ne nt.symm]; exact h.at_) (SqT.same (same_upd ht) q)
  · rcases List.mem_append.mp hk with hk | hk
    · exact h.val kv hk
    · rw [List.mem_singleton.mp hk]
      exact hv
theorem pair_merge {K : PySem.W.Frag} {H : Hp} {D : Addr} {vok : V → Prop} {xs : List Str} {ps : List Addr} {kvs : List (Key × V)} (h : PairsAt K H D vok xs ps kvs) (nd : xs.Nodup) : mergeK [] kvs = kvs := by
  have e : (([] ++ kvs : List (Key × V)).map (·.1)).Nodup := by
    rw [List.nil_append, h.keys]
    exact nd.map Sum.inr (fun a b h e => h (Sum.inr.inj e))
  rw [mergeK_nd kvs [] e, List.nil_append]
/-- such a list made one longer: what stood else is as it was -/
theorem pairs_old {H H1 H3 : Hp} {D t p : Addr} {o1 o2 : HO} (hD : H D = none) (b1 : But p H H1) (b3 : But p H1 H3) (ht : H3 t = none) : But p H (upd (upd H3 t o1) D o2) := fun a o na ha => by
  have h1 := b3 a o na (b1 a o na ha)
  rw [upd_ne (ne_of_none ha hD), upd_ne (ne_of_none h1 ht)]
  exact h1
/-! ### lists of spots -/
theorem sg_mul (c n : Nat) : sg (Txt.mul ⟨#[c]⟩ (n : Int)) = List.replicate n c := by
  unfold Txt.mul
  by_cases h0 : (n : Int) < 1
  · rw [if_pos h0]
    have : n = 0 := by omega
    subst this
    rfl
  · rw [if_neg h0]
    by_cases h1 : n = 1
    · subst h1
      rfl
    · have e : (((n : Int) == 1) || ((⟨#[c]⟩ : Str).length == 0)) = false := by
        rw [show ((n : Int) == 1) = false from beq_eq_false_iff_ne.mpr (by omega)]
        rfl
      rw [e, if_neg Bool.false_ne_true]
      show ((List.replicate ((n : Int)).toNat (#[c] : Array Nat)).foldl (· ++ ·) #[]).toList = _
      rw [foldl_app, Int.toNat_natCast, List.map_replicate]
      show [] ++ (List.replicate n [c]).flatten = _
      rw [List.nil_append]
      induction n with
      | zero => rfl
      | succ k ih => 
        clear ih h0 h1 e
        induction k with
        | zero => rfl
        | succ j ih => rw [List.replicate_succ, List.flatten_cons, ih]; rfl
theorem zero_is : ("0" : Str) = ⟨#[48]⟩ := by decide +kernel
theorem one_is : ("1" : Str) = ⟨#[49]⟩ := by decide +kernel
theorem mul_ok1 {x : Str} {n : Nat} (hx : x.length ≤ 1) (hn : n ≤ 1000) : MulOk x (n : Int) := mulOk_of 1 1000 hx (by omega) (by omega) (by decide) (by decide)
theorem zeros_bits (n : Nat) : isBits (Txt.mul "0" (n : Int)) = true ∧ (Txt.mul "0" (n : Int)).length = n := by
  rw [zero_is]
  refine ⟨bits_iff.mpr fun c hc => ?_, ?_⟩
  · rw [sg_mul] at hc
    exact .inl (List.mem_replicate.mp hc).2
  · rw [← sg_len, sg_mul, List.length_replicate]
theorem ones_bits (n : Nat) : isBits (Txt.mul "1" (n : Int)) = true ∧ (Txt.mul "1" (n : Int)).length = n := by
  rw [one_is]
  refine ⟨bits_iff.mpr fun c hc => ?_, ?_⟩
  · rw [sg_mul] at hc
    exact .inr (List.mem_replicate.mp hc).2
  · rw [← sg_len, sg_mul, List.length_replicate]
/-- texts of bits, none longer than z -/
def AllS (z : Nat) (vs : List V) : Prop := ∀ v ∈ vs, ∃ x, v = .str x ∧ isBits x = true ∧ x.length ≤ z
theorem AllS.nil {z : Nat} : AllS z [] := fun _ h => absurd h List.not_mem_nil
theorem AllS.app {z : Nat} {vs us : List V} (h : AllS z vs) (h' : AllS z us) : AllS z (vs ++ us) := fun v hv => (List.mem_append.mp hv).elim (h v) (h' v)
theorem AllS.one {z : Nat} {x : Str} (h1 : isBits x = true) (h2 : x.length ≤ z) : AllS z [.str x] := fun v hv => ⟨x, List.mem_singleton.mp hv, h1, h2⟩
theorem AllS.rev {z : Nat} {vs : List V} (h : AllS z vs) : AllS z vs.reverse := fun v hv => h v (List.mem_reverse.mp hv)
theorem AllS.strs {z : Nat} {xs : List Str} (h : PfxL z xs) : AllS z (xs.map V.str) := fun v hv => by
  obtain ⟨x, hx, rfl⟩ := List.mem_map.mp hv
  exact ⟨x, rfl, h.bits x hx, h.len x hx⟩
theorem big_of {n : Nat} (h : n ≤ 1000) : n ≤ sizeLine := Nat.le_trans h (by decide)
theorem big_lt {n : Nat} (h : n ≤ 1000) : n < sizeLine := Nat.lt_of_le_of_lt h (by decide)
/-! ### rows whatever their order and however often they come -/
structure RowsAcc (w : Nat) (vok : V → Prop) (kvs : List (Key × V)) : Prop where
  nd : (kvs.map (·.1)).Nodup
  all : ∀ kv ∈ kvs, ∃ y, kv.1 = .inr y ∧ isBits y = true ∧ y.length ≤ w ∧ vok kv.2
theorem RowsAcc.put {w : Nat} {vok : V → Prop} {kvs : List (Key × V)} (h : RowsAcc w vok kvs) {y : Str} {v : V} (h1 : isBits y = true) (h2 : y.length ≤ w) (h3 : vok v) : RowsAcc w vok (putK kvs (.inr y) v) := by
  by_cases hm : (Sum.inr y : Key) ∈ kvs.map (·.1)
  · have e : putK kvs (.inr y) v = kvs.map (fun kv => if kv.1 = .inr y then (kv.1, v) else kv) := by
      unfold putK
      rw [if_pos]
      obtain ⟨p, hp, e⟩ := List.mem_map.mp hm
      exact List.any_eq_true.mpr ⟨p, hp, decide_eq_true e⟩
    rw [e]
    constructor
    · rw [List.map_map]
      have e2 : (Prod.fst ∘ fun kv : Key × V => if kv.1 = .inr y then (kv.1, v) else kv) = Prod.fst := by
        funext kv
        show (if kv.1 = .inr y then (kv.1, v) else kv).1 = kv.1
        split <;> rfl
      rw [e2]
      exact h.nd
    · intro kv hkv
      obtain ⟨p, hp, rfl⟩ := List.mem_map.mp hkv
      by_cases hy : p.1 = .inr y
      · rw [if_pos hy]
        exact ⟨y, hy, h1, h2, h3⟩
      · rw [if_neg hy]
        exact h.all p hp
  · rw [putK_end hm]
    constructor
    · rw [List.map_append, List.nodup_append]
      refine ⟨h.nd, List.nodup_cons.mpr ⟨List.not_mem_nil, List.nodup_nil⟩, fun a ha b hb e => hm ?_⟩
      have e2 : b = .inr y := List.mem_singleton.mp hb
      rw [← e2, ← e]
      exact ha
    · intro kv hkv
      rcases List.mem_append.mp hkv with hkv | hkv
      · exact h.all kv hkv
      · rw [List.mem_singleton.mp hkv]
        exact ⟨y, rfl, h1, h2, h3⟩
theorem RowsAcc.merge {w : Nat} {vok : V → Prop} : ∀ {more kvs : List (Key × V)}, RowsAcc w vok kvs → (∀ kv ∈ more, ∃ y, kv.1 = .inr y ∧ isBits y = true ∧ y.length ≤ w ∧ vok kv.2) → RowsAcc w vok (mergeK kvs more)
  | [], _, h, _ => h
  | (k, v) :: r, kvs, h, hm => by
    obtain ⟨y, e, h1, h2, h3⟩ := hm (k, v) List.mem_cons_self
    have e' : k = .inr y := e
    subst e'
    show RowsAcc w vok (mergeK (putK kvs (.inr y) v) r)
    exact RowsAcc.merge (h.put h1 h2 h3) fun kv hk => hm kv (List.mem_cons_of_mem _ hk)
theorem RowsAcc.ok {w : Nat} {vok : V → Prop} {kvs : List (Key × V)} (h : RowsAcc w vok kvs) : ∃ xs, RowsOk w vok xs kvs ∧ xs.length = kvs.length := by
  have key : ∀ l : List (Key × V), (∀ kv ∈ l, ∃ y, kv.1 = .inr y ∧ isBits y = true ∧ y.length ≤ w ∧ vok kv.2) → ∃ xs : List Str, l.map (·.1) = xs.map Sum.inr ∧ (∀ x ∈ xs, isBits x = true ∧ x.length ≤ w) := by
    intro l
    induction l with
    | nil => exact fun _ => ⟨[], rfl, fun _ h => absurd h List.not_mem_nil⟩
    | cons p r ih =>
      intro hl
      obtain ⟨xs, e, hx⟩ := ih fun kv hk => hl kv (List.mem_cons_of_mem _ hk)
      obtain ⟨y, ey, h1, h2, _⟩ := hl p List.mem_cons_self
      refine ⟨y :: xs, by rw [List.map_cons, List.map_cons, e, ey], fun x hx' => ?_⟩
      rcases List.mem_cons.mp hx' with rfl | hx'
      · exact ⟨h1, h2⟩
      · exact hx x hx'
  obtain ⟨xs, e, hx⟩ := key kvs h.all
  refine ⟨xs, ⟨e, ⟨?_, fun x hx' => (hx x hx').1, fun x hx' => (hx x hx').2⟩, fun kv hk => by obtain ⟨_, _, _, _, h⟩ := h.all kv hk; exact h⟩, ?_⟩
  · have hn := h.nd
    rw [e] at hn
    exact List.Pairwise.of_map Sum.inr (fun a b h e => h (by rw [e])) hn
  · have := congrArg List.length e
    rw [List.length_map, List.length_map] at this
    exact this.symm
/-! ### super().__init__(a, ..) -/
/-- an __init__ that calls its base's: its def at f, the cell of its class at cc -/
structure FunS (K : PySem.W.Frag) (file : Str) (x qual : Str) (st : Stmt) (f D : Addr) (fd : FuncData) : Prop where
  ex : ∃ (oc : Value) (od : Option Addr) (kV doc pm : Value) (an : Option Addr) (cda cc : Addr) (ct : Value) (osl : Array (Option Value)) (ck : Value) (cd : Option Addr) (vs : Array Value) (cs : Array (Option Value)) (tf : Tok) (lk : Value) (ld : Option Addr) (ls : Array (Option Value)),
    fd = PySem.W.ksFn x qual (defArgs st) (defBody st) (defScope st) .none kV doc pm an (.ref cda) ct cc ∧ K.lookup f = some ⟨oc, od, .func fd, osl⟩ ∧ PySem.W.codeIn K (.ref cda) qual = true ∧
    K.lookup cda = some ⟨ck, cd, .fields vs, cs⟩ ∧ vs[2]? = some (.str file tf) ∧ K.lookup cc = some ⟨lk, ld, .cell (some (.ref D)), ls⟩
  kp : PySem.W.keepIn K (.ref f) = true
/-- the scope of such a def: its parameters alone, and the cell -/
structure ScS (ps : List Str) (sc : Scope) : Prop where
  kind : sc.kind = .function
  co : sc.isCoroutine = false
  gen : sc.isGenerator = false
  nd : ps.Nodup
  par : ∀ x ∈ ps, sc.names.lookup x = some .local
  nocell : ∀ y ∈ sc.names, y.2 ≠ .cell
  free : ∀ y ∈ sc.names, y.2 = .free → y.1 = "__class__"
  sup : sc.names.lookup ("super" : Str) = some .globalImplicit
  cls : sc.names.lookup ("__class__" : Str) = some .free
theorem rev_get {x : Str} {v : Value} : ∀ {P : List Str} {vs : List Value} {i : Nat}, P.Nodup → P[i]? = some x → vs[i]? = some v → (P.zip vs).reverse.lookup x = some v
  | [], _, _, _, h, _ => by simp at h
  | _ :: _, [], _, _, _, h => by simp at h
  | p :: P, w :: vs, 0, nd, h1, h2 => by
    obtain rfl : p = x := by simpa using h1
    obtain rfl : w = v := by simpa using h2
    have out : (P.zip vs).reverse.lookup p = none := by
      rw [List.lookup_eq_none_iff]
      intro q hq
      have hq' := List.mem_reverse.mp hq
      have : q.1 ∈ P := (List.of_mem_zip (a := q.1) (b := q.2) hq').1
      have ne : p ≠ q.1 := by rintro e; exact (List.nodup_cons.mp nd).1 (e ▸ this)
      simpa using ne
    show ((p, w) :: P.zip vs).reverse.lookup p = _
    rw [List.reverse_cons, List.lookup_append, out]
    simp
  | p :: P, w :: vs, i + 1, nd, h1, h2 => by
    have := rev_get (i := i) (List.nodup_cons.mp nd).2 (by simpa using h1) (by simpa using h2)
    show ((p, w) :: P.zip vs).reverse.lookup x = _
    rw [List.reverse_cons, List.lookup_append, this]
    rfl
/-- the context of its body -/
def cxS (P : Program) (w : World) (K : PySem.W.Frag) (mg : Str → Option Value) (base : Heap) (N : List Str) (qual : Str) (scope : Scope) (f : Addr) (cd : Value) (cc : Addr) (A : Around) (outer : List Env) (s : Shared) (H : Hp) : Cx where
  prog := P
  w := w
  K := K
  mg := mg
  base := base
  A := A.deeper (PySem.W.ksEnv qual scope s.heap.objs.size f cd cc)
  N := N
  s_0 := s
  H_0 := H
  env := PySem.W.ksEnv qual scope s.heap.objs.size f cd cc
  outer := outer
  stack := PySem.W.ksEnv qual scope s.heap.objs.size f cd cc :: outer
  ex := []
  calm := true
  fn := fun _ => false
  pn := []
  xe := fun _ _ => False
section
variable {P : Program} {w : World} {K : PySem.W.Frag} {mg : Str → Option Value} {base : Heap}
theorem inv_super {ps : List Str} {qual : Str} {scope : Scope} {f cc : Addr} {cd : Value} {A : Around} {outer : List Env} {s : Shared} {h1 : Heap} {tk : Nat} {H : Hp} {us : List Value} {vs : List V} {D : Addr} {lk : Value} {ld : Option Addr} {ls : Array (Option Value)}
    (S : ScS ps scope) (hd : A.handled = none) (e0 : Env0 P w K mg base A outer s H) (hl : vs.length = ps.length) (r : Vals vs us) (hcc : K.lookup cc = some ⟨lk, ld, .cell (some (.ref D)), ls⟩)
    (ns : h1.Ns s.heap.objs.size (fun y => (ps.zip us).reverse.lookup y)) (hk : ∀ b o, s.heap.get? b = some o → h1.get? b = some o) :
    Inv (cxS P w K mg base ps qual scope f cd cc A outer s H) [] (vs.map some) H { s with heap := h1, toks := tk } := by
  have KX : K.In s.heap := e0.mod.kin.keeps fun b o e => (e0.bs b o e).1
  have one : ∀ {x : Str} {c : Addr}, ([("__class__", cc)] : List (Str × Addr)).lookup x = some c → x = "__class__" ∧ c = cc := by
    intro x c h
    simp only [List.lookup] at h
    split at h
    · rename_i q
      exact ⟨by simpa using q, by cases h; rfl⟩
    · cases h
  have hcb : base.get? cc = some ⟨lk, ld, .cell (some (.ref D)), ls⟩ := e0.mod.kin _ _ hcc
  have noA : ∀ b : Addr, b ∉ (cxS P w K mg base ps qual scope f cd cc A outer s H).ex := fun b z => absurd (show b ∈ ([] : List Addr) from z) (by simp)
  refine ⟨⟨e0.mod, S.kind, rfl, rfl, Nat.le_refl _, fun y z c h1 h2 => (one h1).1.trans (one h2).1.symm, fun y hy => ?_, fun y c q _ => absurd (show false = true from q) (by decide), fun _ => hd, Around.frames_deeper e0.frames, .inr ⟨rfl, rfl⟩, fun b z => absurd z (noA b), e0.bs, e0.bsz, fun b _ _ => noA b, fun b z => absurd z (noA b), e0.funs, e0.frf⟩,
    rfl, e0.bare, Un.kept hk, ⟨_, ns, fun i y v g1 g2 g3 => ?_⟩, fun y c h => ?_, e0.hok.fresh (Nat.le_refl _), fun y c h => ?_, fun p hp => absurd (show p ∈ ([] : List (Addr × Obj)) from hp) (by simp), e0.hok.kept hk, ?_⟩
  · have hy : scope.names.lookup y = some .cell ∨ scope.names.lookup y = some .free := hy
    rcases hy with hy | hy
    · exact absurd rfl (S.nocell _ (PySem.mem_of_lookup hy))
    · obtain rfl := S.free _ (PySem.mem_of_lookup hy) rfl
      exact ⟨cc, rfl⟩
  · have g2' : (vs.map some)[i]? = some (some v) := g2
    rw [List.getElem?_map] at g2'
    obtain ⟨v', ha, e⟩ := Option.map_eq_some_iff.mp g2'
    obtain rfl : v' = v := Option.some.inj e
    obtain ⟨u, hu, rv⟩ := r.get ha
    exact ⟨u, rv, .inl ⟨S.par y (List.mem_of_getElem? g1), rev_get S.nd g1 hu⟩⟩
  · obtain ⟨rfl, rfl⟩ := one h
    exact ⟨_, _, hk _ _ (KX _ _ hcc), rfl⟩
  · obtain ⟨rfl, rfl⟩ := one h
    exact (e0.bs _ _ hcb).2
  · show (vs.map some).length = ps.length
    rw [List.length_map, hl]
/-- the first statement super().__init__(a, ..), then the rest -/
theorem ok_super {x qual : Str} {st : Stmt} {f f2 C D : Addr} {fd : FuncData} {ps : List Str} {k : Nat} {file self : Str} {sp sp2 : Sp} {rest : List Stmt} {e : Expr} {es : List Expr} {p0 p1 ap pos sps : Pos} {m : Str}
    (F : FunS K file x qual st f D fd) (S : ScS ps (defScope st)) (G2 : FnR P w K mg base CX0 k f2 sp2) (fi : PySem.W.fnIn K f2 = true) (ty : PySem.W.typeIn K (.ref f2) = some (.type "function"))
    (hcd : ∃ cdD, PySem.W.clsIn K D = some cdD) (hsub : PySem.W.mroIn K C (.ref D) = some true) (hm : PySem.W.ks_superIn K C D m = some (some (.ref f2))) (hop : PySem.W.nsIn K cStatics "thirdparty.any" = some none) (hsu : mg "super" = none)
    (hfile : ((P.main.file : Str) == file) = true) (htop : (P.main.scope.names.lookup ("super" : Str)).isSome = false)
    (hb : defBody st = .Expr (.Call (.Attribute (.Call (.Name "super" p0) [] [] p1) m ap) (e :: es) [] pos) sps :: rest) (hself : ∃ ar, ((defArgs st).posonlyargs ++ (defArgs st).args).head? = some ar ∧ ar.arg = self) (h0 : ps[0]? = some self)
    (hn : (m == ("__class__" : Str)) = false)
    (hev : ∀ env, ∃ pl, eval (.Call (.Attribute (.Call (.Name "super" p0) [] [] p1) m ap) (e :: es) [] pos) env = (do
      let ov ← attributeBase (.Call (.Name "super" p0) [] [] p1) m env (eval (.Call (.Name "super" p0) [] [] p1) env)
      standAt ap.atName
      let (g, first) ← holding [ov] (getMethod ov m pl)
      callWith pos g first (backTo pos (starEach (e :: es) env)) []))
    (hsw : ∀ env, swapsWith (.Call (.Attribute (.Call (.Name "super" p0) [] [] p1) m ap) (e :: es) [] pos) none sps.line env = pure false)
    (hst : ∀ env, starEach (e :: es) env = (false, eval e env) :: starEach es env) (hpl : ∀ env, (backTo pos (starEach es env)).any (·.1) = false)
    (many : ∀ vs H Q E, sp vs H Q E → vs.length = ps.length) (hE : ∀ {vs H Q E}, sp vs H Q E → sp vs H Q E0)
    (want : ∀ (A : Around) (cda cc : Addr) (outer : List Env) (s : Shared) (H : Hp) (vs : List V) (Q : VK), Room (k + 1) A → sp vs H Q E0 → ∃ (x dx : Addr) (fs : List (Str × V)) (t : TA) (u : TS), vs[0]? = some (.ref x) ∧ H x = some (.ins C dx fs) ∧ PA (cxS P w K mg base ps qual (defScope st) f (.ref cda) cc A outer s H) (e :: es) t ∧
      PSs (cxS P w K mg base ps qual (defScope st) f (.ref cda) cc A outer s H) rest u ∧ t (vs.map some) H (fun ws H1 => sp2 (.ref x :: ws) H1 (fun _ H2 => u { nx := fun _ H' => Q .non H', rt := Q } (vs.map some) H2) E0)) :
    FnOk P w K mg base CX0 (k + 1) f fd ps sp := by
  refine ⟨many, fun A outer s H args us vs Q E hr e0 bind rel hsp => ?_⟩
  obtain ⟨oc, od, kV, doc, pm, an, cda, cc, ct, osl, ck, cdd, cvs, ccs, tf, lk, ld, ls, rfl, lf, hcode, lcda, hvs, lcc⟩ := F.ex
  have old : ∀ b o, base.get? b = some o → s.heap.get? b = some o := fun b o e => (e0.bs b o e).1
  have KX : K.In s.heap := e0.mod.kin.keeps old
  have lim : s.heap.NoLimit := e0.mod.nolimit.keeps old
  refine ks_codeAny_call_defAt (body := defBody st) (binds := ps.zip us) hr.depth (KX _ _ lf) rfl lim (PySem.W.codeRec_of KX hcode) rfl bind S.nocell (fun y hy => S.par _ (List.of_mem_zip (a := y.1) (b := y.2) hy).1) (fun h1 ns hk => ?_) S.co S.gen S.kind
  have I := inv_super (qual := qual) (f := f) (cd := .ref cda) (tk := s.toks + (ps.zip us).length) S hr.hd e0 (many _ _ _ _ hsp) rel lcc ns hk
  obtain ⟨x, dx, fs, t, u, hx0, hx, pa, pr, q⟩ := want A cda cc outer s H vs Q hr (hE hsp)
  obtain ⟨mA, O, _⟩ := ins_get I.hok hx
  obtain ⟨od', J, _⟩ := O.look
  obtain ⟨cdD, hcD⟩ := hcd
  have KX1 := I.kIn
  obtain ⟨oD, hD1, hD2⟩ : ∃ oD, h1.get? D = some oD ∧ oD.data = .cls cdD := by
    have hcD' := hcD
    unfold PySem.W.clsIn at hcD'
    split at hcD'
    · rename_i ho
      cases hcD'
      exact ⟨_, KX1 _ _ ho, rfl⟩
    · cases hcD'
  obtain ⟨mb, hb1, hb2⟩ := I.mod.blt
  obtain ⟨ar, har, ear⟩ := hself
  obtain ⟨ux, hux, rux⟩ := rel.get hx0
  obtain rfl : ux = Value.ref x := rux
  have hC : ∃ cdC, PySem.W.clsIn K C = some cdC := by
    cases z : PySem.W.clsIn K C with
    | some c => exact ⟨c, rfl⟩
    | none =>
      unfold PySem.W.ks_superIn at hm
      rw [z] at hm
      cases hm
  obtain ⟨cdC, hcC⟩ := hC
  have hm' : PySem.W.alongIn K m ((cdC.mro.dropWhile (· != .ref D)).drop 1) = some (some (.ref f2)) := by
    unfold PySem.W.ks_superIn at hm
    rw [hcC] at hm
    exact hm
  have key : PySem.wpAt (model P w) (cxS P w K mg base ps qual (defScope st) f (.ref cda) cc A outer s H).A (.func (defBody st) (cxS P w K mg base ps qual (defScope st) f (.ref cda) cc A outer s H).env) (execs (defBody st) (cxS P w K mg base ps qual (defScope st) f (.ref cda) cc A outer s H).env)
      (SP (cxS P w K mg base ps qual (defScope st) f (.ref cda) cc A outer s H) [] { nx := fun _ H' => Q .non H', rt := Q }) (fun _ _ => False) { s with heap := h1, toks := s.toks + (ps.zip us).length } := by
    have e1 := congrArg (fun b => execs b (cxS P w K mg base ps qual (defScope st) f (.ref cda) cc A outer s H).env) hb
    rw [show execs (defBody st) (cxS P w K mg base ps qual (defScope st) f (.ref cda) cc A outer s H).env = _ from e1]
    obtain ⟨pl, epl⟩ := hev (cxS P w K mg base ps qual (defScope st) f (.ref cda) cc A outer s H).env
    refine ks_wpAt_execs_cons (ks_wpAt_Expr_any (ks_wpAt_MethodCall ?_ epl) (by show ((defScope st).kind == .module && _) = false; rw [S.kind]; rfl) (hsw _))
    refine ks_wpAt_super_base S.sup S.cls hn rfl (KX1 _ _ lf) rfl har rfl (KX1 _ _ lcda) rfl hvs hfile htop ?_
    refine PySem.W.ks_loadName_global S.kind S.sup (PySem.Calls.loadGlobal_builtin (I.mod.glob.keeps I.bk) hsu (hb1.keeps I.bk) ((hb2 _ (by decide)).trans (by rfl)) ⟨rfl, ?_⟩)
    refine wpAny_loadName_free S.kind S.cls rfl ⟨_, KX1 _ _ lcc, rfl⟩ ?_
    refine wpAny_loadName_local S.kind (by rw [ear]; exact S.par self (List.mem_of_getElem? h0)) ns (by rw [ear]; exact rev_get S.nd h0 hux) ?_
    refine ks_wpAny_isType_cls hD1 hD2 ⟨rfl, ?_⟩
    refine ks_wpAny_call_super hD1 hD2 J.at_ J.cls (fun c e => ?_) (PySem.W.looks_mroIn KX1 hsub) (fun h' e ke => ?_)
    · have z := J.no
      unfold PySem.W.notCls at z
      rw [e] at z
      cases z
    have I1 := ClX.pin_new (t' := s.toks + (ps.zip us).length) I ke (Nat.le_refl _) e (fun v z => nomatch z)
    obtain ⟨of2, hof2, hof2c⟩ : ∃ of, h'.get? f2 = some of ∧ of.cls = .type "function" := by
      have ty' : (K.lookup f2).map (·.cls) = some (.type "function") := ty
      obtain ⟨of, z1, z2⟩ := Option.map_eq_some_iff.mp ty'
      exact ⟨of, I1.kIn _ _ z1, z2⟩
    refine ks_wpAny_getMethod_super e (PySem.W.looks_opaque I1.kIn hop) (l₀ := cdC.mro) (fun A Q E s k q => wpAny_bind ((PySem.W.looks_clsIn I1.kIn hcC) A _ E s k (wpAny_pure q))) rfl I1.kIn hm' hof2 hof2c (PySem.W.ks_ne KX1 J hcC) hn ?_
    have I2 := ClX.met_new (g := f2) (C := x) I1
    refine ClX.callwith_cm I2 (ClX.base_none I1 (Nat.le_refl _)) fi (thn (pa.run pos _ _ _ H _ I2 q) fun ws s3 ⟨zs, H2, I3, rv, q2⟩ => ⟨⟨ClX.pin_at I3, I3.kIn⟩, ?_⟩) (hst _) (hpl _)
    refine thn (ClX.run_cm G2 (hr.deeper _) pass0 I3 rv q2) fun r s4 ⟨v4, H4, I4, _, q4⟩ => ?_
    exact PySem.wpAt_of_wpAny (pr.run [] _ _ H4 _ (ClX.unpin I4) q4)
  refine ks_wpAt_mono key (fun fl s' hs => ?_) fun _ _ z => False.elim z
  cases fl with
  | ret v =>
    obtain ⟨v', σ', H', J, rv, q⟩ := hs
    exact ⟨v', H', J.os, J.bare, J.base, J.hok, rv, q⟩
  | next =>
    obtain ⟨σ', H', J, q⟩ := hs
    exact ⟨V.non, H', J.os, J.bare, J.base, J.hok, rfl, q⟩
  | brk =>
    obtain ⟨_, _, _, q⟩ := hs
    exact q.elim
  | cont =>
    obtain ⟨_, _, _, q⟩ := hs
    exact q.elim
end
/-! ### sets of texts -/
/-- the text that an entry of a set's table holds -/
def txV : Value → Str
  | .str k _ => k
  | _ => Str.empty
def txOf (e : Int × Value) : Str := txV e.2
/-- an entry is a text with its own hash -/
def TxE (w : World) (e : Int × Value) : Prop := ∃ k u, e.2 = Value.str k u ∧ e.1 = hashStr w k
/-- the table of a set whose members are ks -/
structure TxT (w : World) (es : Array (Int × Value)) (t : SetTable) (ks : List Str) : Prop where
  ent : ∀ e ∈ es.toList, TxE w e
  mem : (es.toList.map txOf).Perm ks
  nd : ks.Nodup
  few : es.size < scanBound
  fit : t.fits es.size = true
  ris : Ris t.place.toList
  led : w.params.followText "set-order" = true ∨ t.led = true
/-- at a the set of the texts ks -/
def TxS (w : World) (h : Heap) (a : Addr) (ks : List Str) : Prop := ∃ (o : Obj) (es : Array (Int × Value)) (ep : Nat) (t : SetTable), h.get? a = some o ∧ o.ExactSet ∧ o.data = .set es ep t ∧ TxT w es t ks
theorem TxS.keep {w : World} {h h' : Heap} {a : Addr} {ks : List Str} (R : TxS w h a ks) (k : ∀ o, h.get? a = some o → h'.get? a = some o) : TxS w h' a ks :=
  let ⟨o, es, ep, t, ho, r⟩ := R
  ⟨o, es, ep, t, k o ho, r⟩
theorem tx_is {P : Program} {w : World} {e : Int × Value} (g : TxE w e) (k : Str) : (PySem.strKind P w).is k e.2 = true ↔ txOf e = k := by
  obtain ⟨k0, u, h1, _⟩ := g
  have z : txOf e = k0 := by unfold txOf; rw [h1]; rfl
  rw [z, h1]
  constructor
  · intro q
    exact (PySem.strKind P w).inj _ _ _ (strKind_is P w k0 u) q
  · rintro rfl
    exact strKind_is P w _ u
section
variable {P : Program} {w : World} {A : Around} {E : Value → Shared → Prop} {s : Shared} {a : Addr}
theorem TxT.elems {es : Array (Int × Value)} {t : SetTable} {ks : List Str} (T : TxT w es t ks) : ElemsOf (PySem.strKind P w) es.toList := fun e he => by
  obtain ⟨k, u, h1, h2⟩ := T.ent e he
  exact ⟨⟨k, by rw [h1]; exact strKind_is P w k u, h2⟩, by rw [h1]; rfl⟩
theorem TxT.relaid {es es' : Array (Int × Value)} {t t' : SetTable} {ks : List Str} (T : TxT w es t ks) (p : es'.toList.Perm es.toList) (hf : t'.fits es'.size = true) (hr : Ris t'.place.toList) (hl : t'.led = t.led) : TxT w es' t' ks := by
  have n : es'.size = es.size := by
    rw [← Array.length_toList, ← Array.length_toList]
    exact p.length_eq
  exact ⟨fun e he => T.ent e (p.mem_iff.mp he), (p.map txOf).trans T.mem, T.nd, n ▸ T.few, hf, hr, by rw [hl]; exact T.led⟩
theorem tx_store {h : Heap} {o : Obj} {es es' : Array (Int × Value)} {ep : Nat} {t t' : SetTable} (ho : h.get? a = some o) (hd : o.data = .set es ep t) : (h.update a (Obj.putSet es' t')).get? a = some { o with data := .set es' (ep + 1) t' } :=
  L2.store_at ho hd
theorem tx_tail {g : Bool → Sem Unit} (free : ∀ (b : Bool) (r : Shared) (Z : Unit → Shared → Prop), Z () r → wpAny (model P w) A (g b) Z E r) {o : Obj} {es es1 : Array (Int × Value)} {ep : Nat} {t t2 : SetTable} {ks : List Str} (ho : s.heap.get? a = some o) (hx : o.ExactSet)
    (hd : o.data = .set es ep t) (T : TxT w es1 t2 ks) {wd : Bool} {Z : Option Bool → Shared → Prop} (hZ : ∀ h', Heap.SameBut a s.heap h' → TxS w h' a ks → Z (some true) { s with heap := h' }) :
    wpAny (model P w) A (storeSet a es1 t2 >>= fun _ => if (!wd && t2.tooFull) = true then g (relayAll t2 es1 (SetTable.grown es1.size)).2.2 >>= fun _ => storeSet a (relayAll t2 es1 (SetTable.grown es1.size)).1 (relayAll t2 es1 (SetTable.grown es1.size)).2.1 >>= fun _ => pure (some true) else pure (some true)) Z E s := by
  refine wpAny_bind (wpAny_storeSet_of ho hd ?_ (fits_of_scanBound T.few))
  have o1 := tx_store (es' := es1) (t' := t2) ho hd
  have b1 := Heap.SameBut.update s.heap a (Obj.putSet es1 t2)
  split
  · have T2 := T.relaid (relayAll_perm t2 es1 (SetTable.grown es1.size)) (relayAll_fits t2 es1 _) (L2.relayAll_ris t2 es1 _) (L2.relayAll_led t2 es1 _)
    revert T2
    generalize relayAll t2 es1 (SetTable.grown es1.size) = z
    intro T2
    refine wpAny_bind (free _ _ _ (wpAny_bind (wpAny_storeSet_of o1 rfl ?_ (fits_of_scanBound T2.few))))
    exact wpAny_pure (hZ _ (b1.trans (Heap.SameBut.update _ a _)) ⟨_, z.1, _, z.2.1, tx_store (es' := z.1) (t' := z.2.1) o1 rfl, hx, rfl, T2⟩)
  · exact wpAny_pure (hZ _ b1 ⟨_, es1, _, t2, o1, hx, rfl, T⟩)
theorem tx_add {ks : List Str} {k : Str} {u : Tok} {Z : Bool → Shared → Prop} (R : TxS w s.heap a ks) (room : ks.length + 1 < scanBound)
    (hZ : ∀ h' b ks', Heap.SameBut a s.heap h' → TxS w h' a ks' → (∀ x, x ∈ ks' ↔ x = k ∨ x ∈ ks) → ks'.length ≤ ks.length + 1 → Z b { s with heap := h' }) : wpAny (model P w) A (setAddHashed a (.str k u) ((PySem.strKind P w).hash k)) Z E s := by
  obtain ⟨o, es, ep, t, ho, hx, hd, T⟩ := R
  have hsc : (Value.str k u).scannable = true := rfl
  unfold setAddHashed setAddHashedIn
  refine wpAny_holding (wpAny_bind (wpAny_setState_of ho hd T.fit ?_))
  show wpAny _ _ (if byScan (.str k u) es = true then _ else _) _ _ _
  rw [if_pos (byScan_of hsc T.few (T.elems (P := P)))]
  unfold setAddByScan
  refine wpAny_bind (wpAny_bind (wpAny_rule (wpAny_bind (wpAny_setScan_of (strKind_is P w k u) ho hd T.fit T.elems ?_))))
  cases hf : es.toList.findIdx? (fun e => (PySem.strKind P w).is k e.2) with
  | some j =>
    obtain ⟨hj, pj, _⟩ := List.findIdx?_eq_some_iff_getElem.mp hf
    have hk : k ∈ ks := T.mem.mem_iff.mp (List.mem_map.mpr ⟨_, List.getElem_mem hj, (tx_is (T.ent _ (List.getElem_mem hj)) k).mp pj⟩)
    refine wpAny_pure (wpAny_pure (hZ s.heap _ ks (Heap.SameBut.refl a s.heap) ⟨o, es, ep, t, ho, hx, hd, T⟩ (fun x => ⟨.inr, fun q => q.elim (fun e => e ▸ hk) id⟩) (Nat.le_succ _)))
  | none =>
    have hk : k ∉ ks := fun q => by
      obtain ⟨e, he, ee⟩ := List.mem_map.mp (T.mem.mem_iff.mpr q)
      have c := List.findIdx?_eq_none_iff.mp hf e he
      rw [(tx_is (T.ent e he) k).mpr ee] at c
      cases c
    have gw : ∀ (b : Bool) {r : Shared} {Y : Unit → Shared → Prop}, Y () r → wpAny (model P w) A (match b with | true => rule "set.scan.the-table-gave-way" | false => pure ()) Y E r := fun b r Y q => by
      cases b
      · exact wpAny_pure q
      · exact wpAny_rule q
    have pm := layNew_perm t es ((PySem.strKind P w).hash k) (.str k u)
    have f1 := layNew_fits t es ((PySem.strKind P w).hash k) (.str k u)
    have r1 := L2.layNew_ris t es ((PySem.strKind P w).hash k) (.str k u) T.ris
    have l1 := L2.layNew_led t es ((PySem.strKind P w).hash k) (.str k u)
    dsimp only
    revert pm f1 r1 l1
    generalize layNew t es ((PySem.strKind P w).hash k) (.str k u) = z
    obtain ⟨es1, t1, wd, gave⟩ := z
    dsimp only
    intro pm f1 r1 l1
    rw [Array.toList_push] at pm
    have pc : es1.toList.Perm (((PySem.strKind P w).hash k, Value.str k u) :: es.toList) := pm.trans (List.perm_append_singleton _ _)
    have n1 : es1.size = es.size + 1 := by
      rw [← Array.length_toList, pc.length_eq, List.length_cons, Array.length_toList]
    have n2 : ks.length = es.size := by
      rw [← T.mem.length_eq, List.length_map, Array.length_toList]
    have mk : ∀ t2 : SetTable, t2.fits es1.size = true → Ris t2.place.toList → t2.led = t1.led → TxT w es1 t2 (k :: ks) := fun t2 q1 q2 q3 =>
      ⟨fun e he => (List.mem_cons.mp (pc.mem_iff.mp he)).elim (fun q => by rw [q]; exact ⟨k, u, rfl, rfl⟩) (T.ent e), (pc.map txOf).trans (T.mem.cons k), List.nodup_cons.mpr ⟨hk, T.nd⟩, by rw [n1, ← n2]; exact room, q1, q2, by rw [q3, l1]; exact T.led⟩
    have fin : ∀ h', Heap.SameBut a s.heap h' → TxS w h' a (k :: ks) → Z true { s with heap := h' } := fun h' sb r => hZ h' true (k :: ks) sb r (fun x => List.mem_cons) (Nat.le_refl _)
    refine wpAny_bind (gw _ ?_)
    split
    · refine wpAny_bind ?_
      rw [hashByValue_scannable 8 hsc]
      refine wpAny_pure (tx_tail (fun b r Y q => gw b q) ho hx hd (mk _ ?_ ?_ ?_) fun h' sb r => wpAny_pure (fin h' sb r))
      · first | (split <;> first | exact f1 | exact SetTable.fits_plain_off f1) | exact f1
      · first | (split <;> exact r1) | exact r1
      · first | (split <;> rfl) | rfl
    · refine wpAny_bind (wpAny_pure ?_)
      simp only [↓reduceIte]
      exact tx_tail (fun b r Y q => gw b q) ho hx hd (mk t1 f1 r1 rfl) fun h' sb r => wpAny_pure (fin h' sb r)
end
/-! ### set(a list of texts), sorted(a set of texts) -/
abbrev newSetO (w : World) : Obj := { cls := .type "set", dict := none, data := .set #[] 0 (.fresh 0 0 (!w.params.followText "set-order")) }
theorem tx_new {w : World} {h : Heap} {a : Addr} (e : h.get? a = some (newSetO w)) : TxS w h a [] := by
  refine ⟨_, #[], 0, _, e, ⟨rfl, rfl, rfl⟩, rfl, fun e he => ?_, .nil, List.nodup_nil, by decide, by rfl, List.Pairwise.nil, ?_⟩
  · simp at he
  · show _ ∨ (!w.params.followText "set-order") = true
    cases w.params.followText "set-order"
    · exact .inr rfl
    · exact .inl rfl
section
variable {P : Program} {w : World} {A : Around} {E : Value → Shared → Prop} {s : Shared}
theorem tx_fill {I S : Addr} {fp wr : List Addr} {G : Array GenState → Array GenState → Prop} {n : Nat} {Pv : Nat → Value → Prop} {St : Nat → Shared → Prop} {Z : Result → Shared → Prop} (W : WalksS P w A.in1 I fp wr G n Pv St) (nS : S ∉ fp) (xs : List Str) (en : n = xs.length) (room : xs.length + 1 < scanBound)
    (txt : ∀ i v, Pv i v → ∃ k u, xs[i]? = some k ∧ v = .str k u) : ∀ (m i : Nat) (s : Shared), n - i = m → i ≤ n → St i s → (∃ ks, TxS w s.heap S ks ∧ (∀ x, x ∈ ks ↔ x ∈ xs.take i) ∧ ks.length ≤ i) →
      (∀ s' ks, Moved (S :: wr) G s s' → TxS w s'.heap S ks → (∀ x, x ∈ ks ↔ x ∈ xs) → ks.length ≤ n → Z (.ok (.ret .none)) s') → codeAny (model P w) A (.builtin "set.update.loop" ⟨[.ref S, .ref I], []⟩) Z s := by
  have nW : S ∉ wr := fun q => nS (W.sub _ q)
  have up : ∀ b ∈ wr, b ∈ S :: wr := fun b q => List.mem_cons_of_mem _ q
  intro m
  induction m with
  | zero =>
    rintro i s hm hi st ⟨ks, R, sub, len⟩ fin
    obtain rfl : i = n := by omega
    rw [List.take_of_length_le (by omega)] at sub
    refine codeAny_builtin PyProof.Rows.F.entry_set_update_loop ?_
    rw [Around.under_plainId PyProof.Rows.F.plain_set_update_loop _]
    show wpAny _ A.in1 (pyNext (.ref I) >>= _) _ _ _
    refine wpAny_bind (W.done s _ _ st fun s' mv => ?_)
    exact wpAny_pure (fin s' ks (mv.mono up) (R.keep fun o e => mv.heap S o nW e) sub len)
  | succ m ih =>
    rintro i s hm hi st ⟨ks, R, sub, len⟩ fin
    have lt : i < n := by omega
    refine codeAny_builtin PyProof.Rows.F.entry_set_update_loop ?_
    rw [Around.under_plainId PyProof.Rows.F.plain_set_update_loop _]
    show wpAny _ A.in1 (pyNext (.ref I) >>= _) _ _ _
    refine wpAny_bind (W.item i s _ _ lt st fun v s' pv st' mv => ?_)
    obtain ⟨k, u, hk, rfl⟩ := txt i v pv
    have R1 : TxS w s'.heap S ks := R.keep fun o e => mv.heap S o nW e
    show wpAny _ A.in1 (holding [Value.str k u] (setAdd S (.str k u)) >>= _) _ _ _
    refine wpAny_bind (wpAny_holding ?_)
    unfold setAdd
    refine wpAny_holding (wpAny_bind ((PySem.strKind P w).pyHash (k := k) (strKind_is _ _ _ _) ?_))
    refine tx_add (s := { s' with toks := s'.toks + 1 }) R1 (by omega) fun h' b ks' sb R2 mem ln => ?_
    refine wpAny_pure ⟨plainId_quiet PyProof.Rows.F.plain_set_update_loop _, ih (i + 1) _ (by omega) lt (W.frame _ s' _ _ st' (Nat.le_succ _) fun c hc o e => ?_) ⟨ks', R2, fun x => ?_, by omega⟩ fun s'' ks'' mv2 R3 sub3 ln3 => ?_⟩
    · rw [sb.2 c (fun q : c = S => nS (q ▸ hc))]
      exact e
    · rw [mem x, List.take_add_one, hk, List.mem_append, sub x]
      exact ⟨fun q => q.elim (fun e => .inr (by rw [e]; exact List.mem_singleton.mpr rfl)) .inl, fun q => q.elim .inr fun e => .inl (List.mem_singleton.mp e)⟩
    · refine fin s'' ks'' (Moved.trans W.gtrans ((mv.mono up).then_heap (Nat.le_succ _) fun c o hc e => ?_) mv2) R3 sub3 ln3
      rw [sb.2 c (fun q : c = S => hc (by rw [q]; exact List.mem_cons_self))]
      exact e
set_option maxHeartbeats 8000000 in
theorem tx_make {l : Addr} {its : Array Value} (xs : List Str) {Z : Value → Shared → Prop} (calm : A.handled = none) (hl : s.heap.IsList l its) (hx : StrsAre its.toList xs) (room : xs.length + 1 < scanBound)
    (hZ : ∀ (h' : Heap) (tk : Nat) (ks : List Str), TxS w h' s.heap.objs.size ks → (∀ x, x ∈ ks ↔ x ∈ xs) → ks.length ≤ xs.length → (∀ b o, s.heap.get? b = some o → h'.get? b = some o) → Z (.ref s.heap.objs.size) { s with heap := h', toks := tk }) :
    wpAny (model P w) A (call (.type "set") [.ref l]) Z E s := by
  have many : its.size = xs.length := by
    have q := StrsAre.len_eq hx
    rw [Array.length_toList] at q
    exact q
  obtain ⟨_, _, m1⟩ := PySem.F.called_set.mro; have m2 := PySem.F.called_set.made; have m3 := PySem.F.called_set.sub
  refine wpAny_call (codeAny_of_tree ?_)
  show wpAny _ _ (callAny (.type "set") ⟨[.ref l], []⟩) _ _ _
  refine wpAny_pure ⟨Code.quiet_builtin _ (by decide +kernel), codeAny_builtin PySem.F.entry_type_call ?_⟩
  rw [Around.under_plain (weight_type_call_type "set" [.ref l] []) rfl]
  have c1 := PySem.F.called_set.notType; have c2 := PySem.F.called_set.canCreate; have c3 := PySem.F.typeCall_set_1 (.ref l)
  repeat (any_goals (first | assumption | wp_step))
  refine codeAny_mono (L2.code_set_led1 (.ref l) (E := E) (Q₁ := fun v r => v = .ref s.heap.objs.size ∧ r = { s with heap := s.heap.push (newSetO w) }) ⟨rfl, rfl⟩) fun res r1 hr => ?_
  match res, hr with
  | .error e, hr => exact hr
  | .ok (.ret v), hr =>
    obtain ⟨rfl, rfl⟩ := hr
    have at0 : (s.heap.push (newSetO w)).get? s.heap.objs.size = some (newSetO w) := Heap.get?_push_size _ rfl
    have ty0 : Shared.TypeIs { s with heap := s.heap.push (newSetO w) } (.ref s.heap.objs.size) "set" := ⟨_, at0, rfl⟩
    have i1 := PySem.F.called_set.init.lookup; have i2 := PySem.F.called_set.init.bind (.ref s.heap.objs.size)
    repeat (any_goals (first | assumption | wp_step))
    refine codeAny_mono (codeAny_call_builtin (R := wants (fun v r => v = .none ∧ ∃ h' tk ks, r = { s with heap := h', toks := tk } ∧ TxS w h' s.heap.objs.size ks ∧ (∀ x, x ∈ ks ↔ x ∈ xs) ∧ ks.length ≤ xs.length ∧ ∀ b o, s.heap.get? b = some o → h'.get? b = some o) E) PySem.F.called_set.init.plain
      PySem.F.entry_set_init (check_set_init_1 ty0 ?_)) fun res2 r2 hr2 => ?_
    · obtain ⟨⟨ocls, od, odt, osl⟩, e0, e1, nn, e2⟩ := hl
      simp only at e1 e2
      subst e1; subst e2
      have lS : l < s.heap.objs.size := Heap.lt_size e0
      have e3 := Heap.get?_push_of_some (newSetO w) e0
      have d1 := PySem.F.sub_list_set; have d2 := PySem.F.sub_list_frozenset; have d3 : (Value.type "list" == Value.type "dict") = false := by decide
      have l1 : (s.heap.push (newSetO w)).IsList l its := ⟨_, e3, rfl, nn, rfl⟩
      unfold Builtin.«set.__init__» noKeywords Builtin.Frozenset.updateFrom
      generalize hPI : pyIter = PI
      wp_walk
      subst hPI
      refine wpAny_pyIter_list l1 (wpAny_bind (wpAny_runValue ?_))
      have z1 : (s.heap.push (newSetO w)).objs.size = s.heap.objs.size + 1 := Heap.size_push ..
      have far : l ≠ (s.heap.push (newSetO w)).objs.size := by
        rw [z1]
        exact Nat.ne_of_lt (Nat.lt_succ_of_lt lS)
      have out : s.heap.objs.size ∉ [(s.heap.push (newSetO w)).objs.size, l] := by
        rw [z1, List.mem_cons, List.mem_singleton]
        exact fun q => q.elim (Nat.ne_of_lt (Nat.lt_succ_self _)) (Nat.ne_of_gt lS)
      refine tx_fill ((Walks.list (show A.in1.in1.in1.handled = none by simp [calm]) _ l far its).toS) out xs many room (fun i v hv => ?_) (its.size - 0) 0 _ rfl (Nat.zero_le _) ⟨⟨_, Heap.get?_push_size _ rfl, rfl, rfl⟩, l1.push _⟩ ⟨[], tx_new (Heap.get?_push_of_some _ at0), fun _ => Iff.rfl, Nat.le_refl _⟩ fun r ks mv R sub ln => ?_
      · have hi : i < xs.length := by
          rw [← many]
          exact (Array.getElem?_eq_some_iff.mp hv).1
        obtain ⟨u, e⟩ := SS.strs_at hx i v (by rw [Array.getElem?_toList]; exact hv)
        exact ⟨xs[i], u, List.getElem?_eq_getElem hi, by rw [e, List.getD_eq_getElem?_getD, List.getElem?_eq_getElem hi]; rfl⟩
      · obtain ⟨h', g', d', tk', os'⟩ := r
        obtain rfl : g' = s.gens := mv.gens
        obtain rfl : d' = s.drawn := mv.drawn
        obtain rfl : os' = s.os := mv.os
        show wpAny _ _ _ _ _ _
        refine wpAny_pure ?_
        show wpAny _ _ (ret Value.none) _ _ _
        refine wpAny_pure ⟨rfl, h', tk', ks, rfl, R, sub, by omega, fun b o e => ?_⟩
        have b0 : b < s.heap.objs.size := Heap.lt_size e
        refine mv.heap b o ?_ (Heap.get?_push_of_some _ (Heap.get?_push_of_some _ e))
        rw [List.mem_cons, List.mem_singleton, z1]
        exact fun q => q.elim (Nat.ne_of_lt b0) (Nat.ne_of_lt (Nat.lt_succ_of_lt b0))
    · match res2, hr2 with
      | .error e, hr2 => exact hr2
      | .ok (.ret v), hr2 =>
        obtain ⟨rfl, h', tk, ks, rfl, R, sub, ln, kp⟩ := hr2
        repeat (any_goals (first | assumption | wp_step))
        exact hZ _ _ _ R sub ln kp
theorem strs_of : ∀ l : List Value, (∀ v ∈ l, ∃ k u, v = Value.str k u) → ∃ xs, StrsAre l xs ∧ xs.length = l.length ∧ ∀ x ∈ xs, ∃ u, Value.str x u ∈ l
  | [], _ => ⟨[], .nil, rfl, fun _ h => absurd h List.not_mem_nil⟩
  | v :: l, h => by
    obtain ⟨k, u, rfl⟩ := h v List.mem_cons_self
    obtain ⟨xs, h1, h2, h3⟩ := strs_of l fun r hr => h r (List.mem_cons_of_mem _ hr)
    refine ⟨k :: xs, .cons k u h1, by rw [List.length_cons, List.length_cons, h2], fun x hx => ?_⟩
    rcases List.mem_cons.mp hx with rfl | hx
    · exact ⟨u, List.mem_cons_self⟩
    · obtain ⟨r, hr⟩ := h3 x hx
      exact ⟨r, List.mem_cons_of_mem _ hr⟩
end
section
variable {P : Program} {w : World} {A : Around} {E : Value → Shared → Prop} {s : Shared}
theorem strs_tx : ∀ {l : List Value}, (∀ v ∈ l, ∃ k u, v = Value.str k u) → StrsAre l (l.map txV)
  | [], _ => .nil
  | v :: l, h => by
    obtain ⟨k, u, rfl⟩ := h v List.mem_cons_self
    exact .cons k u (strs_tx fun x hx => h x (List.mem_cons_of_mem _ hx))
theorem tx_sorted {a : Addr} {ks : List Str} {Z : Value → Shared → Prop} (R : TxS w s.heap a ks) (calm : A.handled = none)
    (hZ : ∀ s' p (out : Array Value) (c : Nat) (ys : List Str), (∀ b o, s.heap.get? b = some o → s'.heap.get? b = some o) → s'.gens = s.gens → s'.os = s.os → s.heap.objs.size ≤ p → s'.heap.get? p = some (seqObj "list" out c) → StrsAre out.toList ys → ys.Perm ks → sortedS ys = true → Z (.ref p) s') :
    wpAny (model P w) A (call (.builtin "sorted") [.ref a]) Z E s := by
  obtain ⟨o, es, ep, t, ho, hx, hd, T⟩ := R
  refine Calls.call_function_entry kind_sorted plain_sorted entry_sorted (args_sorted1 _) ?_
  unfold Builtin.«sorted»
  refine wpAny_bind (m := checkCount "sorted" 1 1 _) (wpAny_pure (wpAny_bind (L2.collect_set (A := A.in1) calm ⟨o, ho, hx.1, hd⟩ T.fit T.few T.ris T.led fun s1 vs k1 z1 g1 o1 pm => ?_)))
  have hS : StrsAre vs (vs.map txV) := strs_tx fun v hv => by
    obtain ⟨e, he, rfl⟩ := List.mem_map.mp (pm.mem_iff.mp hv)
    obtain ⟨k, u, q, _⟩ := T.ent e he
    exact ⟨k, u, q⟩
  have p1 : (vs.map txV).Perm (es.toList.map txOf) := by
    have q := pm.map txV
    rw [List.map_map] at q
    exact q
  have len : vs.length ≤ sizeLine := by
    rw [pm.length_eq, List.length_map, Array.length_toList]
    exact fits_of_scanBound T.few
  refine wpAny_bind (wpAny_newList ?_ len)
  have at1 : (s1.heap.push (seqObj "list" vs.toArray 0)).get? s1.heap.objs.size = some (seqObj "list" vs.toArray 0) := Heap.get?_push_size _ rfl
  refine wpAny_bind (wpAny_holding (wpAny_call_entry slot_list_sort ⟨_, at1, rfl⟩ entry_list_sort (list_sort_treeKAny strKind_oneLt at1 hS.keysOf (fun v1 v2 rest e => keyKind_strs (by rw [← e]; exact hS)) len fun st' a1 a2 => ⟨_, rfl, ?_⟩) (args_list_sort _)))
  obtain ⟨ys, y1, y2, y3⟩ := sorted_out_str hS a1 a2
  obtain ⟨c, hc⟩ := sortedHeap_at (vs := vs) (out := (arrOf st').map (·.2)) at1
  refine wpAny_pure ⟨_, rfl, hZ _ s1.heap.objs.size _ c ys (fun b u e => ?_) g1 o1 z1 hc y1 (y2.trans (p1.trans T.mem)) y3⟩
  have q := k1 b u e
  have lt := Heap.lt_size q
  show (sortedHeap (s1.heap.push (seqObj "list" vs.toArray 0)) s1.heap.objs.size (vs) ((arrOf st').map (·.2))).get? b = some u
  rw [sortedHeap_old (Nat.ne_of_lt lt) (by rw [size_push']; exact Nat.lt_succ_of_lt lt)]
  exact Heap.get?_push_of_some _ q
end
/-! ### as rules -/
def TxO (w : World) (a : Addr) (ks : List Str) : HO := .ext fun h => TxS w h a ks
section
variable {X : Cx}
theorem txO_new {w : World} {P : Program} {H : Hp} {h : Heap} {a : Addr} {ks : List Str} (R : TxS w h a ks) : ObjOk P w H h a (TxO w a ks) := by
  have ⟨o, _, _, _, ho, _⟩ := R
  exact ⟨R, ⟨o, ho⟩, fun _ _ p k => p.keep k⟩
/-- set(a list of texts) -/
def rSetTx (w : World) (K : PySem.W.Frag) : List V → Hp → VK → Prop := fun xs H Q => ∃ (a : Addr) (ys : List Str), xs = [.ref a] ∧ SqL K H a (ys.map V.str) ∧ ys.length < 4000 ∧ ∀ (p : Addr) (ks : List Str), H p = none → ks.Nodup → (∀ x, x ∈ ks ↔ x ∈ ys) → ks.length ≤ ys.length → Q (.ref p) (upd H p (TxO w p ks))
theorem cr_setTx (calm : X.calm = true) : CallR X (.type "set") (rSetTx X.w X.K) := by
  intro pins s σ H xs us Q I r h
  obtain ⟨a, ys, rfl, hs, hl, q⟩ := h
  obtain ⟨its, rv, at1, _⟩ := I.list hs
  rw [Vals.ref1 r]
  refine tx_make ys (I.ok.hd calm) at1.isList (by rw [List.toList_toArray]; exact rv.strs) (by show ys.length + 1 < 4096; omega) fun h' tk ks R sub ln kp => ?_
  have hn : H s.heap.objs.size = none := I.hok.fresh (Nat.le_refl _)
  exact ⟨.ref s.heap.objs.size, _, I.laid (t' := tk) kp (Nat.le_refl _) (txO_new R), rfl, q _ ks hn (let ⟨_, _, _, _, _, _, _, T⟩ := R; T.nd) sub ln⟩
/-- sorted(a set of texts) -/
def rSortTx (w : World) : List V → Hp → VK → Prop := fun xs H Q => ∃ (a : Addr) (ks : List Str), xs = [.ref a] ∧ H a = some (TxO w a ks) ∧ ∀ (p : Addr) (ys : List Str), H p = none → ys.Perm ks → sortedS ys = true → Q (.ref p) (upd H p (.lst (ys.map V.str)))
theorem cr_sortTx (calm : X.calm = true) : CallR X (.builtin "sorted") (rSortTx X.w) := by
  intro pins s σ H xs us Q I r h
  obtain ⟨a, ks, rfl, ha, q⟩ := h
  have R : TxS X.w s.heap a ks := (I.hok a _ ha).1
  have few : ks.length < 4096 := by
    obtain ⟨_, es, _, _, _, _, _, T⟩ := R
    rw [← T.mem.length_eq, List.length_map, Array.length_toList]
    exact T.few
  rw [Vals.ref1 r]
  refine tx_sorted R (I.ok.hd calm) fun s' p out c ys k g o hp hg hy pm up => ?_
  have hn : H p = none := I.hok.fresh hp
  have hlen : (ys.map V.str).length ≤ sizeLine := by
    rw [List.length_map, pm.length_eq, sizeLine_eq]
    omega
  have J : Inv X pins σ (upd H p (.lst (ys.map V.str))) { s with heap := s'.heap, gens := s'.gens, drawn := s'.drawn, toks := s'.toks } :=
    I.call (ch := []) (Un.laid k hp hn) (I.hok.laid k hp ⟨hlen, out.toList, c, vals_of_strs hy, hg⟩) (by rw [g]; exact I.bare) (fun _ z => nomatch z)
  have e : s' = { s with heap := s'.heap, gens := s'.gens, drawn := s'.drawn, toks := s'.toks } := by
    obtain ⟨_, _, _, _, _⟩ := s'
    cases o
    rfl
  rw [e]
  exact ⟨.ref p, _, J, rfl, q p ys hn pm up⟩
end
/-! ### o.m(a, ..), m a staticmethod of the object's class; o.m(k = v) -/
structure SMeth (K : PySem.W.Frag) (C : Addr) (m : Str) (p g : Addr) : Prop where
  at_ : PySem.W.findIn K (.ref C) m = some (some (.ref p))
  ty : PySem.W.typeIn K (.ref p) = some (.type "staticmethod")
  get : PySem.W.specialIn K (.ref p) "__get__" = some (some (.builtin "staticmethod.__get__"))
  tk : PySem.W.takesIn K (.ref p) = some false
  cp : PySem.W.copiedNames.contains m = false
  rc : ∃ rest, PySem.W.recIn K p "staticmethod" = some (.ref g :: rest)
  kp : PySem.W.keepIn K (.ref g) = true
def tStat (C : Addr) (m : Str) (sp : Sp) (ta : TE) (t : TA) : TE := fun σ H Q => ta σ H fun x H1 => ∃ a dx fs, x = .ref a ∧ H1 a = some (.ins C dx fs) ∧ fs.lookup m = none ∧ t σ H1 fun ws H2 => sp ws H2 Q E0
def tMethK (C : Addr) (m : Str) (sp : Sp) (gV : List V → List V → List V) (ta : TE) (tk : TA) : TE := fun σ H Q => ta σ H fun x H1 => ∃ a dx fs, x = .ref a ∧ H1 a = some (.ins C dx fs) ∧ fs.lookup m = none ∧ tk σ H1 fun zs H2 => sp (gV [.ref a] zs) H2 Q E0
section
variable {X : Cx} {k : Nat} {C p g f : Addr} {sp : Sp} {o e : Expr} {es : List Expr} {kws : List Keyword} {m : Str} {pos apos : Pos} {ta : TE} {t tk : TA} {fd : FuncData} {ps ks : List Str}
theorem pe_stat {pl : Sem Bool} (he : PE X o ta) (c : Cls X.K C) (k1 : SMeth X.K C m p g) (F : FnOk X.prog X.w X.K X.mg X.base CX0 k g fd ps sp) (hr : Room k X.A) (hb : Binds X.K fd ps []) (ha : PA X (e :: es) t)
    (hst : starEach (e :: es) X.env = (false, eval e X.env) :: starEach es X.env := by rfl) (hpl : (backTo pos (starEach es X.env)).any (·.1) = false := by rfl)
    (ht : eval (.Call (.Attribute o m apos) (e :: es) [] pos) X.env = (eval o X.env >>= fun ov => standAt apos.atName >>= fun _ => holding [ov] (getMethod ov m pl) >>= fun q => callWith pos q.1 q.2 (backTo pos (starEach (e :: es) X.env)) (backToKw pos (keywordEach [] X.env))) := by rfl) :
    PE X (.Call (.Attribute o m apos) (e :: es) [] pos) (tStat C m sp ta t) := by
  refine ⟨fun pins s σ H Q I h => ?_⟩
  refine PySem.W.methodCall_KW (pl := pl) (thn (he.run pins s σ H _ I h) fun u s1 ⟨x, H1, I1, rx, a, dx, fs, ex, ea, l, q⟩ => ?_) ht
  subst ex
  obtain rfl : u = Value.ref a := rx
  obtain ⟨mA, O, rr, _, _, _⟩ := ins_get I1.hok ea
  have hn : mA m = none := RelO.none_of (by rw [← l]; exact rr m)
  obtain ⟨od, J, hl⟩ := O.look
  obtain ⟨rest, hrec⟩ := k1.rc
  have hc : PySem.W.isClsIn X.K C = true := by
    obtain ⟨cd, hc, _⟩ := PySem.W.any_some c.hd
    show (PySem.W.clsIn X.K C).isSome = true
    rw [hc]
    rfl
  have pg := PySem.W.plainGet_of (c.get m)
  refine PySem.W.method_usual (r := some (.ref p)) I1.kIn J pg.1 pg.2 k1.at_ ?_ ?_
  · show ((PySem.W.typeIn X.K (.ref p)).any fun t => t != .type "function" && t != .type "method_descriptor" && t != .type "wrapper_descriptor") = true
    rw [k1.ty]
    first | rfl | decide +kernel
  refine PySem.W.get_bind I1.kIn J pg.1 (ClX.find_cm hc k1.at_ k1.get k1.tk k1.cp (by rw [hl m, hn])) pg.2 (wpAny_call (PySem.W.sm_get (s := { s1 with toks := s1.toks + 1 }) I1.kIn hrec (PySem.W.handed_on (by rfl) ?_)))
  have I2 := I1.tok (s1.toks + 1)
  refine PySem.W.callWith_K (first := []) (h₀ := X.base) I2.ok.mod.kin k1.kp (thn (ha.run pos pins _ σ H1 _ I2 q) fun us s2 ⟨vs, H2, I3, r, q2⟩ => ⟨I3.kIn, ?_⟩) hst hpl
  exact run_fn F hr hb .nil pass0 I3 r (by rw [List.append_nil]; exact q2)
theorem pe_methK {pl : Sem Bool} {h : List Value → List Value → List Value} {hV : List V → List V → List V} (he : PE X o ta) (c : Cls X.K C) (hm : Meth X.K C m f) (F : FnOk X.prog X.w X.K X.mg X.base CX0 k f fd ps sp) (hr : Room k X.A) (hb : KBinds X.K fd ps ks h hV) (hkw : PK X kws tk)
    (hall : (backToKw pos (keywordEach kws X.env)).all (·.1.isSome) = true := by rfl) (hks : (backToKw pos (keywordEach kws X.env)).filterMap (·.1) = ks := by rfl) (hpl : ((backTo pos (starEach [] X.env)).any (·.1) || (backToKw pos (keywordEach kws X.env)).any (·.1.isNone)) = false := by rfl)
    (ht : eval (.Call (.Attribute o m apos) [] kws pos) X.env = (eval o X.env >>= fun ov => standAt apos.atName >>= fun _ => holding [ov] (getMethod ov m pl) >>= fun q => callWith pos q.1 q.2 (backTo pos (starEach [] X.env)) (backToKw pos (keywordEach kws X.env))) := by rfl) :
    PE X (.Call (.Attribute o m apos) [] kws pos) (tMethK C m sp hV ta tk) := by
  refine ⟨fun pins s σ H Q I h => ?_⟩
  refine PySem.W.methodCall_KW (pl := pl) (thn (he.run pins s σ H _ I h) fun u s1 ⟨x, H1, I1, rx, a, dx, fs, ex, ea, l, q⟩ => ?_) ht
  subst ex
  obtain rfl : u = Value.ref a := rx
  refine getmeth_ok I1 ea c hm l (PySem.W.callWith_KW0 (first := [.ref a]) (h₀ := X.base) I1.ok.mod.kin hm.kp hall (thn (hkw.run pos pins s1 σ H1 _ I1 q) fun ws s2 ⟨zs, H2, I2, rz, q2⟩ => ⟨I2.kIn, ?_⟩) hpl)
  rw [hks]
  exact run_fnk (us := [.ref a]) (vs := [.ref a]) F hr hb pass0 I2 (.cons rfl .nil) rz q2
end
/-- one value by position, one by keyword -/
def two1 {α : Type} : List α → List α → List α
  | [a], [b] => [a, b]
  | _, _ => []
theorem kb2 {K : PySem.W.Frag} {fd : FuncData} {p1 p2 : Str} (h : ∀ (s : Shared) (a b : Value), K.In s.heap → BindsTo s fd ⟨[a], [(p2, b)]⟩ [(p1, a), (p2, b)]) : KBinds K fd [p1, p2] [p2] two1 two1 := by
  refine ⟨fun s us ws X len => ?_, fun r1 r2 => ?_⟩
  · match us, ws, len with
    | [a], [b], _ => exact h s a b X
  · cases r1 with
    | nil => exact .nil
    | cons q1 r1 =>
      cases r1 with
      | cons _ _ => exact .nil
      | nil =>
        cases r2 with
        | nil => exact .nil
        | cons q2 r2 =>
          cases r2 with
          | cons _ _ => exact .nil
          | nil => exact .cons q1 (.cons q2 .nil)
/-! ### a list by the keys of a dict -/
theorem upd_free {H : Hp} {a e : Addr} {o : HO} (h : upd H a o e = none) : e ≠ a ∧ H e = none := by
  have n : e ≠ a := fun q => by
    rw [q, upd_same] at h
    cases h
  rw [upd_ne n] at h
  exact ⟨n, h⟩
theorem keys_strs {kvs : List (Key × V)} {xs : List Str} (h : kvs.map (·.1) = xs.map Sum.inr) : (kvs.map fun kv => kV kv.1) = xs.map V.str := by
  have e : (kvs.map fun kv => kV kv.1) = (kvs.map (·.1)).map kV := by rw [List.map_map]; rfl
  rw [e, h, List.map_map]
  rfl
theorem lock_keys {σ : L2.St} {H : Hp} {Q : VK} {td te : TE} {i : Nat} {d : Addr} {kvs : List (Key × V)} {xs : List Str} {f : Str → Str} (hd : H d = some (.dK kvs)) (hk : kvs.map (·.1) = xs.map Sum.inr) (hl : xs.length ≤ 900)
    (htd : ∀ (H' : Hp) (Q' : VK), Q' (.ref d) H' → td σ H' Q') (hte : ∀ x ∈ xs, ∀ (H' : Hp) (Q' : VK), Q' (.str (f x)) H' → te ((wipe σ [i]).set i (some (.str x))) H' Q')
    (q : ∀ (D : Addr) (H' : Hp), H D = none → Same H H' → H' D = some (.lst (xs.map fun x => .str (f x))) → Q (.ref D) H') : tLockE (tLc (iKeys td) (gName i) tYes te [i]) σ H Q := by
  refine ⟨d, .dK kvs, hd, trivial, fun od => ?_⟩
  refine htd _ _ ⟨d, od, rfl, .inl ⟨kvs, upd_same, fun D nD => ?_⟩⟩
  have hlen : kvs.length = xs.length := by
    have := congrArg List.length hk
    rw [List.length_map, List.length_map] at this
    exact this
  obtain ⟨nDd, nDH⟩ := upd_free nD
  refine lc_it walk_keys (fun j H' => H' D = some (.lst ((xs.take j).map fun x => .str (f x))) ∧ H' d = some (.frz od (.dK kvs)) ∧ ∀ b o, b ≠ d → H b = some o → H' b = some o) ⟨by rw [upd_same]; rfl, by rw [upd_ne nDd.symm, upd_same], fun b o nb e => by rw [upd_ne (ne_of_none e nDH), upd_ne nb]; exact e⟩ (fun _ _ _ h => h.2.1) ?_ ?_
  · rintro j v H1 H2 hj ⟨hD, hd1, keep⟩ ⟨rfl, k, v', hkv, rfl⟩
    obtain ⟨x, hx, rfl⟩ := key_at hk hkv
    refine ⟨?_, yes_if ?_⟩
    · show ((wipe σ [i]).set i (some (kV (.inr x)))).set i none = σ.set i none
      show ((σ.set i none).set i (some (V.str x))).set i none = σ.set i none
      rw [List.set_set, List.set_set]
    refine hte x (List.mem_of_getElem? hx) _ _ ⟨_, hD, big_lt (by rw [List.length_map, List.length_take]; omega), ?_, ?_, ?_⟩
    · rw [upd_same, List.take_add_one, hx, List.map_append]
      rfl
    · rw [upd_ne nDd.symm]
      exact hd1
    · intro b o nb e
      rw [upd_ne (ne_of_none e nDH)]
      exact keep b o nb e
  · rintro H1 ⟨hD, hd1, keep⟩
    refine ⟨hd1, q D _ nDH (fun b o e => ?_) ?_⟩
    · by_cases hb : b = d
      · rw [hb, upd_same, ← hd, ← hb, e]
      · rw [upd_ne hb]
        exact keep b o hb e
    · rw [upd_ne nDd, hD, List.take_of_length_le (by omega)]
theorem paired_app {α β : Type} {R : α → β → Prop} : ∀ {l1 l2 : List α} {k1 k2 : List β}, Paired R l1 k1 → Paired R l2 k2 → Paired R (l1 ++ l2) (k1 ++ k2)
  | _, _, _, _, .nil, h => h
  | _, _, _, _, .cons a t, h => .cons a (paired_app t h)
/-! ### comprehensions whose elements write nothing but new tuples -/
theorem prd_snoc {α β : Type} {R : α → β → Prop} : ∀ {as : List α} {bs : List β} {a : α} {b : β}, Paired R as bs → R a b → Paired R (as ++ [a]) (bs ++ [b])
  | _, _, _, _, .nil, h => .cons h .nil
  | _, _, _, _, .cons h t, h' => .cons h (prd_snoc t h')
theorem prd_len {α β : Type} {R : α → β → Prop} : ∀ {as : List α} {bs : List β}, Paired R as bs → as.length = bs.length
  | _, _, .nil => rfl
  | _, _, .cons _ t => by rw [List.length_cons, List.length_cons, prd_len t]
theorem filt_snoc {α : Type} {zs : List α} {i : Nat} {x : α} (b : α → Bool) (h : zs[i]? = some x) : (zs.take (i + 1)).filter b = (zs.take i).filter b ++ (if b x = true then [x] else []) := by
  rw [List.take_add_one, h, List.filter_append]
  congr 1
  show [x].filter b = _
  cases e : b x with
  | true => rw [List.filter_cons_of_pos e, List.filter_nil, if_pos rfl]
  | false => rw [List.filter_cons_of_neg (by rw [e]; decide), List.filter_nil, if_neg (by decide)]
theorem take_few {α : Type} (zs : List α) (b : α → Bool) (i : Nat) : ((zs.take i).filter b).length ≤ zs.length := Nat.le_trans (List.length_filter_le _ _) (by rw [List.length_take]; exact Nat.min_le_right _ _)
section
variable {J : It} {n : Nat} {G : Hp → Prop} {Y : Nat → Hp → V → Hp → Prop} {g : TG} {tt : TT} {te tk tv : TE} {vs : List Nat} {σ : L2.St} {H1 : Hp} {D : Addr} {Qd : Hp → Prop} {α : Type}
theorem lc_tups (w : Walk J n G Y) (zs : List α) (val : α → V) (st : α → L2.St) (b : α → Bool) (f1 f2 : α → V) (hn : zs.length = n) (nD : H1 D = none) (few : n ≤ 60000) (hG : ∀ H', Same H1 H' → G H')
    (hY : ∀ i H v H', Y i H v H' → H' = H ∧ ∃ x, zs[i]? = some x ∧ v = val x) (hg : ∀ x ∈ zs, ∀ H' (Q' : L2.St → Hp → Prop), Same H1 H' → Q' (st x) H' → g (val x) (wipe σ vs) H' Q')
    (hw : ∀ x ∈ zs, wipe (st x) vs = wipe σ vs) (ht : ∀ x ∈ zs, ∀ H' (Q' : Bool → Hp → Prop), Same H1 H' → Q' (b x) H' → tt (st x) H' Q')
    (he : ∀ x ∈ zs, b x = true → ∀ H' (Q' : VK), Same H1 H' → (∀ T, H' T = none → Q' (.ref T) (upd H' T (.tup [f1 x, f2 x]))) → te (st x) H' Q')
    (q : ∀ H' ts, Same H1 H' → H' D = some (.lst (ts.map V.ref)) → Paired (fun t x => H' t = some (.tup [f1 x, f2 x]) ∧ H1 t = none ∧ t ≠ D) ts (zs.filter b) → Qd H') :
    ∃ W : Nat → Nat → Hp → Prop, (∃ m, W 0 m (upd H1 D (.lst []))) ∧ ∀ i m H, W i m H →
      (J.stop i H ∧ Qd H) ∨ (J.go i H ∧ ∃ Nx : Hp → Prop, (∀ H', Nx H' → ∃ m', m' < m ∧ W (i + 1) m' H') ∧ ∀ x H', J.yld i H x H' → g x (wipe σ vs) H' fun σ2 H2 => wipe σ2 vs = wipe σ vs ∧ tt σ2 H2 fun b H3 =>
        if b = true then te σ2 H3 fun y H4 => ∃ acc, H4 D = some (.lst acc) ∧ acc.length < sizeLine ∧ Nx (upd H4 D (.lst (acc ++ [y]))) else Nx H3) := by
  refine lc_it w (fun i H => ∃ ts, Same H1 H ∧ H D = some (.lst (ts.map V.ref)) ∧ Paired (fun t x => H t = some (.tup [f1 x, f2 x]) ∧ H1 t = none ∧ t ≠ D) ts ((zs.take i).filter b)) ⟨[], same_upd nD, upd_same, .nil⟩ (fun i H _ h => by obtain ⟨_, h, _⟩ := h; exact hG H h) ?_ ?_
  · rintro i v H H' hi ⟨ts, s1, hD, hp⟩ hy
    obtain ⟨rfl, x, hx, rfl⟩ := hY _ _ _ _ hy
    have hxm := List.mem_of_getElem? hx
    refine hg x hxm _ _ s1 ⟨hw x hxm, ht x hxm _ _ s1 ?_⟩
    have fs := filt_snoc b hx
    cases eb : b x with
    | false =>
      rw [eb, if_neg (by decide), List.append_nil] at fs
      rw [if_neg (by decide)]
      exact ⟨ts, s1, hD, by rw [fs]; exact hp⟩
    | true =>
      rw [eb, if_pos rfl] at fs
      rw [if_pos rfl]
      refine he x hxm eb _ _ s1 fun T nT => ?_
      have nTD : T ≠ D := (ne_of_none hD nT).symm
      have tl : ts.length ≤ zs.length := by rw [prd_len hp]; exact take_few zs b i
      refine ⟨_, by rw [upd_ne nTD.symm]; exact hD, by rw [List.length_map]; exact Nat.lt_of_le_of_lt (show _ ≤ 60000 by omega) (by decide), ts ++ [T], fun c o e => ?_, by rw [upd_same, List.map_append]; rfl, ?_⟩
      · rw [upd_ne (ne_of_none e nD), upd_ne (ne_of_none (s1 _ _ e) nT)]
        exact s1 _ _ e
      · rw [fs]
        refine prd_snoc (hp.mono fun t y h => ⟨?_, h.2⟩) ⟨by rw [upd_ne nTD, upd_same], s1.free nT, nTD⟩
        rw [upd_ne h.2.2, upd_ne (ne_of_none h.1 nT)]
        exact h.1
  · rintro H' ⟨ts, s1, hD, hp⟩
    rw [← hn, List.take_length] at hp
    exact q H' ts s1 hD hp
theorem lc_vals (w : Walk J n G Y) (zs : List α) (val : α → V) (st : α → L2.St) (b : α → Bool) (f : α → V) (hn : zs.length = n) (nD : H1 D = none) (few : n ≤ 60000) (hG : ∀ H', Same H1 H' → G H')
    (hY : ∀ i H v H', Y i H v H' → H' = H ∧ ∃ x, zs[i]? = some x ∧ v = val x) (hg : ∀ x ∈ zs, ∀ H' (Q' : L2.St → Hp → Prop), Same H1 H' → Q' (st x) H' → g (val x) (wipe σ vs) H' Q')
    (hw : ∀ x ∈ zs, wipe (st x) vs = wipe σ vs) (ht : ∀ x ∈ zs, ∀ H' (Q' : Bool → Hp → Prop), Same H1 H' → Q' (b x) H' → tt (st x) H' Q')
    (he : ∀ x ∈ zs, b x = true → ∀ H' (Q' : VK), Same H1 H' → Q' (f x) H' → te (st x) H' Q')
    (q : ∀ H', Same H1 H' → H' D = some (.lst ((zs.filter b).map f)) → Qd H') :
    ∃ W : Nat → Nat → Hp → Prop, (∃ m, W 0 m (upd H1 D (.lst []))) ∧ ∀ i m H, W i m H →
      (J.stop i H ∧ Qd H) ∨ (J.go i H ∧ ∃ Nx : Hp → Prop, (∀ H', Nx H' → ∃ m', m' < m ∧ W (i + 1) m' H') ∧ ∀ x H', J.yld i H x H' → g x (wipe σ vs) H' fun σ2 H2 => wipe σ2 vs = wipe σ vs ∧ tt σ2 H2 fun b H3 =>
        if b = true then te σ2 H3 fun y H4 => ∃ acc, H4 D = some (.lst acc) ∧ acc.length < sizeLine ∧ Nx (upd H4 D (.lst (acc ++ [y]))) else Nx H3) := by
  refine lc_it w (fun i H => Same H1 H ∧ H D = some (.lst (((zs.take i).filter b).map f))) ⟨same_upd nD, upd_same⟩ (fun i H _ h => hG H h.1) ?_ ?_
  · rintro i v H H' hi ⟨s1, hD⟩ hy
    obtain ⟨rfl, x, hx, rfl⟩ := hY _ _ _ _ hy
    have hxm := List.mem_of_getElem? hx
    refine hg x hxm _ _ s1 ⟨hw x hxm, ht x hxm _ _ s1 ?_⟩
    have fs := filt_snoc b hx
    cases eb : b x with
    | false =>
      rw [eb, if_neg (by decide), List.append_nil] at fs
      rw [if_neg (by decide)]
      exact ⟨s1, by rw [fs]; exact hD⟩
    | true =>
      rw [eb, if_pos rfl] at fs
      rw [if_pos rfl]
      refine he x hxm eb _ _ s1 ⟨_, hD, by rw [List.length_map]; have := take_few zs b i; exact Nat.lt_of_le_of_lt (show _ ≤ 60000 by omega) (by decide), fun c o e => ?_, by rw [upd_same, fs, List.map_append]; rfl⟩
      rw [upd_ne (ne_of_none e nD)]
      exact s1 _ _ e
  · rintro H' ⟨s1, hD⟩
    rw [← hn, List.take_length] at hD
    exact q H' s1 hD
theorem dc_vals (w : Walk J n G Y) (zs : List Str) (val : Str → V) (st : Str → L2.St) (b : Str → Bool) (f : Str → V) (hn : zs.length = n) (nd : zs.Nodup) (nD : H1 D = none) (few : n ≤ 60000) (hG : ∀ H', Same H1 H' → G H')
    (hY : ∀ i H v H', Y i H v H' → H' = H ∧ ∃ x, zs[i]? = some x ∧ v = val x) (hg : ∀ x ∈ zs, ∀ H' (Q' : L2.St → Hp → Prop), Same H1 H' → Q' (st x) H' → g (val x) (wipe σ vs) H' Q')
    (hw : ∀ x ∈ zs, wipe (st x) vs = wipe σ vs) (ht : ∀ x ∈ zs, ∀ H' (Q' : Bool → Hp → Prop), Same H1 H' → Q' (b x) H' → tt (st x) H' Q')
    (hk : ∀ x ∈ zs, b x = true → ∀ H' (Q' : VK), Same H1 H' → Q' (.str x) H' → tk (st x) H' Q') (he : ∀ x ∈ zs, b x = true → ∀ H' (Q' : VK), Same H1 H' → Q' (f x) H' → tv (st x) H' Q')
    (q : ∀ H', Same H1 H' → H' D = some (.dK ((zs.filter b).map fun x => (.inr x, f x))) → Qd H') :
    ∃ W : Nat → Nat → Hp → Prop, (∃ m, W 0 m (upd H1 D (.dK []))) ∧ ∀ i m H, W i m H → (J.stop i H ∧ Qd H) ∨ (J.go i H ∧ ∃ Nx : Hp → Prop, (∀ H', Nx H' → ∃ m', m' < m ∧ W (i + 1) m' H') ∧
      ∀ x H', J.yld i H x H' → g x (wipe σ vs) H' fun σ2 H2 => wipe σ2 vs = wipe σ vs ∧ tt σ2 H2 fun b H3 =>
        if b = true then tk σ2 H3 fun y H4 => tv σ2 H4 fun z H5 => ∃ kvs k, y = kV k ∧ H5 D = some (.dK kvs) ∧ kvs.length < sizeLine ∧ Nx (upd H5 D (.dK (putK kvs k z))) else Nx H3) := by
  refine dc_it w (fun i H => Same H1 H ∧ H D = some (.dK (((zs.take i).filter b).map fun x => (.inr x, f x)))) ⟨same_upd nD, upd_same⟩ (fun i H _ h => hG H h.1) ?_ ?_
  · rintro i v H H' hi ⟨s1, hD⟩ hy
    obtain ⟨rfl, x, hx, rfl⟩ := hY _ _ _ _ hy
    have hxm := List.mem_of_getElem? hx
    refine hg x hxm _ _ s1 ⟨hw x hxm, ht x hxm _ _ s1 ?_⟩
    have fs := filt_snoc b hx
    cases eb : b x with
    | false =>
      rw [eb, if_neg (by decide), List.append_nil] at fs
      rw [if_neg (by decide)]
      exact ⟨s1, by rw [fs]; exact hD⟩
    | true =>
      rw [eb, if_pos rfl] at fs
      rw [if_pos rfl]
      refine hk x hxm eb _ _ s1 (he x hxm eb _ _ s1 ⟨_, .inr x, rfl, hD, by rw [List.length_map]; have := take_few zs b i; exact Nat.lt_of_le_of_lt (show _ ≤ 60000 by omega) (by decide), fun c o e => ?_, ?_⟩)
      · rw [upd_ne (ne_of_none e nD)]
        exact s1 _ _ e
      · rw [upd_same, fs, List.map_append, putK_end]
        · rfl
        · rw [List.map_map]
          intro hm
          obtain ⟨y, hy1, hy2⟩ := List.mem_map.mp hm
          have e : y = x := Sum.inr.inj hy2
          subst e
          have hy3 := (List.mem_filter.mp hy1).1
          obtain ⟨j, hj, ej⟩ := List.mem_take_iff_getElem.mp hy3
          have h1 : zs[j]? = some y := by rw [← ej]; exact List.getElem?_eq_getElem _
          have := (List.getElem?_inj (List.getElem?_eq_some_iff.mp h1).1 nd).mp (h1.trans hx.symm)
          omega
  · rintro H' ⟨s1, hD⟩
    rw [← hn, List.take_length] at hD
    exact q H' s1 hD
end
def rDictP (K : PySem.W.Frag) : List V → Hp → VK → Prop := fun xs H Q => ∃ (a : Addr) (ps : List Addr) (kvs : List (Key × V)), xs = [.ref a] ∧ SqL K H a (ps.map V.ref) ∧ Paired (fun p kv => SqT K H p [kV kv.1, kv.2]) ps kvs ∧ ∀ p, H p = none → Q (.ref p) (upd H p (.dK (mergeK [] kvs)))
theorem call_dictPn {X : Cx} (h : X.calm = true) : CallR X (.type "dict") (rDictP X.K) := call_dictP h
def top (i : Nat) : Stmt := PySem.Challenge.pw_keptroutes_k45_sequences_that_are_none.main.body.getD i (.Pass ⟨0, 0, 0, 0⟩)
abbrev sCls : Stmt := top 25
abbrev sTab : Stmt := top 29
abbrev sPen : Stmt := top 31
abbrev sP : Stmt := sPen
abbrev sNext : Stmt := top 32
abbrev sN : Stmt := sNext
abbrev sDraw : Stmt := top 33
abbrev sDr : Stmt := sDraw
abbrev sBits : Stmt := top 34
abbrev sB : Stmt := sBits
abbrev sSize : Stmt := top 37
abbrev sS : Stmt := sSize
abbrev sPrefixes : Stmt := top 35
abbrev sX : Stmt := sPrefixes
abbrev sHas : Stmt := top 22
abbrev sH : Stmt := sHas
abbrev sPfx : Stmt := top 23
abbrev sI : Stmt := sPfx
abbrev sAdr : Stmt := top 24
abbrev sA : Stmt := sAdr
abbrev sWhole : Stmt := top 20
abbrev sWo : Stmt := sWhole
abbrev sWidth : Stmt := top 21
abbrev sV : Stmt := sWidth
abbrev sLines : Stmt := top 36
abbrev sY : Stmt := sLines
/-! ### {**d, k: v} -/
section
variable {P : Program} {w : World} {K' : Type} [DecidableEq K'] {knd : KeyKind P w K'} {A : Around} {E : Value → Shared → Prop} {s : Shared}
theorem put_ok {d : Addr} {kvs : List (K' × Value)} {k : K'} {key v : Value} {Z : Unit → Shared → Prop} (ik : knd.is k key = true) (D : s.heap.DictOf knd d kvs) (few : kvs.length ≤ sizeLine)
    (hZ : ∀ h1, h1.DictOf knd d (stored kvs k v) → Heap.SameBut d s.heap h1 → Z () { s with heap := h1 }) : wpAny (model P w) A (dictPut d (knd.hash k) key v) Z E s := by
  obtain ⟨o, es, ep, at1, cl, da, ke, pr, nd⟩ := D
  have n1 : es.size ≤ sizeLine := by
    have q := pr.length
    rw [Array.length_toList] at q
    omega
  have fi : (es.findIdx? fun e => knd.is k e.key) = kvs.findIdx? fun x => decide (x.1 = k) := by
    rw [← pr.findIdx k]
    cases es
    simp
  unfold dictPut
  refine wpAny_bind (wpAny_dictFind_of ik at1 da ke ?_)
  cases q : es.findIdx? fun e => knd.is k e.key with
  | some j =>
    have st : stored kvs k v = _ := if_pos (any_of_findIdx_some (fi ▸ q))
    refine wpAny_updateDict at1 da (hZ _ ⟨_, _, ep, Heap.get?_update_self _ at1 (Obj.isFreed_of_dict (Obj.data_mapDict da _)), cl.mapDict _, Obj.data_mapDict da _, ke.modify _ _, ?_, ?_⟩ (Heap.SameBut.update ..))
    · rw [st]
      have ql : (es.toList.findIdx? fun e => knd.is k e.key) = some j := by
        rw [← q]
        cases es
        simp
      have z := pr.modify nd ql v
      cases es
      simpa using z
    · rw [st, keys_map_store]
      exact nd
  | none =>
    have no : k ∉ kvs.map (·.1) := not_mem_of_findIdx_none (fi ▸ q)
    have st : stored kvs k v = _ := if_neg (c := (kvs.any fun x => decide (x.1 = k)) = true) (by
      rintro z
      obtain ⟨x, hx, e⟩ := List.any_eq_true.mp z
      exact no (List.mem_map.mpr ⟨x, hx, of_decide_eq_true e⟩))
    refine wpAny_updateDictKeys (hz := n1) at1 da (hZ _ ⟨_, _, ep + 1, Heap.get?_update_self _ at1 (Obj.isFreed_of_dict (Obj.data_mapDictKeys da _)), cl.mapDictKeys _, Obj.data_mapDictKeys da _, ke.push ik _, ?_, ?_⟩ (Heap.SameBut.update ..))
    · rw [st]
      have z := pr.append ik (knd.hash k) v
      cases es
      simpa using z
    · rw [st, List.map_append, List.nodup_append]
      refine ⟨nd, by simp, fun a ha b hb => ?_⟩
      obtain rfl : b = k := by simpa using hb
      exact fun e => no (e ▸ ha)
theorem if_pre {α β γ : Type} {c : Prop} [Decidable c] {x : Sem α} {F : α → Sem β} {rest : Sem γ} {Z : γ → Shared → Prop} (hp : c → ∀ Q : β → Shared → Prop, (∀ b, Q b s) → wpAny (model P w) A (x >>= F) Q E s) (hr : wpAny (model P w) A rest Z E s) :
    wpAny (model P w) A (if c then x >>= fun a => F a >>= fun _ => rest else rest) Z E s := by
  split
  · rename_i hc
    have e : (x >>= fun a => F a >>= fun _ => rest) = (x >>= F) >>= fun _ => rest := by rw [bind_assoc]
    rw [e]
    exact wpAny_bind (hp hc _ fun _ => hr)
  · exact hr
theorem forIn_none {l : List DictEntry} {f : DictEntry → PUnit → Sem (ForInStep PUnit)} (hf : ∀ e ∈ l, ∀ u, f e u = pure (.yield u)) : forIn l PUnit.unit f = pure PUnit.unit := by
  induction l with
  | nil => rfl
  | cons e r ih => rw [List.forIn_cons, hf e List.mem_cons_self, pure_bind]; exact ih fun x hx => hf x (List.mem_cons_of_mem _ hx)
/-- a dict merged into another -/
theorem merge_ok {d o : Addr} {kvs more : List (K' × Value)} {Z : Unit → Shared → Prop} (ne : d ≠ o) (sy : (o == sysModules) = false) (D : s.heap.DictOf knd d kvs) (O : s.heap.DictOf knd o more) (few : kvs.length + more.length ≤ sizeLine)
    (nr : ∀ k v, knd.is k v = true → ∀ a, v ≠ .ref a)
    (hZ : ∀ h1, h1.DictOf knd d (merged kvs more) → Heap.SameBut d s.heap h1 → Z () { s with heap := h1 }) : wpAny (model P w) A (mergeMapping d (.ref o) false) Z E s := by
  obtain ⟨oo, es, ep, at1, cl, da, ke, pr, nd⟩ := id O
  obtain ⟨od, es2, ep2, at2, cl2, da2, ke2, pr2, nd2⟩ := id D
  have hlen : more.length = es.size := by
    rw [← pr.length, Array.length_toList]
  unfold mergeMapping
  refine wpAny_bind (wpAny_isInstance O.typeIs isSubtype_dict_dict ?_)
  rw [if_pos rfl]
  refine wpAny_bind (wpAny_specialOf O.typeIs PySem.F.slot_dict_iter.lookup ?_)
  refine wpAny_bind (wpAny_pure ?_)
  simp only [beq_self_eq_true]
  rw [if_neg (by rw [sy]; exact Bool.false_ne_true)]
  refine wpAny_bind (wpAny_dictEntries at2 da2 ?_)
  refine if_pre (fun _ Q q => ?_) ?_
  · refine wpAny_bind (wpAny_dictEntries at1 da ?_)
    rw [← Array.forIn_toList, forIn_none fun e he u => ?_]
    · exact wpAny_pure (q _)
    · obtain ⟨k', ik, _⟩ := ke e (by simpa using he)
      split
      · rename_i a ha
        exact absurd ha (nr _ _ ik a)
      · rfl
  refine wpAny_bind (wpAny_dictEntries at1 da (wpAny_bind (wpAny_dictEpoch at1 da (wpAny_bind ?_))))
  refine wpAny_forIn_list _ (fun rest _ r => ∃ h1 i, r = { s with heap := h1 } ∧ rest = List.range' i (es.size - i) ∧ i ≤ es.size ∧ h1.DictOf knd d (merged kvs (more.take i)) ∧ h1.get? o = some oo ∧ Heap.SameBut d s.heap h1) _ ?_ ?_ _ _ ⟨s.heap, 0, rfl, by rw [List.range_eq_range', Nat.sub_zero], Nat.zero_le _, by simpa [merged] using D, at1, Heap.SameBut.refl _ _⟩
  · rintro x rest u r ⟨h1, i, rfl, er, hi, D1, a1, sb⟩
    have lt : i < es.size := by
      rcases Nat.lt_or_ge i es.size with q | q
      · exact q
      · rw [Nat.sub_eq_zero_of_le q] at er
        cases er
    obtain ⟨rfl, er2⟩ : x = i ∧ rest = List.range' (i + 1) (es.size - (i + 1)) := by
      rw [show es.size - i = (es.size - (i + 1)) + 1 by omega, List.range'_succ] at er
      exact List.cons.inj er
    refine wpAny_bind (wpAny_dictEntries a1 da ?_)
    rw [Array.getElem?_eq_getElem lt]
    have lt2 : x < more.length := by rw [hlen]; exact lt
    obtain ⟨⟨k0, v0⟩, hkv⟩ : ∃ y, more[x]? = some y := ⟨_, List.getElem?_eq_getElem lt2⟩
    obtain ⟨ik, iv⟩ := pr.get? (e := es[x]) (by simp [lt]) hkv
    obtain ⟨k', ik2, hh⟩ := ke es[x] (Array.getElem_mem lt)
    obtain rfl : k' = k0 := knd.inj _ _ _ ik2 ik
    show wpAny _ _ (holding [es[x].key, es[x].val] (if false = true then _ else dictPut d es[x].hash es[x].key es[x].val) >>= _) _ _ _
    rw [if_neg Bool.false_ne_true, hh, iv]
    have few2 : (merged kvs (more.take x)).length ≤ sizeLine := by
      have e1 := merged_length_le kvs (more.take x)
      rw [List.length_take] at e1
      omega
    refine wpAny_bind (wpAny_holding (put_ok ik D1 few2 fun h2 D2 sb2 => ?_))
    have a2 : h2.get? o = some oo := (sb2.2 o (Ne.symm ne)).trans a1
    refine wpAny_bind (wpAny_dictEpoch a2 da ?_)
    rw [if_neg (by simp)]
    exact wpAny_pure ⟨h2, x + 1, rfl, er2, lt, by rw [merged_take_succ kvs more x (k', v0) hkv]; exact D2, a2, sb.trans sb2⟩
  · rintro u r ⟨h1, i, rfl, er, hi, D1, a1, sb⟩
    obtain rfl : i = es.size := by
      rcases Nat.lt_or_ge i es.size with q | q
      · rw [show es.size - i = (es.size - (i + 1)) + 1 by omega, List.range'_succ] at er
        cases er
      · omega
    rw [← hlen, List.take_length] at D1
    exact wpAny_pure (hZ h1 D1 sb)
end
section
variable {X : Cx} {o ke ve : Expr} {pos : Pos} {td tk tv : TE}
theorem key_noref {P : Program} {w : World} {k : Key} {v : Value} (h : (mixKind P w).is k v = true) (a : Addr) : v ≠ .ref a := by
  rcases keyIs_shape h with ⟨i, t, rfl, rfl⟩ | ⟨x, t, rfl, rfl⟩
  · exact fun e => nomatch e
  · exact fun e => nomatch e
/-- a dict of the heap merged into another -/
theorem mergeH {pins : List (Addr × Obj)} {σ : L2.St} {H : Hp} {s : Shared} {A : Around} {E : Value → Shared → Prop} {p a : Addr} {kvs more : List (Key × V)} {Z : Unit → Shared → Prop} (I : Inv X pins σ H s) (hp : H p = some (.dK kvs)) (ha : Rd H a (.dK more)) (ne : p ≠ a) (few : kvs.length + more.length ≤ 2000)
    (hZ : ∀ s', Inv X pins σ (upd H p (.dK (mergeK kvs more))) s' → Z () s') : wpAny (model X.prog X.w) A (mergeMapping p (.ref a) false) Z E s := by
  obtain ⟨z1, sy1, vs, rel, D⟩ := dk_of I.hok hp
  obtain ⟨z2, sy2, rs, rel2, O⟩ := dk_rd I.hok ha
  refine merge_ok ne sy2 D O (by rw [← rel.length, ← rel2.length]; exact Nat.le_trans few (by decide)) (fun k v h a => key_noref h a) fun h1 D1 sb => hZ _ ?_
  have he : ∃ q, h1.get? p = some q := let ⟨q, _, _, hq, _⟩ := D1; ⟨q, hq⟩
  have len := length_mergeK more kvs
  exact d_write (t' := s.toks) I (by rw [hp]; exact True.intro) sb he (dk_new (Nat.le_trans (show (mergeK kvs more).length ≤ 2000 by omega) (by decide)) sy1 (KV.merge rel2 rel) D1)
def tDSt (td tk tv : TE) : TE := fun σ H Q => ∀ p, H p = none → td σ (upd H p (.dK [])) fun x H1 => ∃ (a : Addr) (kvs : List (Key × V)), x = .ref a ∧ Rd H1 a (.dK kvs) ∧ a ≠ p ∧ H1 p = some (.dK []) ∧ (kvs.map (·.1)).Nodup ∧ kvs.length < 1000 ∧ ∀ q, (upd H1 p (.dK kvs)) q = none →
  tk σ (upd (upd H1 p (.dK kvs)) q (.dK [])) fun y H2 => tv σ H2 fun z H3 => ∃ k, y = kV k ∧ H3 p = some (.dK kvs) ∧ H3 q = some (.dK []) ∧ Q (.ref p) (upd (upd H3 q (.dK [(k, z)])) p (.dK (putK kvs k z)))
theorem pe_dst (ho : PE X o td) (hk : PE X ke tk) (hv : PE X ve tv) : PE X (.Dict [none, some ke] [o, ve] pos) (tDSt td tk tv) := by
  refine ⟨fun pins s σ H Q I h => ?_⟩
  rw [arm_eval_Dict]
  refine wpAny_bind (wpAny_standAt ?_)
  show wpAny _ _ (dictDisplay [(none, (eval o X.env >>= fun x => standAt pos >>= fun _ => pure x)), (some (eval ke X.env), (eval ve X.env >>= fun x => standAt pos >>= fun _ => pure x))]) _ _ _
  unfold dictDisplay
  simp only [List.forIn_cons, List.forIn_nil, List.isEmpty_nil, if_true, pure_bind, bind_assoc, List.nil_append, List.length_cons, List.length_nil, Nat.zero_add, Nat.reduceBEq, Bool.false_eq_true, if_false, List.isEmpty_cons]
  refine wpAny_bind (wpAny_alloc ?_)
  have hn : H s.heap.objs.size = none := I.hok.fresh (Nat.le_refl _)
  have I1 := I.laid (a := s.heap.objs.size) (o := .dK []) (h' := s.heap.push { cls := .type "dict", data := .dict #[] }) (t' := s.toks) (fun _ _ q => Heap.get?_push_of_some _ q) (Nat.le_refl _) (dk_empty s.heap I.big)
  refine wpAny_bind (wpAny_holding (wpAny_bind (thn (ho.run pins _ σ _ _ I1 (h _ hn)) fun u s2 ⟨x, H1, I2, rx, a, kvs, ex, ha, nap, hp, nd, few, q⟩ => wpAny_bind (wpAny_standAt (wpAny_pure ?_)))))
  subst ex
  obtain rfl : u = Value.ref a := rx
  refine wpAny_bind (wpAny_onRaise (wpAny_tryCatch (wpAny_onRaise (wpAny_holding (mergeH I2 hp ha nap.symm (by show 0 + kvs.length ≤ 2000; omega) fun s3 I3 => ?_)))))
  rw [mergeK_nd kvs [] (by rw [List.nil_append]; exact nd), List.nil_append] at I3
  have nq : (upd H1 s.heap.objs.size (.dK kvs)) s3.heap.objs.size = none := I3.hok.fresh (Nat.le_refl _)
  have npq : s.heap.objs.size ≠ s3.heap.objs.size := ne_of_none upd_same nq
  have I4 := I3.laid (a := s3.heap.objs.size) (o := .dK []) (h' := s3.heap.push { cls := .type "dict", data := .dict #[] }) (t' := s3.toks) (fun _ _ q => Heap.get?_push_of_some _ q) (Nat.le_refl _) (dk_empty s3.heap I3.big)
  refine wpAny_bind (wpAny_holding (wpAny_subDict (knd := mixKind X.prog X.w) (show 1 ≤ 15 by decide) (evalPairs_cons (thn (hk.run pins _ σ _ _ I4 (q _ nq)) fun ku s4 ⟨y, H2, I5, ry, q2⟩ => wpAny_bind (thn (hv.run pins _ σ H2 _ I5 q2) fun vu s5 ⟨z, H3, I6, rz, k, ey, hp3, hq3, q3⟩ => wpAny_bind (wpAny_standAt (wpAny_pure (evalPairs_nil ?_))))))))
  subst ey
  obtain ⟨zq, syq, vs, rel, D⟩ := dk_of I6.hok hq3
  obtain rfl : vs = [] := List.length_eq_zero_iff.mp (by rw [← rel.length]; rfl)
  refine ⟨[(k, vu)], ⟨kV_is ry, rfl, trivial⟩, D, fun h6 D6 sb6 => ?_⟩
  have he : ∃ q, h6.get? s3.heap.objs.size = some q := let ⟨q, _, _, hq, _⟩ := D6; ⟨q, hq⟩
  have I7 := d_write (t' := s5.toks + [(ku, vu)].length) (ob := .dK [(k, z)]) I6 (by rw [hq3]; exact True.intro) sb6 he (dk_new (by show 1 ≤ sizeLine; decide) syq (show KV (putK [] k z) (stored [] k vu) from rel.put k rz) D6)
  exact wpAny_bind (wpAny_onRaise (wpAny_holding (mergeH I7 (by rw [upd_ne npq]; exact hp3) (.inl upd_same) npq (by show kvs.length + 1 ≤ 2000; omega) fun s8 I8 => wpAny_pure ⟨.ref s.heap.objs.size, _, I8, rfl, q3⟩)))
end
/-! ### cls(a, ..): a class that a name of the def holds -/
def tMakeL (i : Nat) (C : Addr) (sp : Sp) (t : TA) : TE := fun σ H Q => σ[i]? = some (some (.ref C)) ∧ tMake C sp [] E0 t σ H Q
section
variable {X : Cx} {k i : Nat} {f C : Addr} {fd : FuncData} {ps : List Str} {sp : Sp} {x : Str} {p pos : Pos} {e : Expr} {es : List Expr} {t : TA}
theorem pe_makeL (M : Mk X.K C f) (F : FnOk X.prog X.w X.K X.mg X.base CX0 k f fd ps sp) (hr : Room (k + 1) X.A) (hN : X.N[i]? = some x) (hv : Vis X.env.scope x) (hb : Binds X.K fd ps []) (ha : PA X (e :: es) t)
    (hdb : (x == ("__debug__" : Str)) = false := by decide) (hcd : (x == ("__classdict__" : Str)) = false := by decide) (he : starEach (e :: es) X.env = (false, eval e X.env) :: starEach es X.env := by rfl) (hpl : (backTo pos (starEach es X.env)).any (·.1) = false := by rfl) :
    PE X (.Call (.Name x p) (e :: es) [] pos) (tMakeL i C sp t) := by
  refine ⟨fun pins s σ H Q I h => ?_⟩
  obtain ⟨hs, ht⟩ := h
  refine wpAny_Call_Name_kw (thn ((pe_var (pos := p) hN hv hdb hcd).run pins s σ H (fun v H1 => v = .ref C ∧ H1 = H) I ⟨.ref C, hs, rfl, rfl⟩) fun u s1 ⟨v, H1, I1, r1, q1⟩ => ?_)
  obtain ⟨rfl, rfl⟩ := q1
  cases r1
  exact PySem.W.callWith_K (h₀ := X.base) I1.ok.mod.kin M.kp (thn (ha.run pos pins s1 σ _ _ I1 ht) fun us s2 ⟨vs, H2, I2, r, q⟩ => ⟨I2.kIn, run_make M F hr hb .nil pass0 I2 r q⟩) he hpl
end
section
variable {P : Program} {w : World} {K : PySem.W.Frag} {mg : Str → Option Value} {base : Heap}
theorem scPen : FnScope ["script"] ["script"] (defScope sPen) := ⟨rfl, rfl, rfl, by decide +kernel, rfl, by decide +kernel, by decide +kernel⟩
theorem ok_pen {f : Addr} {fd : FuncData} {k : Nat} (F : Fun K "_law_pen" "_law_pen" sPen f fd) (ml : mg "list" = none) : FnOk P w K mg base CX0 (k + 1) f fd ["script"] (spPen K) := by
  refine F.ok scPen (fun vs H Q E h => ?_) (fun cdv A outer s H vs Q E hr h => ?_)
  · obtain ⟨a, ns, rfl, _⟩ := h
    rfl
  · obtain ⟨a, ns, rfl, hS, hlen, q⟩ := h
    refine ⟨_, pss_one (ps_ret (pe_lst (pa_cons (pe_callTy call_list_of (by rfl) ml (by decide +kernel) (pa_cons (pe_slice sl_list (pv 0) po_none (po_some pe_int)) pa_nil)) (pa_cons pe_int (pa_cons pe_int pa_nil))))), ?_⟩
    obtain ⟨ms, em, hm⟩ := cut60 ns
    refine ⟨.ref a, rfl, 60, rfl, a, ns.map V.int, rfl, hS, fun b nb => ?_⟩
    rw [em]
    refine ⟨b, _, rfl, .inl (.inl (.inl upd_same)), fun c nc => ?_⟩
    refine ⟨by show 3 ≤ sizeLine; decide, fun p np => ?_⟩
    have s1 : Same H (upd H b (.lst (ms.map V.int))) := same_upd nb
    have s2 := same_upd (o := .lst (ms.map V.int)) nc
    have s3 := same_upd (o := penL c 0 0 []) np
    have nf : H p = none := (s1.trans s2).free np
    refine q _ p c (s1.trans (s2.trans s3)) nf (s1.free nc) ⟨ms, 0, 0, upd_same, ?_, hm, Int.le_refl _, Int.le_refl _, Int.le_refl _⟩
    exact s3 _ _ upd_same
theorem scNext : FnScope ["pen", "index", "cell", "low", "mid", "top"] ["pen"] (defScope sNext) := ⟨rfl, rfl, rfl, by decide +kernel, rfl, by decide +kernel, by decide +kernel⟩
theorem ok_next {f : Addr} {fd : FuncData} {k : Nat} (F : Fun K "_law_next" "_law_next" sNext f fd) (ml : mg "len" = none) : FnOk P w K mg base CX0 (k + 1) f fd ["pen"] spNext := by
  refine F.ok scNext (fun vs H Q E h => ?_) (fun cdv A outer s H vs Q E hr h => ?_)
  · obtain ⟨p, n, m, c, ns, i, z, rfl, _⟩ := h
    rfl
  · obtain ⟨p, n, m, c, ns, i, z, rfl, hp, hn, q⟩ := h
    have nd := scNext.nd
    have hu := hr.units
    refine ⟨_, pss_cons (ps_set (i := 1) nd rfl (.inl rfl) (pe_ix ix_list (pv 0) pe_int (fun _ _ => rfl)))
      (pss_cons (ps_asg (pe_op op_add (pv 1) pe_int) (pg_sub (pv 0) pe_int set_list))
      (pss_cons (ps_set (i := 2) nd rfl (.inl rfl) (pe_op op_add (pe_op op_mul (pv 1) pe_int) pe_int))
      (C8.pss_cut (ps_if (pt_cmpR (op_neD hu) (pe_ix ix_list (pv 0) pe_int (fun _ _ => rfl)) (pe_lst pa_nil) (nomark _))
        (pss_one (ps_set (i := 2) nd rfl (.inl rfl) (pe_ix ix_list (pe_ix ix_list (pv 0) pe_int (fun _ _ => rfl))
          (pe_op op_mod (pv 1) (pe_callB call_len_seq (by rfl) ml PySem.boot_len (pa_cons (pe_ix ix_list (pv 0) pe_int (fun _ _ => rfl)) pa_nil))) (fun _ _ => rfl)))) pss_nil)
      (C8.pss_cut (ps_if (PW.pt (pw_and (pt_cmpR op_lt (pv 1) (pe_callB call_len_seq (by rfl) ml PySem.boot_len (pa_cons (pe_ix ix_list (pv 0) pe_int (fun _ _ => rfl)) pa_nil)) (nomark _))
          (pw_and1 (pt_cmpR op_ge (pv 2) (pe_op op_pow pe_int pe_int) (nomark _)))))
        (pss_one (ps_ret (pv 2))) pss_nil)
      (C8.pss_cut (ps_set (i := 3) nd rfl (.inl rfl) (pe_op op_mod (pe_op op_add (pe_op op_add (pe_op op_mod (pv 2) pe_int) (pe_op op_mul (pv 1) pe_int)) pe_int) pe_int))
      (C8.pss_cut (ps_set (i := 4) nd rfl (.inl rfl) (pe_op op_mod (pe_op op_add (pe_op op_add (pe_op op_mul (pv 3) (pv 3)) (pe_op op_mul (pv 1) pe_int)) pe_int) pe_int))
      (C8.pss_cut (ps_set (i := 5) nd rfl (.inl rfl) (pe_op op_mod (pe_op op_add (pe_op op_add (pe_op op_mul (pv 4) (pv 4)) (pv 3)) (pe_op op_mul (pe_op op_mul (pv 1) (pv 1)) pe_int)) pe_int))
      (pss_one (ps_ret (pe_op op_add (pe_op op_mul (pe_op op_add (pe_op op_mul (pv 5) pe_int) (pv 4)) pe_int) (pv 3)))))))))))  , ?_⟩
    have hpL : H p = some (.lst (.ref c :: .int i :: .int z :: m)) := hp.at_
    have ncp : c ≠ p := hp.ne
    -- index = pen[1]; pen[1] = index + 1
    refine ⟨.ref p, rfl, p, _, 1, .int i, rfl, rfl, SqL.of hpL, atI_nat (j := 1) rfl, ?_⟩
    refine ⟨.int i, rfl, i, 1, rfl, rfl, .ref p, rfl, p, _, 1, 1, rfl, rfl, hpL, ix1, ?_⟩
    have e1 : (V.ref c :: .int i :: .int z :: m).set 1 (.int (i + 1)) = .ref c :: .int (i + 1) :: .int z :: m := rfl
    rw [e1]
    generalize hH : upd H p (.lst (.ref c :: .int (i + 1) :: .int z :: m)) = H1
    have h1 : H1 p = some (.lst (.ref c :: .int (i + 1) :: .int z :: m)) := by rw [← hH, upd_same]
    have hc1 : H1 c = some (.lst (ns.map V.int)) := by rw [← hH, upd_ne ncp]; exact hp.cells
    have b1 : But p H H1 := by rw [← hH]; exact But.upd
    -- cell = index * 1049 + 29
    refine ⟨.int i, rfl, _, _, rfl, rfl, .inr ⟨by decide, by decide⟩, _, _, rfl, rfl, ?_⟩
    have hi0 := hp.i0
    have hi1 := hp.i1
    have hnB : n ≤ 1000000000000 := hn
    -- pen[0] != []
    refine ⟨fun σ H2 => ∃ cell : Int, σ = [some (.ref p), some (.int i), some (.int cell), none, none, none] ∧ H2 p = some (.lst (.ref c :: .int (i + 1) :: .int z :: m)) ∧ H2 c = some (.lst (ns.map V.int)) ∧ But p H H2, ?_, ?_⟩
    · refine ⟨.ref p, rfl, p, _, 0, .ref c, rfl, rfl, SqL.of h1, atI_nat (j := 0) rfl, Nat.zero_le _, fun e ne => ?_⟩
      have s2 : Same H1 (upd H1 e (.lst [])) := same_upd ne
      have hp2 : (upd H1 e (.lst [])) p = some (.lst (.ref c :: .int (i + 1) :: .int z :: m)) := s2 _ _ h1
      have hc2 : (upd H1 e (.lst [])) c = some (.lst (ns.map V.int)) := s2 _ _ hc1
      have b2 : But p H (upd H1 e (.lst [])) := b1.trans (.of_same s2)
      refine ⟨.list (ns.map PyData.int), .list [], .lst (SqL.of hc2) (dpAll_ints ns), .lst (SqL.of upd_same) .nil, PySem.W.ke_shaped_ints ns, rfl, _, rfl, ?_⟩
      rw [eqv_nil]
      by_cases hz : ns = []
      · rw [decide_eq_true hz]
        refine iteF ?_
        exact ⟨_, rfl, hp2, hc2, b2⟩
      · rw [decide_eq_false hz]
        refine iteT ?_
        have hl : 0 < ns.length := List.length_pos_iff.mpr hz
        have hlt : (i % (ns.length : Int)).toNat < ns.length := by
          have h1 := Int.emod_nonneg i (show (ns.length : Int) ≠ 0 by omega)
          have h2 := Int.emod_lt_of_pos i (show (0 : Int) < ns.length by omega)
          omega
        have hnn := Int.emod_nonneg i (show (ns.length : Int) ≠ 0 by omega)
        have g : atI (ns.map V.int) (i % (((ns.map V.int).length : Nat) : Int)) = some (.int ns[(i % (ns.length : Int)).toNat]) := by
          rw [List.length_map]
          refine at_of (j := (i % (ns.length : Int)).toNat) (by omega) ?_
          rw [List.getElem?_map, List.getElem?_eq_getElem hlt]
          rfl
        refine ⟨.ref p, rfl, p, _, 0, .ref c, rfl, rfl, SqL.of hp2, atI_nat (j := 0) rfl, .int i, rfl, .ref p, rfl, p, _, 0, .ref c, rfl, rfl, SqL.of hp2, atI_nat (j := 0) rfl,
          c, _, rfl, .inl (SqL.of hc2), _, _, rfl, rfl, by rw [List.length_map]; omega, c, _, _, _, rfl, rfl, SqL.of hc2, g, ?_⟩
        exact ⟨_, rfl, hp2, hc2, b2⟩
    · rintro σ H2 ⟨cell, rfl, hp2, hc2, b2⟩
      have fin : ∀ x : Int, 0 ≤ x → Q (.int x) H2 := fun x hx => q x H2 hx b2 (hp.but b2 hp2 (by omega) (by omega) hp.s0)
      have m1 := Int.emod_nonneg (cell % 2147483587 + i * 70061 + 53) (show (2147483587 : Int) ≠ 0 by decide)
      have m2 := Int.emod_lt_of_pos (cell % 2147483587 + i * 70061 + 53) (show (0 : Int) < 2147483587 by decide)
      have M0 : (2147483587 : Int) ≠ 0 := by decide
      have M1 : (0 : Int) < 2147483587 := by decide
      have M2 : (0 : Int) < 2147483563 := by decide
      have M3 : (0 : Int) < 2147483549 := by decide
      refine ⟨fun σ' H' => σ' = [some (.ref p), some (.int i), some (.int cell), none, none, none] ∧ H' = H2, ?_, ?_⟩
      · refine ⟨.int i, rfl, .ref p, rfl, p, _, 0, .ref c, rfl, rfl, SqL.of hp2, atI_nat (j := 0) rfl, c, _, rfl, .inl (SqL.of hc2), _, _, rfl, rfl, _, rfl, ?_⟩
        refine ite2 (fun _ => ?_) (fun _ => iteF ⟨rfl, rfl⟩)
        refine ⟨.int cell, rfl, _, _, rfl, rfl, ⟨by decide, by decide, by decide⟩, _, _, rfl, rfl, _, rfl, ?_⟩
        refine ite2 (fun hc => ?_) (fun _ => ⟨rfl, rfl⟩)
        have hc' : (10 : Int) ^ 18 ≤ cell := of_decide_eq_true hc
        exact ⟨.int cell, rfl, fin cell (by omega)⟩
      · rintro σ' H' ⟨rfl, rfl⟩
        refine ⟨fun σ' Ha => Ha = H' ∧ ∃ low : Int, 0 ≤ low ∧ low < 2147483587 ∧ σ' = [some (.ref p), some (.int i), some (.int cell), some (.int low), none, none], ?_, ?_⟩
        · refine ⟨.int cell, rfl, _, _, rfl, rfl, M1, .int i, rfl, _, _, rfl, rfl, .inr ⟨by decide, by decide⟩, _, _, rfl, rfl, _, _, rfl, rfl, _, _, rfl, rfl, M1, ?_⟩
          exact ⟨rfl, _, Int.emod_nonneg _ M0, Int.emod_lt_of_pos _ M1, rfl⟩
        rintro σ' Hb ⟨rfl, low, l1, l2, rfl⟩
        refine ⟨fun σ' Ha => Ha = Hb ∧ ∃ mid : Int, 0 ≤ mid ∧ mid < 2147483563 ∧ σ' = [some (.ref p), some (.int i), some (.int cell), some (.int low), some (.int mid), none], ?_, ?_⟩
        · refine ⟨.int low, rfl, .int low, rfl, _, _, rfl, rfl, .inl ⟨by omega, by omega⟩, .int i, rfl, _, _, rfl, rfl, .inr ⟨by decide, by decide⟩, _, _, rfl, rfl, _, _, rfl, rfl, _, _, rfl, rfl, M2, ?_⟩
          exact ⟨rfl, _, Int.emod_nonneg _ (by decide), Int.emod_lt_of_pos _ M2, rfl⟩
        rintro σ' Hc ⟨rfl, mid, d1, d2, rfl⟩
        refine ⟨fun σ' Ha => Ha = Hc ∧ ∃ tp : Int, 0 ≤ tp ∧ σ' = [some (.ref p), some (.int i), some (.int cell), some (.int low), some (.int mid), some (.int tp)], ?_, ?_⟩
        · refine ⟨.int mid, rfl, .int mid, rfl, _, _, rfl, rfl, .inl ⟨by omega, by omega⟩, .int low, rfl, _, _, rfl, rfl, .int i, rfl, .int i, rfl, _, _, rfl, rfl, .inl ⟨by omega, by omega⟩, _, _, rfl, rfl, .inr ⟨by decide, by decide⟩, _, _, rfl, rfl, _, _, rfl, rfl, M3, ?_⟩
          exact ⟨rfl, _, Int.emod_nonneg _ (by decide), rfl⟩
        rintro σ' H3 ⟨rfl, tp, t1, rfl⟩
        refine ⟨.int tp, rfl, _, _, rfl, rfl, .inr ⟨by decide, by decide⟩, .int mid, rfl, _, _, rfl, rfl, _, _, rfl, rfl, .inr ⟨by decide, by decide⟩, .int low, rfl, _, _, rfl, rfl, ?_⟩
        exact fin _ (by show 0 ≤ (tp * 2147483587 + mid) * 2147483563 + low; omega)
theorem scDraw : FnScope ["pen", "below", "digit"] ["pen", "below"] (defScope sDraw) := ⟨rfl, rfl, rfl, by decide +kernel, rfl, by decide +kernel, by decide +kernel⟩
theorem ok_draw {f fN : Addr} {fd fdN : FuncData} {k : Nat} (F : Fun K "_law_draw" "_law_draw" sDraw f fd) (FN : Fun K "_law_next" "_law_next" sNext fN fdN) (bN : Binds K fdN ["pen"] []) (gN : mg "_law_next" = some (.ref fN)) (ml : mg "len" = none) :
    FnOk P w K mg base CX0 (k + 2) f fd ["pen", "below"] spDraw := by
  have GN : FnOk P w K mg base CX0 (k + 1) fN fdN ["pen"] spNext := ok_next FN ml
  refine F.ok scDraw (fun vs H Q E h => ?_) (fun cdv A outer s H vs Q E hr h => ?_)
  · obtain ⟨p, c, n, m, below, rfl, _⟩ := h
    rfl
  · obtain ⟨p, c, n, m, below, rfl, ⟨ns, i, z, hp⟩, hn, hb0, hb1, q⟩ := h
    have nd := scDraw.nd
    refine ⟨_, C8.pss_cut (ps_if (pt_cmpR op_lt (pe_ix ix_list (pv 0) pe_int (fun _ _ => rfl)) (pv 1) (nomark _))
        (pss_one (ps_asg (pe_call GN hr (by rfl) gN FN.kp bN .nil pass0 (pa_cons (pv 0) pa_nil)) (pg_sub (pv 0) pe_int set_list))) pss_nil)
      (pss_cons (ps_set (i := 2) nd rfl (.inl rfl) (pe_op op_mod (pe_ix ix_list (pv 0) pe_int (fun _ _ => rfl)) (pv 1)))
      (pss_cons (ps_asg (pe_op op_fdiv (pe_ix ix_list (pv 0) pe_int (fun _ _ => rfl)) (pv 1)) (pg_sub (pv 0) pe_int set_list))
      (pss_one (ps_ret (pv 2))))), ?_⟩
    refine ⟨fun σ H2 => σ = [some (.ref p), some (.int below), none] ∧ But p H H2 ∧ ∃ i z, PenAt H2 p (n + 1) m c ns i z, ?_, ?_⟩
    · refine ⟨.ref p, rfl, p, _, 2, .int z, rfl, rfl, SqL.of hp.at_, atI_nat (j := 2) rfl, .int below, rfl, _, _, rfl, rfl, _, rfl, ?_⟩
      refine ite2 (fun _ => ?_) (fun _ => ⟨rfl, .refl _ _, i, z, hp.mono (Nat.le_succ _)⟩)
      refine ⟨.ref p, rfl, p, n, m, c, ns, i, z, rfl, hp, hn, fun x H1 hx b1 hp1 => ?_⟩
      refine ⟨.ref p, rfl, p, _, 2, 2, rfl, rfl, hp1.at_, ix2, ?_⟩
      exact ⟨rfl, b1.trans .upd, i + 1, x, hp1.next hp1.i0 hp1.i1 hx⟩
    · rintro σ H2 ⟨rfl, b2, i', z', hp2⟩
      refine ⟨.ref p, rfl, p, _, 2, .int z', rfl, rfl, SqL.of hp2.at_, atI_nat (j := 2) rfl, .int below, rfl, _, _, rfl, rfl, hb0, ?_⟩
      refine ⟨.ref p, rfl, p, _, 2, .int z', rfl, rfl, SqL.of hp2.at_, atI_nat (j := 2) rfl, .int below, rfl, _, _, rfl, rfl, ⟨hb0, hb1⟩, .ref p, rfl, p, _, 2, 2, rfl, rfl, hp2.at_, ix2, ?_⟩
      refine ⟨_, rfl, q _ _ (Int.emod_nonneg _ (by omega)) (Int.emod_lt_of_pos _ hb0) (b2.trans .upd) ⟨ns, i', z' / below, hp2.next hp2.i0 hp2.i1 (Int.ediv_nonneg hp2.s0 (by omega))⟩⟩
end
/-! ### has_only, is_prefix -/
def spHas : Sp := fun vs H Q _ => ∃ x y : Str, vs = [.str x, .str y] ∧ x.length ≤ sizeLine ∧ Q (.bl (onlyOf y x)) H
def spPfx (K : PySem.W.Frag) : Sp := fun vs H Q _ => ∃ (v : V) (w : Int), vs = [v, .int w] ∧ TyS K H v ∧ (∀ x, v = .str x → x.length ≤ sizeLine) ∧ Q (.bl (isPfx v w)) H
section
variable {P : Program} {w : World} {K : PySem.W.Frag} {mg : Str → Option Value} {base : Heap}
theorem scHas : FnScope ["text", "signs"] ["text", "signs"] (defScope sHas) := ⟨rfl, rfl, rfl, by decide +kernel, rfl, by decide +kernel, by decide +kernel⟩
theorem ok_has {f : Addr} {fd : FuncData} {k : Nat} (F : Fun K "has_only" "has_only" sHas f fd) : FnOk P w K mg base CX0 (k + 1) f fd ["text", "signs"] spHas := by
  refine F.ok scHas (fun vs H Q E h => ?_) (fun cdv A outer s H vs Q E hr h => ?_)
  · obtain ⟨x, y, rfl, _⟩ := h
    rfl
  · obtain ⟨x, y, rfl, hl, q⟩ := h
    refine ⟨_, pss_one (ps_ret (pe_cmpR op_eq (pe_bm PySem.F.plainAttrs_str PySem.F.slot_str_lstrip PySem.F.type_str_lstrip mt_lstripChars (pv 0) (pa_cons (pv 1) pa_nil)) pe_str (nomark _))), ?_⟩
    refine ⟨.str x, rfl, rfl, .str y, rfl, x, y, rfl, rfl, hl, rfl, ?_⟩
    show Q (.bl (decide (V.str (Txt.lstripChars x y) = V.str ""))) H
    rw [lstrip_empty]
    exact q
theorem scPfx : FnScope ["thing", "width"] ["thing", "width"] (defScope sPfx) := ⟨rfl, rfl, rfl, by decide +kernel, rfl, by decide +kernel, by decide +kernel⟩
theorem ok_pfx {f fH : Addr} {fd fdH : FuncData} {k : Nat} (F : Fun K "is_prefix" "is_prefix" sPfx f fd) (FH : Fun K "has_only" "has_only" sHas fH fdH) (bH : Binds K fdH ["text", "signs"] []) (gH : mg "has_only" = some (.ref fH))
    (mi : mg "isinstance" = none) (ms : mg "str" = none) (ml : mg "len" = none) : FnOk P w K mg base CX0 (k + 2) f fd ["thing", "width"] (spPfx K) := by
  have GH : FnOk P w K mg base CX0 (k + 1) fH fdH ["text", "signs"] spHas := ok_has FH
  refine F.ok scPfx (fun vs H Q E h => ?_) (fun cdv A outer s H vs Q E hr h => ?_)
  · obtain ⟨v, w, rfl, _⟩ := h
    rfl
  · obtain ⟨v, w, rfl, ⟨t, ty, kt⟩, hl, q⟩ := h
    refine ⟨_, pss_one (ps_ret (pe_and (pe_callB call_isi (by rfl) mi (by decide +kernel) (pa_cons (pv 0) (pa_cons (pe_bltn (v := .ty "str") (by rfl) ms (by decide +kernel) rfl) pa_nil)))
      (pe_and (pe_cmpR op_le (pe_callB call_len_str (by rfl) ml PySem.boot_len (pa_cons (pv 0) pa_nil)) (pv 1) (nomark _))
        (pe_one (pe_call GH hr (by rfl) gH FH.kp bH .nil pass0 (pa_cons (pv 0) (pa_cons pe_str pa_nil))))))), ?_⟩
    refine ⟨v, rfl, v, .ty "str", .type t, .type "str", _, rfl, .ty _, ty, kt, _, rfl, ?_⟩
    cases v with
    | str x =>
      refine iteT ?_
      have hx := hl x rfl
      refine ⟨.str x, rfl, x, rfl, hx, .int w, rfl, _, _, rfl, rfl, _, rfl, ?_⟩
      by_cases hw : (x.length : Int) ≤ w
      · rw [decide_eq_true hw]
        refine iteT ⟨.str x, rfl, x, _, rfl, hx, ?_⟩
        have e : isPfx (.str x) w = isBits x := by
          show (decide ((x.length : Int) ≤ w) && isBits x) = isBits x
          rw [decide_eq_true hw, Bool.true_and]
        rw [e] at q
        exact q
      · rw [decide_eq_false hw]
        refine iteF ?_
        have e : isPfx (.str x) w = false := by
          show (decide ((x.length : Int) ≤ w) && isBits x) = false
          rw [decide_eq_false hw, Bool.false_and]
        rw [e] at q
        exact q
    | _ => exact iteF q
end
section
variable {P : Program} {w : World} {K : PySem.W.Frag} {mg : Str → Option Value} {base : Heap}
theorem scBits : FnScope ["pen", "size", "turn"] ["pen", "size"] (defScope sBits) := ⟨rfl, rfl, rfl, by decide +kernel, rfl, by decide +kernel, by decide +kernel⟩
theorem ok_bits {f fD : Addr} {fd fdD : FuncData} {k : Nat} (F : Fun K "_law_bits" "_law_bits" sBits f fd) (GD : FnOk P w K mg base CX0 k fD fdD ["pen", "below"] spDraw) (FD : Fun K "_law_draw" "_law_draw" sDraw fD fdD) (bD : Binds K fdD ["pen", "below"] []) (gD : mg "_law_draw" = some (.ref fD))
    (mr : mg "range" = none) : FnOk P w K mg base CX0 (k + 1) f fd ["pen", "size"] spBits := by
  refine F.ok scBits (fun vs H Q E h => ?_) (fun cdv A outer s H vs Q E hr h => ?_)
  · obtain ⟨p, c, n, z, m, rfl, _⟩ := h
    rfl
  · obtain ⟨p, c, n, z, m, rfl, hp, hn, hz, q⟩ := h
    have nd := scBits.nd
    have hnB : n + 100 ≤ 1000000000000 := hn
    refine ⟨_, pss_one (ps_ret (pe_join pe_str (pe_lc (own := [("turn", 2)]) (g := gName 2) (tt := tYes) rfl nd
      (pi_range1 (by rfl) mr (pa_cons (pe_call GD hr (by rfl) gD FD.kp bD .nil pass0 (pa_cons (pv 0) (pa_cons (pe_op op_add (pv 1) pe_int) pa_nil))) pa_nil))
      (blkOk_by (N := ["pen", "size", "turn"]) (sc := defScope sBits) (by decide +kernel)) (fun _ _ _ _ _ => pg_name (i := 2) nd rfl (.inl rfl)) (fun _ _ _ _ _ => pts_nil)
      (fun _ _ _ _ _ => pe_ix (r := rIxS) ix_str pe_str (pe_call GD hr (by rfl) gD FD.kp bD .nil pass0 (pa_cons (pv 0) (pa_cons pe_int pa_nil))) (fun _ _ => rfl))))), ?_⟩
    refine ⟨⟨_, rfl⟩, .ref p, rfl, .int z, rfl, _, _, rfl, rfl, p, c, n, m, (z : Int) + 1, rfl, hp, by show n ≤ 1000000000000; omega, by omega, by omega, fun d H1 d0 d1 b1 p1 => ?_⟩
    refine ⟨d, rfl, by omega, by omega, fun D nD => lc_range (n := d.toNat) (fun j H' => ∃ ys : List Str, H' D = some (.lst (ys.map V.str)) ∧ ys.length = j ∧ (∀ y ∈ ys, y = "0" ∨ y = "1") ∧ But p H H' ∧ Pen H' p c (n + 1 + j) m) ?_ ?_ ?_⟩
    · exact ⟨[], upd_same, rfl, fun _ h => absurd h List.not_mem_nil, b1.trans (.of_same (same_upd nD)), p1.off (p1.ne_p nD) (p1.ne_c nD)⟩
    · rintro j H' hj ⟨ys, hD, hy, hys, bH, pj⟩
      refine ⟨rfl, yes_if ?_⟩
      refine ⟨.ref p, rfl, p, c, n + 1 + j, m, 2, rfl, pj, by show n + 1 + j ≤ 1000000000000; omega, by decide, by decide, fun e H'' e0 e1 b p' => ?_⟩
      have hb : ∃ ch, atI (sg "01") e = some ch ∧ ((⟨#[ch]⟩ : Str) = "0" ∨ (⟨#[ch]⟩ : Str) = "1") := by
        obtain rfl | rfl : e = 0 ∨ e = 1 := by omega
        · exact ⟨48, by decide +kernel, .inl (by decide +kernel)⟩
        · exact ⟨49, by decide +kernel, .inr (by decide +kernel)⟩
      obtain ⟨ch, hch, hc⟩ := hb
      refine ⟨"01", e, ch, rfl, rfl, by decide +kernel, hch, _, b D _ (p1.ne_p nD) hD, ?_, ys ++ [⟨#[ch]⟩], ?_, ?_, ?_, ?_, p'.off (p1.ne_p nD) (p1.ne_c nD)⟩
      · exact Nat.lt_of_le_of_lt (show (ys.map V.str).length ≤ 1000 by rw [List.length_map]; omega) (by decide)
      · rw [upd_same, List.map_append]
        rfl
      · rw [List.length_append, hy]
        rfl
      · intro y hy
        rcases List.mem_append.mp hy with hy | hy
        · exact hys y hy
        · rw [List.mem_singleton.mp hy]
          exact hc
      · intro a o na ha
        have naD : a ≠ D := fun e => by
          rw [e, b1.free (p1.ne_p nD) nD] at ha
          cases ha
        rw [upd_ne naD]
        exact b a o na (bH a o na ha)
    · rintro H' ⟨ys, hD, hy, hys, bH, pj⟩
      have s1 : ∀ y ∈ ys, Sm 1 y := fun y h => by
        rcases hys y h with e | e <;> (rw [e]; exact ⟨by decide +kernel, by decide +kernel⟩)
      refine ⟨"", D, ys, rfl, rfl, .inl (SqL.of hD), ?_, ?_⟩
      · have := sum_ones s1
        have e : ((("" : String) : Str)).length = 0 := by decide +kernel
        rw [e]
        omega
      refine q _ H' bH (pj.mono (by omega)) (bits_iff.mpr fun ch hc => ?_) (Nat.le_trans (Sm.join s1).ln (by omega))
      rw [sg_join] at hc
      obtain ⟨l, hl, hc⟩ := List.mem_flatten.mp hc
      obtain ⟨y, hy, rfl⟩ := List.mem_map.mp hl
      rcases hys y hy with e | e
      · rw [e, show sg "0" = [48] by decide +kernel] at hc
        exact .inl (List.mem_singleton.mp hc)
      · rw [e, show sg "1" = [49] by decide +kernel] at hc
        exact .inr (List.mem_singleton.mp hc)
theorem scSize : FnScope ["pen", "size"] ["pen"] (defScope sSize) := ⟨rfl, rfl, rfl, by decide +kernel, rfl, by decide +kernel, by decide +kernel⟩
theorem ok_size {f fD : Addr} {fd fdD : FuncData} {k : Nat} (F : Fun K "_law_size" "_law_size" sSize f fd) (GD : FnOk P w K mg base CX0 k fD fdD ["pen", "below"] spDraw) (FD : Fun K "_law_draw" "_law_draw" sDraw fD fdD) (bD : Binds K fdD ["pen", "below"] []) (gD : mg "_law_draw" = some (.ref fD))
    (ml : mg "len" = none) : FnOk P w K mg base CX0 (k + 1) f fd ["pen"] spSize := by
  refine F.ok scSize (fun vs H Q E h => ?_) (fun cdv A outer s H vs Q E hr h => ?_)
  · obtain ⟨p, c, n, m, rfl, _⟩ := h
    rfl
  · obtain ⟨p, c, n, m, rfl, hp, hn, hm, q⟩ := h
    have nd := scSize.nd
    have hnB : n + 100 ≤ 1000000000000 := hn
    refine ⟨_, pss_cons (ps_set (i := 1) nd rfl (.inl rfl) (pe_ix ix_list (pe_lst (pa_cons pe_int (pa_cons pe_int (pa_cons pe_int (pa_cons pe_int (pa_cons pe_int (pa_cons pe_int pa_nil)))))))
        (pe_call GD hr (by rfl) gD FD.kp bD .nil pass0 (pa_cons (pv 0) (pa_cons pe_int pa_nil))) (fun _ _ => rfl)))
      (pss_cons (ps_if (PW.pt (pw_and (pt_cmpR op_eq (pv 1) pe_int (nomark _)) (pw_and1 (pt_cmpR op_gt (pe_callB call_len_seq (by rfl) ml PySem.boot_len (pa_cons (pv 0) pa_nil)) pe_int (nomark _))))) (pss_one (ps_ret pe_int)) pss_nil)
      (pss_cons (ps_if (pt_cmpR op_eq (pv 1) pe_int (nomark _)) (pss_one (ps_expr (pe_bm PySem.F.plainAttrs_list PySem.F.slot_list_append PySem.F.type_list_append mt_append (pv 0) (pa_cons pe_int pa_nil)))) pss_nil)
      (pss_one (ps_ret (pv 1))))), ?_⟩
    refine ⟨by show 6 ≤ sizeLine; decide, fun l nl => ?_⟩
    refine ⟨.ref p, rfl, p, c, n, m, 6, rfl, hp.keep (same_upd nl), by show n ≤ 1000000000000; omega, by decide, by decide, fun d H1 d0 d1 b1 p1 => ?_⟩
    have b1' : But p H H1 := (But.of_same (same_upd nl)).trans b1
    have hz : ∃ z : Nat, atI ([.int 1, .int 2, .int 3, .int 3, .int 4, .int 32] : List V) d = some (.int z) ∧ 1 ≤ z ∧ z ≤ 32 := by
      obtain rfl | rfl | rfl | rfl | rfl | rfl : d = 0 ∨ d = 1 ∨ d = 2 ∨ d = 3 ∨ d = 4 ∨ d = 5 := by omega
      · exact ⟨1, rfl, by decide, by decide⟩
      · exact ⟨2, rfl, by decide, by decide⟩
      · exact ⟨3, rfl, by decide, by decide⟩
      · exact ⟨3, rfl, by decide, by decide⟩
      · exact ⟨4, rfl, by decide, by decide⟩
      · exact ⟨32, rfl, by decide, by decide⟩
    obtain ⟨z, ez, z1, z32⟩ := hz
    refine ⟨l, _, d, _, rfl, rfl, SqL.of (b1 l _ (hp.ne_p nl) upd_same), ez, ?_⟩
    obtain ⟨ns, i, st, P1⟩ := id p1
    have hP : H1 p = some (.lst (.ref c :: .int i :: .int st :: m)) := P1.at_
    refine ⟨.int z, rfl, rfl, _, rfl, ite2 (fun e => ?_) (fun e => ?_)⟩
    · refine ⟨.ref p, rfl, p, _, rfl, .inl (SqL.of hP), _, _, rfl, rfl, _, rfl, ite2 (fun _ => q 5 m H1 b1' p1 hm (by decide) (by decide)) (fun e2 => ?_)⟩
      have hm0 : m = [] := by
        cases m with
        | nil => rfl
        | cons x r =>
          refine absurd (decide_eq_true ?_) e2
          rw [List.length_cons, List.length_cons, List.length_cons, List.length_cons]
          omega
      subst hm0
      refine ⟨.int z, rfl, rfl, _, rfl, ite2 (fun _ => ?_) (fun e3 => absurd e e3)⟩
      refine ⟨.ref p, rfl, .inl ⟨rfl, _, SqL.of hP⟩, p, _, _, rfl, rfl, hP, by show 3 < sizeLine; decide, ?_⟩
      refine ⟨.int z, rfl, q z [.int 1] _ (b1'.trans .upd) ⟨ns, i, st, upd_same, ?_, P1.len, P1.i0, P1.i1, P1.s0⟩ (Nat.le_refl _) z1 z32⟩
      rw [upd_ne P1.ne]
      exact P1.cells
    · refine ⟨.int z, rfl, rfl, _, rfl, ite2 (fun e3 => absurd e3 e) (fun _ => ?_)⟩
      exact ⟨.int z, rfl, q z m H1 b1' p1 hm z1 z32⟩
end
section
variable {P : Program} {w : World} {K : PySem.W.Frag} {mg : Str → Option Value} {base : Heap}
theorem scPrefixes : FnScope ["pen", "size", "most", "found", "turn", "start", "prefix"] ["pen", "size", "most"] (defScope sPrefixes) := ⟨rfl, rfl, rfl, by decide +kernel, rfl, by decide +kernel, by decide +kernel⟩
theorem ok_prefixes {f fD fB : Addr} {fd fdD fdB : FuncData} {k : Nat} (F : Fun K "_law_prefixes" "_law_prefixes" sPrefixes f fd) (GD : FnOk P w K mg base CX0 k fD fdD ["pen", "below"] spDraw) (FD : Fun K "_law_draw" "_law_draw" sDraw fD fdD) (bD : Binds K fdD ["pen", "below"] []) (gD : mg "_law_draw" = some (.ref fD))
    (GB : FnOk P w K mg base CX0 k fB fdB ["pen", "size"] spBits) (FB : Fun K "_law_bits" "_law_bits" sBits fB fdB) (bB : Binds K fdB ["pen", "size"] []) (gB : mg "_law_bits" = some (.ref fB))
    (mr : mg "range" = none) (ml : mg "len" = none) (mm : mg "min" = none) : FnOk P w K mg base CX0 (k + 1) f fd ["pen", "size", "most"] spPrefixes := by
  refine F.ok scPrefixes (fun vs H Q E h => ?_) (fun cdv A outer s H vs Q E hr h => ?_)
  · obtain ⟨p, c, n, z, k, m, rfl, _⟩ := h
    rfl
  · obtain ⟨p, c, n, z, most, m, rfl, hp, hn, hz, hk, q⟩ := h
    have nd := scPrefixes.nd
    have hu := hr.units
    have hnB : n + 1000 ≤ 1000000000000 := hn
    refine ⟨_, pss_cons (ps_set (i := 3) nd rfl (.inl rfl) (pe_lst pa_nil))
      (pss_cons (ps_for PassesOwn.never rfl (pi_range1 (by rfl) mr (pa_cons (pe_call GD hr (by rfl) gD FD.kp bD .nil pass0 (pa_cons (pv 0) (pa_cons (pe_op op_add (pv 2) pe_int) pa_nil))) pa_nil)) (pg_name (i := 4) nd rfl (.inl rfl))
        (C8.pss_cut (ps_set (i := 5) nd rfl (.inl rfl) (pe_ifExp (PW.pt (pw_and (pt_cmpR (op_neD hu) (pv 3) (pe_lst pa_nil) (nomark _)) (pw_and1 (pt_cmpR op_eq (pe_call GD hr (by rfl) gD FD.kp bD .nil pass0 (pa_cons (pv 0) (pa_cons pe_int pa_nil))) pe_int (nomark _)))))
            (pe_ix ix_list (pv 3) (pe_call GD hr (by rfl) gD FD.kp bD .nil pass0 (pa_cons (pv 0) (pa_cons (pe_callB call_len_seq (by rfl) ml PySem.boot_len (pa_cons (pv 3) pa_nil)) pa_nil))) (fun _ _ => rfl)) pe_str))
        (pss_cons (ps_set (i := 6) nd rfl (.inl rfl) (pe_slice sl_str (pe_op op_add_str (pv 5) (pe_call GB hr (by rfl) gB FB.kp bB .nil pass0 (pa_cons (pv 0) (pa_cons (pe_callB (call_min2 rfl) (by rfl) mm (by decide +kernel) (pa_cons (pv 1) (pa_cons pe_int pa_nil))) pa_nil)))) po_none (po_some (pv 1))))
        (pss_one (ps_if (pt_cmpR op_notIn_seq (pv 6) (pv 3) (by rfl)) (pss_one (ps_expr (pe_bm PySem.F.plainAttrs_list PySem.F.slot_list_append PySem.F.type_list_append mt_append (pv 3) (pa_cons (pv 6) pa_nil)))) pss_nil)))))
      (pss_one (ps_ret (pv 3)))), ?_⟩
    refine ⟨Nat.zero_le _, fun l nl => ?_⟩
    have lp : l ≠ p := hp.ne_p nl
    have lc : l ≠ c := hp.ne_c nl
    refine ⟨.ref p, rfl, .int most, rfl, _, _, rfl, rfl, p, c, n, m, (most : Int) + 1, rfl, hp.keep (same_upd nl), by show n ≤ 1000000000000; omega, by omega, by omega, fun d H1 d0 d1 b1 p1 => ?_⟩
    refine ⟨d, rfl, by omega, by omega, for_range (n := d.toNat) (fun i σ H' => ∃ xs x4 x5 x6, σ = [some (.ref p), some (.int z), some (.int most), some (.ref l), x4, x5, x6] ∧ H' l = some (.lst (xs.map V.str)) ∧ PfxL z xs ∧ xs.length ≤ i ∧ But p H H' ∧ Pen H' p c (n + 1 + 8 * i) m) ?_ ?_ ?_⟩
    · exact ⟨[], _, _, _, rfl, b1 l _ lp upd_same, ⟨List.nodup_nil, fun _ h => absurd h List.not_mem_nil, fun _ h => absurd h List.not_mem_nil⟩, Nat.le_refl _, (But.of_same (same_upd nl)).trans b1, p1⟩
    · rintro i σ H' hi ⟨xs, x4, x5, x6, rfl, hl, hx, hxl, bH, pH⟩
      have hxz : xs.length ≤ 20 := by omega
      refine ⟨fun σ' H'' => ∃ x : Str, σ' = [some (.ref p), some (.int z), some (.int most), some (.ref l), some (.int (0 + i)), some (.str x), x6] ∧ isBits x = true ∧ x.length ≤ z ∧ H'' l = some (.lst (xs.map V.str)) ∧ But p H H'' ∧ Pen H'' p c (n + 1 + 8 * i + 2) m, ?_, ?_⟩
      · refine ⟨.ref l, rfl, Nat.zero_le _, fun e ne => ?_⟩
        have s1 := same_upd (o := .lst []) ne
        have hl1 := s1 _ _ hl
        refine ⟨.list (xs.map PyData.str), .list [], .lst (SqL.of hl1) (dpAll_strs xs), .lst (SqL.of upd_same) .nil, shaped_strs hx.bits, rfl, _, rfl, ?_⟩
        rw [eqv_nilS]
        have pH1 := pH.keep s1
        have bH1 := bH.trans (.of_same s1)
        revert hl1 pH1 bH1
        generalize upd H' e (.lst []) = H2
        intro hl1 pH1 bH1
        by_cases hz0 : xs = []
        · rw [decide_eq_true hz0]
          refine iteF (iteF ?_)
          exact ⟨"", rfl, bits_empty, Nat.zero_le _, hl1, bH1, pH1.mono (by omega)⟩
        · rw [decide_eq_false hz0]
          refine iteT ?_
          refine ⟨.ref p, rfl, p, c, _, m, 2, rfl, pH1, by show n + 1 + 8 * i ≤ 1000000000000; omega, by decide, by decide, fun e H3 e0 e1 b3 p3 => ?_⟩
          refine ⟨rfl, _, rfl, ite2 (fun _ => ?_) (fun _ => ?_)⟩
          · have hl3 := b3 _ _ lp hl1
            have hpos : 0 < xs.length := List.length_pos_iff.mpr hz0
            refine ⟨.ref l, rfl, .ref p, rfl, .ref l, rfl, l, _, rfl, .inl (SqL.of hl3), p, c, _, m, (((xs.map V.str).length : Nat) : Int), rfl, p3, by show n + 1 + 8 * i + 1 ≤ 1000000000000; omega, by rw [List.length_map]; omega, by rw [List.length_map]; omega, fun g H4 g0 g1 b4 p4 => ?_⟩
            rw [List.length_map] at g1
            have hg : g.toNat < xs.length := by omega
            refine ⟨l, _, g, .str xs[g.toNat], rfl, rfl, SqL.of (b4 _ _ lp hl3), at_of (j := g.toNat) (by omega) (by rw [List.getElem?_map, List.getElem?_eq_getElem hg]; rfl), ?_⟩
            exact ⟨xs[g.toNat], rfl, hx.bits _ (List.getElem_mem hg), hx.len _ (List.getElem_mem hg), b4 _ _ lp hl3, (bH1.trans b3).trans b4, p4⟩
          · exact ⟨"", rfl, bits_empty, Nat.zero_le _, b3 _ _ lp hl1, bH1.trans b3, p3.mono (by omega)⟩
      · rintro σ' H'' ⟨x, rfl, hxb, hxz2, hl2, bH2, pH2⟩
        have hmin : (if (5 : Int) < (z : Int) then (5 : Int) else (z : Int)) = ((min 5 z : Nat) : Int) := by
          by_cases h5 : (5 : Int) < (z : Int)
          · rw [if_pos h5]
            omega
          · rw [if_neg h5]
            omega
        refine ⟨.str x, rfl, .ref p, rfl, .int z, rfl, _, _, rfl, p, c, _, min 5 z, m, ?_, pH2, by show n + 1 + 8 * i + 2 + 100 ≤ 1000000000000; omega, by omega, fun y H3 b3 p3 hyb hyl => ?_⟩
        · show [V.ref p, V.int (if (5 : Int) < (z : Int) then 5 else z)] = _
          rw [hmin]
        refine ⟨_, _, rfl, rfl, Nat.le_trans (show x.length + y.length ≤ 1000 by omega) (by decide), .int z, rfl, z, rfl, _, rfl, ?_, ?_⟩
        · rw [strLen_append]
          exact Nat.le_trans (show x.length + y.length ≤ 1000 by omega) (by decide)
        have hb : isBits (cutS (x ++ y) none (some (z : Int))) = true := bits_cut (bits_app hxb hyb) _ _
        have hlz := take_len (x ++ y) z
        revert hb hlz
        generalize cutS (x ++ y) none (some (z : Int)) = pf
        intro hb hlz
        have hl3 := b3 _ _ lp hl2
        have bH3 := bH2.trans b3
        refine ⟨.str pf, rfl, .ref l, rfl, l, _, rfl, .inl (SqL.of hl3), rfl, flat_str xs, _, rfl, ?_⟩
        show if (if true = true then !inV (.str pf) (xs.map V.str) else inV (.str pf) (xs.map V.str)) = true then _ else _
        rw [if_pos rfl, inV_str]
        have hp3 : Pen H3 p c (n + 1 + 8 * (i + 1)) m := p3.mono (by omega)
        by_cases hmem : pf ∈ xs
        · rw [decide_eq_true hmem]
          refine iteF ?_
          exact ⟨xs, _, _, _, rfl, hl3, hx, by omega, bH3, hp3⟩
        · rw [decide_eq_false hmem]
          refine iteT ?_
          refine ⟨.ref l, rfl, .inl ⟨rfl, _, SqL.of hl3⟩, .str pf, rfl, l, _, _, rfl, rfl, hl3, ?_, ?_⟩
          · exact Nat.lt_of_le_of_lt (show (xs.map V.str).length ≤ 1000 by rw [List.length_map]; omega) (by decide)
          · refine ⟨xs ++ [pf], _, _, _, rfl, by rw [upd_same, List.map_append]; rfl, ⟨?_, ?_, ?_⟩, by rw [List.length_append, List.length_singleton]; omega, ?_, hp3.off lp lc⟩
            · rw [List.nodup_append]
              refine ⟨hx.nd, (List.nodup_cons.mpr ⟨List.not_mem_nil, List.nodup_nil⟩), fun a ha b hb e => hmem ?_⟩
              rw [List.mem_singleton.mp hb] at e
              rw [← e]
              exact ha
            · intro y hy
              rcases List.mem_append.mp hy with hy | hy
              · exact hx.bits y hy
              · rw [List.mem_singleton.mp hy]
                exact hb
            · intro y hy
              rcases List.mem_append.mp hy with hy | hy
              · exact hx.len y hy
              · rw [List.mem_singleton.mp hy]
                exact hlz
            · intro a o na ha
              have nal : a ≠ l := ne_of_none ha nl
              rw [upd_ne nal]
              exact bH3 a o na ha
    · rintro σ H' ⟨xs, x4, x5, x6, rfl, hl, hx, hxl, bH, pH⟩
      have hd : d.toNat ≤ most := by omega
      exact ⟨.ref l, rfl, q l xs H' bH (pH.mono (by omega)) nl hl hx (by omega)⟩
end
/-! ### is_whole, is_width -/
def spWhole (K : PySem.W.Frag) : Sp := fun vs H Q _ => ∃ v t, vs = [v] ∧ TyI K H v t ∧ Q (.bl (isWholeV v)) H
def spWidth (K : PySem.W.Frag) : Sp := fun vs H Q _ => ∃ v t, vs = [v] ∧ TyI K H v t ∧ Q (.bl (isWidthV v)) H
section
variable {P : Program} {w : World} {K : PySem.W.Frag} {mg : Str → Option Value} {base : Heap}
theorem scWhole : FnScope ["thing"] ["thing"] (defScope sWhole) := ⟨rfl, rfl, rfl, by decide +kernel, rfl, by decide +kernel, by decide +kernel⟩
theorem ok_whole {f : Addr} {fd : FuncData} {k : Nat} (F : Fun K "is_whole" "is_whole" sWhole f fd) (mi : mg "isinstance" = none) (mn : mg "int" = none) (mb : mg "bool" = none) : FnOk P w K mg base CX0 (k + 1) f fd ["thing"] (spWhole K) := by
  refine F.ok scWhole (fun vs H Q E h => ?_) (fun cdv A outer s H vs Q E hr h => ?_)
  · obtain ⟨v, t, rfl, _⟩ := h
    rfl
  · obtain ⟨v, t, rfl, ty, q⟩ := h
    refine ⟨_, pss_one (ps_ret (pe_and (pe_callB call_isi (by rfl) mi (by decide +kernel) (pa_cons (pv 0) (pa_cons (pe_bltn (v := .ty "int") (by rfl) mn (by decide +kernel) rfl) pa_nil)))
      (pe_one (pe_not (pe_callB call_isi (by rfl) mi (by decide +kernel) (pa_cons (pv 0) (pa_cons (pe_bltn (v := .ty "bool") (by rfl) mb (by decide +kernel) rfl) pa_nil))))))), ?_⟩
    refine ⟨v, rfl, v, .ty "int", .type t, .type "int", _, rfl, .ty _, ty.ty, ty.int, _, rfl, ?_⟩
    have two : Q (.bl (isWholeV v)) H → isIntish v = true → (!isBoolV v) = isWholeV v := fun _ h => by cases v <;> first | rfl | cases h
    cases e : isIntish v with
    | true =>
      refine iteT ⟨v, rfl, v, .ty "bool", .type t, .type "bool", _, rfl, .ty _, ty.ty, ty.bool, _, rfl, ?_⟩
      rw [two q e]
      exact q
    | false =>
      refine iteF ?_
      have e2 : isWholeV v = false := by cases v <;> first | rfl | cases e
      rw [e2] at q
      exact q
theorem scWidth : FnScope ["thing"] ["thing"] (defScope sWidth) := ⟨rfl, rfl, rfl, by decide +kernel, rfl, by decide +kernel, by decide +kernel⟩
theorem ok_width {f fW : Addr} {fd fdW : FuncData} {k : Nat} {tk : Tok} (F : Fun K "is_width" "is_width" sWidth f fd) (GW : FnOk P w K mg base CX0 k fW fdW ["thing"] (spWhole K)) (FW : Fun K "is_whole" "is_whole" sWhole fW fdW) (bW : Binds K fdW ["thing"] []) (gW : mg "is_whole" = some (.ref fW))
    (mW : mg "WIDEST" = some (.int 32 tk)) : FnOk P w K mg base CX0 (k + 1) f fd ["thing"] (spWidth K) := by
  refine F.ok scWidth (fun vs H Q E h => ?_) (fun cdv A outer s H vs Q E hr h => ?_)
  · obtain ⟨v, t, rfl, _⟩ := h
    rfl
  · obtain ⟨v, t, rfl, ty, q⟩ := h
    refine ⟨_, pss_one (ps_ret (pe_and (pe_call GW hr (by rfl) gW FW.kp bW .nil pass0 (pa_cons (pv 0) pa_nil)) (pe_one (pe_chain op_le op_le pe_int (pv 0) (pe_glob (v := .int 32) rfl mW ⟨_, rfl⟩))))), ?_⟩
    refine ⟨v, rfl, v, t, rfl, ty, _, rfl, ?_⟩
    cases v with
    | int z =>
      refine iteT ⟨.int z, rfl, _, _, rfl, rfl, _, rfl, ?_⟩
      have q' : Q (.bl (decide ((1 : Int) ≤ z) && decide (z ≤ 32))) H := q
      by_cases h1 : (1 : Int) ≤ z
      · rw [decide_eq_true h1] at q' ⊢
        rw [Bool.true_and] at q'
        exact iteT ⟨_, _, rfl, rfl, q'⟩
      · rw [decide_eq_false h1] at q' ⊢
        rw [Bool.false_and] at q'
        exact iteF q'
    | _ => exact iteF q
end
/-! ### the class of maps -/
abbrev sInit : Stmt := inClass sCls 0
abbrev sChk : Stmt := inClass sCls 2
abbrev sLongest : Stmt := inClass sCls 8
theorem wr_ : ¬ (("_width" : Str) = "_rows") := by decide +kernel
theorem rw_ : ¬ (("_rows" : Str) = "_width") := by decide +kernel
/-- the attributes of a map -/
def flds (w : Nat) (e : Addr) : List (Str × V) := putF "_rows" (.ref e) (putF "_width" (.int w) [])
theorem flds_w (w : Nat) (e : Addr) : (flds w e).lookup ("_width" : Str) = some (.int w) := by
  unfold flds
  rw [lookup_putF, if_neg wr_, lookup_putF, if_pos rfl]
theorem flds_r (w : Nat) (e : Addr) : (flds w e).lookup ("_rows" : Str) = some (.ref e) := by
  unfold flds
  rw [lookup_putF, if_pos rfl]
theorem flds_no (w : Nat) (e : Addr) {m : Str} (h1 : ¬ m = "_rows") (h2 : ¬ m = "_width") : (flds w e).lookup m = none := by
  unfold flds
  rw [lookup_putF, if_neg h1, lookup_putF, if_neg h2]
  rfl
/-- at x a map of the class at C, its rows at e -/
structure MapAt (C : Addr) (H : Hp) (x e : Addr) (w : Nat) (kvs : List (Key × V)) : Prop where
  ob : ∃ dx, H x = some (.ins C dx (flds w e))
  dc : H e = some (.dK kvs)
theorem MapAt.same {C : Addr} {H H' : Hp} {x e : Addr} {w : Nat} {kvs : List (Key × V)} (k : Same H H') (h : MapAt C H x e w kvs) : MapAt C H' x e w kvs := by
  obtain ⟨⟨dx, h1⟩, h2⟩ := h
  exact ⟨⟨dx, k _ _ h1⟩, k _ _ h2⟩
theorem MapAt.but {C : Addr} {H H' : Hp} {p x e : Addr} {w : Nat} {kvs : List (Key × V)} (k : But p H H') (n1 : x ≠ p) (n2 : e ≠ p) (h : MapAt C H x e w kvs) : MapAt C H' x e w kvs := by
  obtain ⟨⟨dx, h1⟩, h2⟩ := h
  exact ⟨⟨dx, k _ _ n1 h1⟩, k _ _ n2 h2⟩
/-- the same rows, in ascending order -/
structure Sorted (xs : List Str) (kvs kvs' : List (Key × V)) (ys : List Str) : Prop where
  keys : kvs'.map (·.1) = ys.map Sum.inr
  perm : ys.Perm xs
  up : sortedS ys = true
  val : ∀ y ∈ xs, valV kvs' (.inr y) = valV kvs (.inr y)
structure ClsF (K : PySem.W.Frag) (C : Addr) : Prop where
  cl : Cls K C
  nW : NoAttr K C "_width"
  nR : NoAttr K C "_rows"
/-- _checked of a value of the right kind: the value -/
def spChk (K : PySem.W.Frag) (C : Addr) (vok : V → Prop) : Sp := fun vs H Q _ => ∃ (x dx : Addr) (fs : List (Str × V)) (v : V), vs = [.ref x, v] ∧ H x = some (.ins C dx fs) ∧ (∀ m : Str, ¬ m = "_width" → fs.lookup m = none) ∧ vok v ∧ Q v H
def spInit (K : PySem.W.Frag) (C : Addr) (vok : V → Prop) : Sp := fun vs H Q _ => ∃ (x dx d : Addr) (w : Nat) (xs : List Str) (kvs : List (Key × V)), vs = [.ref x, .int w, .ref d] ∧ H x = some (.ins C dx []) ∧ 1 ≤ w ∧ w ≤ 32 ∧ H d = some (.dK kvs) ∧ RowsOk w vok xs kvs ∧ xs.length < 64 ∧
  ∀ (e : Addr) (ys : List Str) (kvs' : List (Key × V)) (H' : Hp), H e = none → Sorted xs kvs kvs' ys → MapAt C H' x e w kvs' → (∀ b o, H b = some o → b ≠ x → H' b = some o) → Q .non H'
def spLongest (K : PySem.W.Frag) (C : Addr) : Sp := fun vs H Q _ => ∃ (x e : Addr) (w : Nat) (xs : List Str) (kvs : List (Key × V)) (y : Str), vs = [.ref x, .str y] ∧ MapAt C H x e w kvs ∧ kvs.map (·.1) = xs.map Sum.inr ∧ isBits y = true ∧ y.length ≤ w ∧ w ≤ 32 ∧
  ∀ r : Option Str, IsLong xs y r → Q (optV r) H
section
variable {P : Program} {w : World} {K : PySem.W.Frag} {mg : Str → Option Value} {base : Heap}
theorem scChk : FnScope ["self", "value"] ["self", "value"] (defScope sChk) := ⟨rfl, rfl, rfl, by decide +kernel, rfl, by decide +kernel, by decide +kernel⟩
theorem ok_chk {f fW C : Addr} {fd fdW : FuncData} {k : Nat} (F : Fun K "_checked" "PrefixMap._checked" sChk f fd) (GW : FnOk P w K mg base CX0 k fW fdW ["thing"] (spWhole K)) (FW : Fun K "is_whole" "is_whole" sWhole fW fdW) (bW : Binds K fdW ["thing"] []) (gW : mg "is_whole" = some (.ref fW)) :
    FnOk P w K mg base CX0 (k + 1) f fd ["self", "value"] (spChk K C isIntV) := by
  refine F.ok scChk (fun vs H Q E h => ?_) (fun cdv A outer s H vs Q E hr h => ?_)
  · obtain ⟨x, dx, fs, v, rfl, _⟩ := h
    rfl
  · obtain ⟨x, dx, fs, v, rfl, hx, _, hv, q⟩ := h
    refine ⟨_, pss_cons (ps_if (pt_not (pt_val (pe_call GW hr (by rfl) gW FW.kp bW .nil pass0 (pa_cons (pv 1) pa_nil)))) (pss_one ps_never) pss_nil) (pss_one (ps_ret (pv 1))), ?_⟩
    cases v with
    | int i =>
      obtain ⟨t, ht⟩ := TyI.of (K := K) (H := H) (N := fun _ => True) (.int i)
      exact ⟨.int i, rfl, .int i, t, rfl, ht, _, rfl, iteF ⟨.int i, rfl, q⟩⟩
    | _ => exact hv.elim
theorem scInit : FnScope ["self", "width", "rows", "prefix"] ["self", "width", "rows"] (defScope sInit) := ⟨rfl, rfl, rfl, by decide +kernel, rfl, by decide +kernel, by decide +kernel⟩
theorem ok_init {f fW fP fC C : Addr} {fd fdW fdP fdC : FuncData} {k : Nat} {vok : V → Prop} (F : Fun K "__init__" "PrefixMap.__init__" sInit f fd) (T : ClsF K C) (GW : FnOk P w K mg base CX0 k fW fdW ["thing"] (spWidth K)) (FW : Fun K "is_width" "is_width" sWidth fW fdW) (bW : Binds K fdW ["thing"] []) (gW : mg "is_width" = some (.ref fW))
    (GP : FnOk P w K mg base CX0 k fP fdP ["thing", "width"] (spPfx K)) (FP : Fun K "is_prefix" "is_prefix" sPfx fP fdP) (bP : Binds K fdP ["thing", "width"] []) (gP : mg "is_prefix" = some (.ref fP))
    (GC : FnOk P w K mg base CX0 k fC fdC ["self", "value"] (spChk K C vok)) (mC : Meth K C "_checked" fC) (bC : Binds K fdC ["self", "value"] []) (mi : mg "isinstance" = none) (md : mg "dict" = none) (ms : mg "sorted" = none) :
    FnOk P w K mg base CX0 (k + 1) f fd ["self", "width", "rows"] (spInit K C vok) := by
  refine F.ok scInit (fun vs H Q E h => ?_) (fun cdv A outer s H vs Q E hr h => ?_)
  · obtain ⟨x, dx, d, w, xs, kvs, rfl, _⟩ := h
    rfl
  · obtain ⟨x, dx, d, w, xs, kvs, rfl, hx, w1, w32, hd, ok, h64, q⟩ := h
    have nd := scInit.nd
    have hu := hu_of hr
    refine ⟨_, pss_cons (ps_if (pt_not (pt_val (pe_call GW hr (by rfl) gW FW.kp bW .nil pass0 (pa_cons (pv 1) pa_nil)))) (pss_one ps_never) pss_nil)
      (pss_cons (ps_if (pt_not (pt_val (pe_callB call_isi (by rfl) mi (by decide +kernel) (pa_cons (pv 2) (pa_cons (pe_bltn (v := .ty "dict") (by rfl) md (by decide +kernel) rfl) pa_nil))))) (pss_one ps_never) pss_nil)
      (pss_cons (ps_lock (ps_for PassesOwn.never rfl (pi_keys (pv 2)) (pg_name (i := 3) nd rfl (.inl rfl))
        (pss_one (ps_if (pt_not (pt_val (pe_call GP hr (by rfl) gP FP.kp bP .nil pass0 (pa_cons (pv 3) (pa_cons (pv 1) pa_nil))))) (pss_one ps_never) pss_nil))))
      (pss_cons (ps_fld (pv 0) (pv 1) rfl)
      (pss_one (ps_fld (pv 0) (pe_dc (own := [("prefix", 3)]) (g := gName 3) (tt := tYes) rfl nd (pi_list (pe_callB (call_sortedD rfl) (by rfl) ms (by decide +kernel) (pa_cons (pv 2) pa_nil)))
        (blkOk_by (N := ["self", "width", "rows", "prefix"]) (sc := defScope sInit) (by decide +kernel)) (fun _ _ _ _ _ => pg_name (i := 3) nd rfl (.inl rfl)) (fun _ _ _ _ _ => pts_nil) (fun _ _ _ _ _ => pv 3)
        (fun _ _ _ _ _ => pe_meth (pv 0) T.cl mC GC hr bC .nil pass0 (pa_cons (pe_dget hu (pv 2) (pv 3) (fun _ _ => rfl)) pa_nil))) rfl))))), ?_⟩
    -- the width
    obtain ⟨t, ht⟩ := TyI.of (K := K) (H := H) (N := fun _ => True) (.int (w : Int))
    refine ⟨.int w, rfl, .int w, t, rfl, ht, _, rfl, ?_⟩
    have hw : isWidthV (.int (w : Int)) = true := by
      show (decide ((1 : Int) ≤ w) && decide ((w : Int) ≤ 32)) = true
      rw [decide_eq_true (by omega), decide_eq_true (by omega)]
      rfl
    rw [hw]
    refine iteF ?_
    -- a dict
    refine ⟨.ref d, rfl, .ref d, .ty "dict", .type "dict", .type "dict", _, rfl, .ty _, .base (.dK hd), kitv (b := true) (by decide +kernel), _, rfl, iteF ?_⟩
    -- its prefixes
    refine ⟨d, .dK kvs, hd, trivial, fun od => ?_⟩
    refine ⟨.ref d, rfl, d, od, rfl, .inl ⟨kvs, upd_same, ?_⟩⟩
    refine for_it walk_keys (fun _ σ H' => (∃ x3, σ = [some (.ref x), some (.int w), some (.ref d), x3]) ∧ H' = upd H d (.frz od (.dK kvs))) ⟨⟨_, rfl⟩, rfl⟩ (fun _ _ _ _ h => by rw [h.2, upd_same]) ?_ ?_
    · rintro i v σ H1 H2 hi ⟨⟨x3, rfl⟩, rfl⟩ ⟨rfl, k, v', hkv, rfl⟩
      obtain ⟨y, hy, rfl⟩ := key_at ok.keys hkv
      have hym := List.mem_of_getElem? hy
      refine ⟨.str y, rfl, .int w, rfl, .str y, w, rfl, TyS.of (N := fun _ => True) (.str y), fun z e => ?_, _, rfl, ?_⟩
      · rw [← V.str.inj e]
        exact Nat.le_trans (ok.pfx.len y hym) (Nat.le_trans w32 (by decide))
      have e : isPfx (.str y) (w : Int) = true := by
        show (decide ((y.length : Int) ≤ w) && isBits y) = true
        rw [decide_eq_true (by have := ok.pfx.len y hym; omega), ok.pfx.bits y hym]
        rfl
      rw [e]
      exact iteF ⟨⟨_, rfl⟩, rfl⟩
    · rintro σ H1 ⟨⟨x3, rfl⟩, rfl⟩
      refine ⟨upd_same, ?_⟩
      rw [upd_back hd]
      -- the attributes
      refine ⟨.int w, rfl, .ref x, rfl, x, C, dx, [], rfl, hx, T.cl, T.nW, (by show 0 < 1000; decide), ?_⟩
      have ndx : d ≠ x := ne_of hd hx (fun e => nomatch e)
      have hdW : (upd H x (.ins C dx (putF "_width" (.int w) []))) d = some (.dK kvs) := by rw [upd_ne ndx]; exact hd
      refine ⟨.ref d, rfl, d, kvs, xs, rfl, .inl hdW, ok.keys, h64, fun ys l hperm hup nl => ?_⟩
      have hll : (upd (upd H x (.ins C dx (putF "_width" (.int w) []))) l (.lst (ys.map V.str))) l = some (.lst (ys.map V.str)) := upd_same
      have s1 := same_upd (o := .lst (ys.map V.str)) nl
      have hx1 := s1 _ _ (upd_same (H := H) (a := x) (o := .ins C dx (putF "_width" (.int w) [])))
      have hd1 := s1 _ _ hdW
      have old1 : ∀ b o, H b = some o → b ≠ x → (upd (upd H x (.ins C dx (putF "_width" (.int w) []))) l (.lst (ys.map V.str))) b = some o := fun b o e nb => s1 b o (by rw [upd_ne nb]; exact e)
      revert hll hx1 hd1 old1
      generalize upd (upd H x (.ins C dx (putF "_width" (.int w) []))) l (.lst (ys.map V.str)) = H2
      intro hll hx1 hd1 old1
      refine ⟨l, rfl, ⟨_, SqL.of hll⟩, fun G nG => ?_⟩
      have nxG : x ≠ G := ne_of_none hx1 nG
      have ndG : d ≠ G := ne_of_none hd1 nG
      have kn : (kvs.map (·.1)).Nodup := by
        rw [ok.keys]
        exact ok.pfx.nd.map Sum.inr (fun a b h e => h (Sum.inr.inj e))
      refine dc_it walk_list (fun i H' => ∃ kvs', H' G = some (.dK kvs') ∧ kvs'.map (·.1) = (ys.take i).map Sum.inr ∧ (∀ y v, (Sum.inr y, v) ∈ kvs' → valV kvs (.inr y) = some v) ∧ ∀ b o, H2 b = some o → H' b = some o) ⟨[], upd_same, rfl, fun _ _ h => (List.not_mem_nil h).elim, fun b o e => by rw [upd_ne (ne_of_none e nG)]; exact e⟩
        (fun _ H' _ h => by obtain ⟨_, _, _, _, k⟩ := h; exact SqL.of (k _ _ hll)) ?_ ?_
      · rintro i v H3 H4 hi ⟨kvs', hG, hk, hv, keep⟩ ⟨rfl, hvi⟩
        rw [List.getElem?_map] at hvi
        have hil : i < ys.length := by
          rw [List.length_map] at hi
          exact hi
        rw [List.getElem?_eq_getElem hil] at hvi
        obtain rfl : V.str ys[i] = v := Option.some.inj hvi
        have hym : ys[i] ∈ xs := hperm.mem_iff.mp (List.getElem_mem hil)
        refine ⟨rfl, yes_if ?_⟩
        have hkm : (Sum.inr ys[i] : Key) ∈ kvs.map (·.1) := (inr_mem ok.keys _).mpr hym
        obtain ⟨v, hval⟩ := Option.isSome_iff_exists.mp (valV_mem.mpr hkm)
        have hmem : (Sum.inr ys[i], v) ∈ kvs := by
          unfold valV at hval
          obtain ⟨p, hp, e⟩ := Option.map_eq_some_iff.mp hval
          have h1 := List.mem_of_find?_eq_some hp
          have h2 : p.1 = Sum.inr ys[i] := by
            have z := List.find?_some hp
            exact of_decide_eq_true z
          rw [← h2, ← e]
          exact h1
        refine ⟨.str ys[i], rfl, .ref x, rfl, x, dx, _, rfl, keep _ _ hx1, ?_, .ref d, rfl, .str ys[i], rfl, d, v, rfl, by rw [← hval]; exact DGet.k (k := .inr ys[i]) (keep _ _ hd1), ?_⟩
        · rw [lookup_putF, if_neg (by decide +kernel)]
          rfl
        refine ⟨x, dx, _, v, rfl, keep _ _ hx1, fun m nm => by rw [lookup_putF, if_neg nm]; rfl, ok.val _ hmem, kvs', .inr ys[i], rfl, hG, ?_, ?_⟩
        · have : kvs'.length = ((ys.take i).map Sum.inr : List Key).length := by rw [← hk, List.length_map]
          rw [List.length_map, List.length_take] at this
          have hp := hperm.length_eq
          exact Nat.lt_of_le_of_lt (show kvs'.length ≤ 1000 by omega) (by decide)
        have hnew : (Sum.inr ys[i] : Key) ∉ kvs'.map (·.1) := by
          rw [hk, List.mem_map]
          rintro ⟨z, hz, e⟩
          have ynd : ys.Nodup := hperm.nodup_iff.mpr ok.pfx.nd
          obtain ⟨j, hj, ej⟩ := List.mem_take_iff_getElem.mp hz
          have e2 : ys[j]'(by omega) = ys[i] := by rw [ej]; exact Sum.inr.inj e
          have := (List.getElem_inj ynd).mp e2
          omega
        refine ⟨kvs' ++ [(.inr ys[i], v)], by rw [upd_same, putK_end hnew], ?_, ?_, ?_⟩
        · rw [List.map_append, hk, List.take_add_one, List.getElem?_eq_getElem hil, List.map_append]
          rfl
        · intro y v' hm
          rcases List.mem_append.mp hm with hm | hm
          · exact hv y v' hm
          · obtain e := List.mem_singleton.mp hm
            cases e
            exact hval
        · intro b o e
          rw [upd_ne (ne_of_none e nG)]
          exact keep b o e
      · rintro H3 ⟨kvs', hG, hk, hv, keep⟩
        have etake : ys.take (ys.map V.str).length = ys := List.take_of_length_le (by rw [List.length_map]; exact Nat.le_refl _)
        rw [etake] at hk
        refine ⟨.ref x, rfl, x, C, dx, _, rfl, keep _ _ hx1, T.cl, T.nR, (by show 1 < 1000; decide), ?_⟩
        have ynd : ys.Nodup := hperm.nodup_iff.mpr ok.pfx.nd
        have kn' : (kvs'.map (·.1)).Nodup := by
          rw [hk]
          exact ynd.map Sum.inr (fun a b h e => h (Sum.inr.inj e))
        have hH : ∀ b, H2 b = none → H b = none := fun b hb => by
          cases e : H b with
          | none => rfl
          | some o =>
            by_cases hbx : b = x
            · rw [hbx, hx1] at hb
              cases hb
            · rw [old1 b o e hbx] at hb
              cases hb
        refine q G ys kvs' _ (hH G nG) ⟨hk, hperm, hup, fun y hy => ?_⟩ ⟨⟨dx, upd_same⟩, by rw [upd_ne nxG.symm]; exact hG⟩ fun b o e nb => by rw [upd_ne nb]; exact keep b o (old1 b o e nb)
        have hm : (Sum.inr y : Key) ∈ kvs'.map (·.1) := (inr_mem hk _).mpr (hperm.mem_iff.mpr hy)
        obtain ⟨p, hp, e⟩ := List.mem_map.mp hm
        obtain ⟨k', v⟩ := p
        have e' : k' = Sum.inr y := e
        subst e'
        rw [valV_some kn' hp, hv y v hp]
end
section
variable {P : Program} {w : World} {K : PySem.W.Frag} {mg : Str → Option Value} {base : Heap}
theorem scLongest : FnScope ["self", "prefix", "length"] ["self", "prefix"] (defScope sLongest) := ⟨rfl, rfl, rfl, by decide +kernel, rfl, by decide +kernel, by decide +kernel⟩
theorem ok_longest {f fP C : Addr} {fd fdP : FuncData} {k : Nat} (F : Fun K "longest" "PrefixMap.longest" sLongest f fd) (T : ClsF K C) (GP : FnOk P w K mg base CX0 k fP fdP ["thing", "width"] (spPfx K)) (FP : Fun K "is_prefix" "is_prefix" sPfx fP fdP) (bP : Binds K fdP ["thing", "width"] []) (gP : mg "is_prefix" = some (.ref fP))
    (mr : mg "range" = none) (ml : mg "len" = none) : FnOk P w K mg base CX0 (k + 1) f fd ["self", "prefix"] (spLongest K C) := by
  refine F.ok scLongest (fun vs H Q E h => ?_) (fun cdv A outer s H vs Q E hr h => ?_)
  · obtain ⟨x, e, w, xs, kvs, y, rfl, _⟩ := h
    rfl
  · obtain ⟨x, e, w, xs, kvs, y, rfl, ⟨⟨dx, hx⟩, he⟩, hk, hb, hyw, hw32, q⟩ := h
    have nd := scLongest.nd
    have hu := hu_of hr
    have hyl : y.length ≤ sizeLine := Nat.le_trans hyw (Nat.le_trans hw32 (by decide))
    refine ⟨_, pss_cons (ps_if (pt_not (pt_val (pe_call GP hr (by rfl) gP FP.kp bP .nil pass0 (pa_cons (pv 1) (pa_cons (pe_fld (pv 0) rfl) pa_nil))))) (pss_one ps_never) pss_nil)
      (pss_cons (ps_for PassesOwn.never rfl (pi_range3 rfl mr (pa_cons (pe_callB call_len_str (by rfl) ml PySem.boot_len (pa_cons (pv 1) pa_nil)) (pa_cons (pe_un un_neg pe_int) (pa_cons (pe_un un_neg pe_int) pa_nil)))) (pg_name (i := 2) nd rfl (.inl rfl))
        (pss_one (ps_if (pt_cmp (pc_din hu (pe_slice sl_str (pv 1) po_none (po_some (pv 2))) (pe_fld (pv 0) rfl))) (pss_one (ps_ret (pe_slice sl_str (pv 1) po_none (po_some (pv 2))))) pss_nil)))
      (pss_one (ps_ret pe_non))), ?_⟩
    refine ⟨.str y, rfl, .ref x, rfl, x, C, dx, _, _, rfl, hx, T.cl, T.nW, flds_w _ _, .str y, w, rfl, TyS.of (N := fun _ => True) (.str y), fun z e => by rw [← V.str.inj e]; exact hyl, _, rfl, ?_⟩
    have ep : isPfx (.str y) (w : Int) = true := by
      show (decide ((y.length : Int) ≤ w) && isBits y) = true
      rw [decide_eq_true (by omega), hb]
      rfl
    rw [ep]
    refine iteF ?_
    refine ⟨.str y, rfl, y, rfl, hyl, 1, rfl, 1, rfl, (y.length : Int), -1, -1, ((y.length : Int) - -1).toNat, rfl, RgC.neg (by omega) (by omega) (by decide) (by decide), ?_⟩
    refine for_rangeC (lo := (y.length : Int)) (c := -1) (n := ((y.length : Int) - -1).toNat) (fun i σ H' => (∃ x2, σ = [some (.ref x), some (.str y), x2]) ∧ H' = H ∧ ∀ z ∈ xs, Pre z y → z.length + i ≤ y.length) ⟨⟨_, rfl⟩, rfl, fun z _ h => by have := pre_len h; omega⟩ ?_ ?_
    · rintro i σ H' hi ⟨⟨x2, rfl⟩, rfl, hno⟩
      obtain ⟨kk, hkk⟩ : ∃ kk : Nat, (y.length : Int) + (i : Nat) * -1 = (kk : Int) ∧ kk + i = y.length := ⟨y.length - i, by omega, by omega⟩
      obtain ⟨ek, ekl⟩ := hkk
      rw [ek]
      refine ⟨.str y, rfl, .int kk, rfl, kk, rfl, y, rfl, hyl, .ref x, rfl, x, C, dx, _, _, rfl, hx, T.cl, T.nR, flds_r _ _, e, _, rfl, DGet.k (k := .inr (cutS y none (some (kk : Int)))) he, _, rfl, ?_⟩
      have hlen : (cutS y none (some (kk : Int))).length = kk := by
        rw [← sg_len, sg_take, List.length_take, sg_len]
        omega
      cases hin : (valV kvs (.inr (cutS y none (some (kk : Int))))).isSome with
      | true =>
        refine iteT ⟨.str y, rfl, .int kk, rfl, kk, rfl, y, rfl, hyl, ?_⟩
        have hm := (inr_mem hk _).mp (valV_mem.mp hin)
        refine q (some _) ⟨hm, pre_take y kk, fun z hz hp => ?_⟩
        have := hno z hz hp
        omega
      | false =>
        refine iteF ⟨⟨_, rfl⟩, rfl, fun z hz hp => ?_⟩
        have h1 := hno z hz hp
        by_cases hzk : z.length = kk
        · exfalso
          have e2 := pre_eq hp
          rw [hzk] at e2
          have h3 : (valV kvs (.inr (cutS y none (some (kk : Int))))).isSome = true := valV_mem.mpr ((inr_mem hk _).mpr (by rw [← e2]; exact hz))
          rw [hin] at h3
          cases h3
        · omega
    · rintro σ H' ⟨⟨x2, rfl⟩, rfl, hno⟩
      refine q none fun z hz hp => ?_
      have h1 := hno z hz hp
      omega
end
/-! ### tables -/
abbrev sTInit : Stmt := inClass sTab 0
abbrev sTgt : Stmt := inClass sTab 2
abbrev sTChk : Stmt := inClass sTab 3
abbrev sLook : Stmt := inClass sTab 5
abbrev sRows : Stmt := inClass sCls 4
abbrev letters : Str := "abcdefghijklmnopqrstuvwxyz"
/-- is_target -/
def isTgt (v : V) : Bool := match v with
  | .str x => decide ((1 : Int) ≤ x.length) && decide ((x.length : Int) ≤ 8) && onlyOf letters x
  | _ => false
def isTgtV (v : V) : Prop := isTgt v = true
def spTgt (K : PySem.W.Frag) : Sp := fun vs H Q _ => ∃ v : V, vs = [v] ∧ TyS K H v ∧ (∀ x, v = .str x → x.length ≤ sizeLine) ∧ Q (.bl (isTgt v)) H
def spAdr (K : PySem.W.Frag) : Sp := fun vs H Q _ => ∃ (x : Str) (w : Int), vs = [.str x, .int w] ∧ TyS K H (.str x) ∧ x.length ≤ sizeLine ∧ Q (.bl (isPfx (.str x) w && decide ((x.length : Int) = w))) H
/-- where a longest prefix leads -/
def leadV (kvs : List (Key × V)) (r : Option Str) : V := match r with
  | none => .non
  | some z => (valV kvs (.inr z)).getD .non
def spLook (K : PySem.W.Frag) (C : Addr) : Sp := fun vs H Q _ => ∃ (x e : Addr) (w : Nat) (xs : List Str) (kvs : List (Key × V)) (y : Str), vs = [.ref x, .str y] ∧ MapAt C H x e w kvs ∧ kvs.map (·.1) = xs.map Sum.inr ∧ isBits y = true ∧ y.length = w ∧ w ≤ 32 ∧
  ∀ r : Option Str, IsLong xs y r → Q (leadV kvs r) H
def spRows (C : Addr) : Sp := fun vs H Q _ => ∃ (x e : Addr) (w : Nat) (kvs : List (Key × V)), vs = [.ref x] ∧ MapAt C H x e w kvs ∧ ∀ d, H d = none → Q (.ref d) (upd H d (.dK kvs))
section
variable {P : Program} {w : World} {K : PySem.W.Frag} {mg : Str → Option Value} {base : Heap}
theorem scAdr : FnScope ["thing", "width"] ["thing", "width"] (defScope sAdr) := ⟨rfl, rfl, rfl, by decide +kernel, rfl, by decide +kernel, by decide +kernel⟩
theorem ok_adr {f fP : Addr} {fd fdP : FuncData} {k : Nat} (F : Fun K "is_address" "is_address" sAdr f fd) (GP : FnOk P w K mg base CX0 k fP fdP ["thing", "width"] (spPfx K)) (FP : Fun K "is_prefix" "is_prefix" sPfx fP fdP) (bP : Binds K fdP ["thing", "width"] []) (gP : mg "is_prefix" = some (.ref fP))
    (ml : mg "len" = none) : FnOk P w K mg base CX0 (k + 1) f fd ["thing", "width"] (spAdr K) := by
  refine F.ok scAdr (fun vs H Q E h => ?_) (fun cdv A outer s H vs Q E hr h => ?_)
  · obtain ⟨x, w, rfl, _⟩ := h
    rfl
  · obtain ⟨x, w, rfl, ty, hl, q⟩ := h
    refine ⟨_, pss_one (ps_ret (pe_and (pe_call GP hr (by rfl) gP FP.kp bP .nil pass0 (pa_cons (pv 0) (pa_cons (pv 1) pa_nil)))
      (pe_one (pe_cmpR op_eq (pe_callB call_len_str (by rfl) ml PySem.boot_len (pa_cons (pv 0) pa_nil)) (pv 1) (nomark _))))), ?_⟩
    refine ⟨.str x, rfl, .int w, rfl, .str x, w, rfl, ty, fun z e => by rw [← V.str.inj e]; exact hl, _, rfl, ?_⟩
    cases e : isPfx (.str x) w with
    | true =>
      rw [e, Bool.true_and] at q
      refine iteT ⟨.str x, rfl, x, rfl, hl, .int w, rfl, rfl, ?_⟩
      rw [dec_int]
      exact q
    | false =>
      rw [e, Bool.false_and] at q
      exact iteF q
theorem scTgt : FnScope ["thing"] ["thing"] (defScope sTgt) := ⟨rfl, rfl, rfl, by decide +kernel, rfl, by decide +kernel, by decide +kernel⟩
theorem ok_tgt {f fH : Addr} {fd fdH : FuncData} {k : Nat} {t1 t2 : Tok} (F : Fun K "is_target" "Table.is_target" sTgt f fd) (FH : Fun K "has_only" "has_only" sHas fH fdH) (bH : Binds K fdH ["text", "signs"] []) (gH : mg "has_only" = some (.ref fH))
    (mi : mg "isinstance" = none) (ms : mg "str" = none) (ml : mg "len" = none) (m8 : mg "LONGEST_TARGET" = some (.int 8 t1)) (mL : mg "LETTERS" = some (.str letters t2)) : FnOk P w K mg base CX0 (k + 2) f fd ["thing"] (spTgt K) := by
  have GH : FnOk P w K mg base CX0 (k + 1) fH fdH ["text", "signs"] spHas := ok_has FH
  refine F.ok scTgt (fun vs H Q E h => ?_) (fun cdv A outer s H vs Q E hr h => ?_)
  · obtain ⟨v, rfl, _⟩ := h
    rfl
  · obtain ⟨v, rfl, ⟨t, ty, kt⟩, hl, q⟩ := h
    refine ⟨_, pss_one (ps_ret (pe_and (pe_callB call_isi (by rfl) mi (by decide +kernel) (pa_cons (pv 0) (pa_cons (pe_bltn (v := .ty "str") (by rfl) ms (by decide +kernel) rfl) pa_nil)))
      (pe_and (pe_chain op_le op_le pe_int (pe_callB call_len_str (by rfl) ml PySem.boot_len (pa_cons (pv 0) pa_nil)) (pe_glob (v := .int 8) rfl m8 ⟨_, rfl⟩))
        (pe_one (pe_call GH hr (by rfl) gH FH.kp bH .nil pass0 (pa_cons (pv 0) (pa_cons (pe_glob (v := .str letters) rfl mL ⟨_, rfl⟩) pa_nil))))))), ?_⟩
    refine ⟨v, rfl, v, .ty "str", .type t, .type "str", _, rfl, .ty _, ty, kt, _, rfl, ?_⟩
    cases v with
    | str x =>
      have hx := hl x rfl
      have q' : Q (.bl (decide ((1 : Int) ≤ x.length) && decide ((x.length : Int) ≤ 8) && onlyOf letters x)) H := q
      refine iteT ⟨.str x, rfl, x, rfl, hx, _, _, rfl, rfl, _, rfl, ?_⟩
      by_cases h1 : (1 : Int) ≤ x.length
      · rw [decide_eq_true h1] at q' ⊢
        refine iteT ⟨_, _, rfl, rfl, _, rfl, ?_⟩
        by_cases h2 : (x.length : Int) ≤ 8
        · rw [decide_eq_true h2] at q' ⊢
          exact iteT ⟨.str x, rfl, x, _, rfl, hx, q'⟩
        · rw [decide_eq_false h2] at q' ⊢
          exact iteF q'
      · rw [decide_eq_false h1] at q' ⊢
        exact iteF (by first | exact q' | exact ⟨_, rfl, iteF q'⟩)
    | _ => exact iteF q
theorem scTChk : FnScope ["self", "value"] ["self", "value"] (defScope sTChk) := ⟨rfl, rfl, rfl, by decide +kernel, rfl, by decide +kernel, by decide +kernel⟩
theorem tgt_str {v : V} (h : isTgtV v) : ∃ x, v = .str x ∧ x.length ≤ 8 ∧ 1 ≤ x.length ∧ onlyOf letters x = true := by
  unfold isTgtV isTgt at h
  cases v with
  | str x =>
    dsimp only at h
    rw [Bool.and_eq_true, Bool.and_eq_true, decide_eq_true_iff, decide_eq_true_iff] at h
    exact ⟨x, rfl, by omega, by omega, h.2⟩
  | _ => cases h
theorem ok_tchk {f p g C : Addr} {fd fdT : FuncData} {k : Nat} (F : Fun K "_checked" "Table._checked" sTChk f fd) (T : ClsF K C) (ST : SMeth K C "is_target" p g) (GT : FnOk P w K mg base CX0 k g fdT ["thing"] (spTgt K)) (bT : Binds K fdT ["thing"] []) :
    FnOk P w K mg base CX0 (k + 1) f fd ["self", "value"] (spChk K C isTgtV) := by
  refine F.ok scTChk (fun vs H Q E h => ?_) (fun cdv A outer s H vs Q E hr h => ?_)
  · obtain ⟨x, dx, fs, v, rfl, _⟩ := h
    rfl
  · obtain ⟨x, dx, fs, v, rfl, hx, hfs, hv, q⟩ := h
    refine ⟨_, pss_cons (ps_if (pt_not (pt_val (pe_stat (pv 0) T.cl ST GT hr bT (pa_cons (pv 1) pa_nil)))) (pss_one ps_never) pss_nil) (pss_one (ps_ret (pv 1))), ?_⟩
    obtain ⟨y, rfl, hy, _⟩ := tgt_str hv
    refine ⟨.ref x, rfl, x, dx, fs, rfl, hx, hfs _ (by decide +kernel), .str y, rfl, .str y, rfl, TyS.of (N := fun _ => True) (.str y), fun z e => by rw [← V.str.inj e]; exact big_of (by omega), _, rfl, ?_⟩
    rw [show isTgt (.str y) = true from hv]
    exact iteF ⟨.str y, rfl, q⟩
theorem scTInit : ScS ["self", "width", "rows"] (defScope sTInit) := ⟨rfl, rfl, rfl, by decide +kernel, by decide +kernel, by decide +kernel, by decide +kernel, by decide +kernel, by decide +kernel⟩
/-- __init__ of a table is that of its base -/
theorem ok_tinit {f f2 C D : Addr} {fd fd2 : FuncData} {k : Nat} {file : Str} (F : FunS K file "__init__" "Table.__init__" sTInit f D fd) (G2 : FnOk P w K mg base CX0 k f2 fd2 ["self", "width", "rows"] (spInit K C isTgtV)) (b2 : Binds K fd2 ["self", "width", "rows"] []) (fi : PySem.W.fnIn K f2 = true)
    (ty : PySem.W.typeIn K (.ref f2) = some (.type "function")) (hcd : ∃ cdD, PySem.W.clsIn K D = some cdD) (hsub : PySem.W.mroIn K C (.ref D) = some true) (hm : PySem.W.ks_superIn K C D "__init__" = some (some (.ref f2))) (hop : PySem.W.nsIn K cStatics "thirdparty.any" = some none) (hsu : mg "super" = none)
    (hfile : ((P.main.file : Str) == file) = true) (htop : (P.main.scope.names.lookup ("super" : Str)).isSome = false) : FnOk P w K mg base CX0 (k + 1) f fd ["self", "width", "rows"] (spInit K C isTgtV) := by
  refine ok_super (self := "self") F scTInit ((G2.raw b2 .nil).imp fun vs H Q E h => by rw [List.append_nil]; exact h) fi ty hcd hsub hm hop hsu hfile htop rfl ⟨_, rfl, rfl⟩ rfl (by decide +kernel) (fun _ => ⟨_, rfl⟩) (fun _ => rfl) (fun _ => rfl) (fun _ => rfl) (fun vs H Q E h => ?_) (fun h => h) (fun A cda cc outer s H vs Q hr h => ?_)
  · obtain ⟨x, dx, d, w, xs, kvs, rfl, _⟩ := h
    rfl
  · obtain ⟨x, dx, d, w, xs, kvs, rfl, hx, w1, w32, hd, ok, h64, q⟩ := h
    refine ⟨x, dx, _, _, _, rfl, hx, pa_cons (pv 1) (pa_cons (pv 2) pa_nil), pss_nil, ?_⟩
    exact ⟨.int w, rfl, .ref d, rfl, x, dx, d, w, xs, kvs, rfl, hx, w1, w32, hd, ok, h64, q⟩
theorem scLook : FnScope ["self", "address", "prefix"] ["self", "address"] (defScope sLook) := ⟨rfl, rfl, rfl, by decide +kernel, rfl, by decide +kernel, by decide +kernel⟩
theorem ok_look {f fA fL C : Addr} {fd fdA fdL : FuncData} {k : Nat} (F : Fun K "lookup" "Table.lookup" sLook f fd) (T : ClsF K C) (GA : FnOk P w K mg base CX0 k fA fdA ["thing", "width"] (spAdr K)) (FA : Fun K "is_address" "is_address" sAdr fA fdA) (bA : Binds K fdA ["thing", "width"] []) (gA : mg "is_address" = some (.ref fA))
    (GL : FnOk P w K mg base CX0 k fL fdL ["self", "prefix"] (spLongest K C)) (mL : Meth K C "longest" fL) (bL : Binds K fdL ["self", "prefix"] []) : FnOk P w K mg base CX0 (k + 1) f fd ["self", "address"] (spLook K C) := by
  refine F.ok scLook (fun vs H Q E h => ?_) (fun cdv A outer s H vs Q E hr h => ?_)
  · obtain ⟨x, e, w, xs, kvs, y, rfl, _⟩ := h
    rfl
  · obtain ⟨x, e, w, xs, kvs, y, rfl, ⟨⟨dx, hx⟩, he⟩, hk, hb, hyw, hw32, q⟩ := h
    have nd := scLook.nd
    have hu := hu_of hr
    refine ⟨_, pss_cons (ps_if (pt_not (pt_val (pe_call GA hr (by rfl) gA FA.kp bA .nil pass0 (pa_cons (pv 1) (pa_cons (pe_fld (pv 0) rfl) pa_nil))))) (pss_one ps_never) pss_nil)
      (pss_cons (ps_set (i := 2) nd rfl (.inl rfl) (pe_meth (pv 0) T.cl mL GL hr bL .nil pass0 (pa_cons (pv 1) pa_nil)))
      (pss_cons (ps_if (pt_cmpR op_isN (pv 2) pe_non (nomark _)) (pss_one (ps_ret pe_non)) pss_nil)
      (pss_one (ps_ret (pe_dget hu (pe_fld (pv 0) rfl) (pv 2) (fun _ _ => rfl)))))), ?_⟩
    refine ⟨.str y, rfl, .ref x, rfl, x, C, dx, _, _, rfl, hx, T.cl, T.nW, flds_w _ _, y, w, rfl, TyS.of (N := fun _ => True) (.str y), big_of (by omega), _, rfl, ?_⟩
    have ep : (isPfx (.str y) (w : Int) && decide ((y.length : Int) = w)) = true := by
      show ((decide ((y.length : Int) ≤ w) && isBits y) && _) = true
      rw [decide_eq_true (by omega), hb, decide_eq_true (by omega)]
      rfl
    rw [ep]
    refine iteF ?_
    refine ⟨.ref x, rfl, x, dx, _, rfl, hx, flds_no _ _ (by decide +kernel) (by decide +kernel), .str y, rfl, x, e, w, xs, kvs, y, rfl, ⟨⟨dx, hx⟩, he⟩, hk, hb, by omega, hw32, fun r hr' => ?_⟩
    refine ⟨_, rfl, rfl, _, rfl, ?_⟩
    cases r with
    | none => exact iteT (q none hr')
    | some z =>
      refine iteF ?_
      have hz : (Sum.inr z : Key) ∈ kvs.map (·.1) := (inr_mem hk z).mpr hr'.1
      obtain ⟨v, hv⟩ := Option.isSome_iff_exists.mp (valV_mem.mpr hz)
      have q' : Q (leadV kvs (some z)) H := q (some z) hr'
      have ev : leadV kvs (some z) = v := by
        show (valV kvs (.inr z)).getD .non = v
        rw [hv]
        rfl
      rw [ev] at q'
      refine ⟨.ref x, rfl, x, C, dx, _, _, rfl, hx, T.cl, T.nR, flds_r _ _, .str z, rfl, e, v, rfl, by rw [← hv]; exact DGet.k (k := .inr z) he, q'⟩
theorem scRows : FnScope ["self"] ["self"] (defScope sRows) := ⟨rfl, rfl, rfl, by decide +kernel, rfl, by decide +kernel, by decide +kernel⟩
theorem ok_rows {f C : Addr} {fd : FuncData} {k : Nat} (F : Fun K "rows" "PrefixMap.rows" sRows f fd) (T : ClsF K C) (md : mg "dict" = none) : FnOk P w K mg base CX0 (k + 1) f fd ["self"] (spRows C) := by
  refine F.ok scRows (fun vs H Q E h => ?_) (fun cdv A outer s H vs Q E hr h => ?_)
  · obtain ⟨x, e, w, kvs, rfl, _⟩ := h
    rfl
  · obtain ⟨x, e, w, kvs, rfl, ⟨⟨dx, hx⟩, he⟩, q⟩ := h
    refine ⟨_, pss_one (ps_ret (pe_callTy call_dictD (by rfl) md (by decide +kernel) (pa_cons (pe_fld (pv 0) rfl) pa_nil))), ?_⟩
    exact ⟨.ref x, rfl, x, C, dx, _, _, rfl, hx, T.cl, T.nR, flds_r _ _, e, kvs, rfl, .inl he, q⟩
end
/-- a target, and not this one -/
def isTgt4 (v : V) : Prop := isTgtV v ∧ v ≠ .str "zz"
theorem tgt4_of {x : Str} (h : isTgt (.str x) = true) (n : x ≠ "zz") : isTgt4 (.str x) := ⟨h, fun e => n (V.str.inj e)⟩
theorem RowsOk.of4 {w : Nat} {xs : List Str} {kvs : List (Key × V)} (h : RowsOk w isTgt4 xs kvs) : RowsOk w isTgtV xs kvs := ⟨h.keys, h.pfx, fun kv hk => (h.val kv hk).1⟩
theorem same_free {H H' : Hp} {a : Addr} (s : Same H H') (h : H' a = none) : H a = none := by
  cases e : H a with
  | none => rfl
  | some o =>
    rw [s _ _ e] at h
    cases h
/-! ### _law_lines, _law_lead -/
abbrev used : List V := [.str "a", .str "ab", .str "b", .str "any"]
theorem used_tgt {i : Nat} (h : i < 4) : ∃ x, used[i]? = some (.str x) ∧ isTgt4 (.str x) ∧ Sm 100 x := by
  have h4 : i = 0 ∨ i = 1 ∨ i = 2 ∨ i = 3 := by omega
  rcases h4 with rfl | rfl | rfl | rfl
  · exact ⟨"a", rfl, tgt4_of (show isTgt (.str "a") = true by decide +kernel) (by decide), ⟨by decide +kernel, by decide +kernel⟩⟩
  · exact ⟨"ab", rfl, tgt4_of (show isTgt (.str "ab") = true by decide +kernel) (by decide), ⟨by decide +kernel, by decide +kernel⟩⟩
  · exact ⟨"b", rfl, tgt4_of (show isTgt (.str "b") = true by decide +kernel) (by decide), ⟨by decide +kernel, by decide +kernel⟩⟩
  · exact ⟨"any", rfl, tgt4_of (show isTgt (.str "any") = true by decide +kernel) (by decide), ⟨by decide +kernel, by decide +kernel⟩⟩
def spLinesM (vok : V → Prop) : Sp := fun vs H Q _ => ∃ (p c : Addr) (n z most : Nat) (m : List V), vs = [.ref p, .int z, .int most] ∧ Pen H p c n m ∧ n + 1000 ≤ PB ∧ z ≤ 32 ∧ most ≤ 20 ∧
  ∀ (d : Addr) (xs : List Str) (kvs : List (Key × V)) (H' : Hp), But p H H' → H d = none → H' d = some (.dK kvs) → RowsOk z vok xs kvs → xs.length ≤ most → Pen H' p c (n + 200) m → Q (.ref d) H'
section
variable {P : Program} {w : World} {K : PySem.W.Frag} {mg : Str → Option Value} {base : Heap}
theorem scLines : FnScope ["pen", "size", "most", "names_used", "prefix"] ["pen", "size", "most"] (defScope sLines) := ⟨rfl, rfl, rfl, by decide +kernel, rfl, by decide +kernel, by decide +kernel⟩
theorem ok_lines {f fD fX : Addr} {fd fdD fdX : FuncData} {k : Nat} (F : Fun K "_law_lines" "_law_lines" sLines f fd) (GD : FnOk P w K mg base CX0 k fD fdD ["pen", "below"] spDraw) (FD : Fun K "_law_draw" "_law_draw" sDraw fD fdD) (bD : Binds K fdD ["pen", "below"] []) (gD : mg "_law_draw" = some (.ref fD))
    (GX : FnOk P w K mg base CX0 k fX fdX ["pen", "size", "most"] spPrefixes) (FX : Fun K "_law_prefixes" "_law_prefixes" sPrefixes fX fdX) (bX : Binds K fdX ["pen", "size", "most"] []) (gX : mg "_law_prefixes" = some (.ref fX)) (md : mg "dict" = none) :
    FnOk P w K mg base CX0 (k + 1) f fd ["pen", "size", "most"] (spLinesM isTgt4) := by
  refine F.ok scLines (fun vs H Q E h => ?_) (fun cdv A outer s H vs Q E hr h => ?_)
  · obtain ⟨p, c, n, z, most, m, rfl, _⟩ := h
    rfl
  · obtain ⟨p, c, n, z, most, m, rfl, hp, hn, hz, hk, q⟩ := h
    have nd := scLines.nd
    have hnB : n + 1000 ≤ 1000000000000 := hn
    refine ⟨_, pss_cons (ps_set (i := 3) nd rfl (.inr rfl) (pe_lst (pa_cons pe_str (pa_cons pe_str (pa_cons pe_str (pa_cons pe_str pa_nil))))))
      (pss_one (ps_ret (pe_callTy (call_dictP rfl) (by rfl) md (by decide +kernel) (pa_cons
      (pe_lc (own := [("prefix", 4)]) (g := gName 4) (tt := tYes) rfl nd (pi_list (pe_call GX hr (by rfl) gX FX.kp bX .nil pass0 (pa_cons (pv 0) (pa_cons (pv 1) (pa_cons (pv 2) pa_nil)))))
        (blkOk_by (N := ["pen", "size", "most", "names_used", "prefix"]) (sc := defScope sLines) (by decide +kernel)) (fun _ _ _ _ _ => pg_name (i := 4) nd rfl (.inl rfl)) (fun _ _ _ _ _ => pts_nil)
        (fun _ _ _ _ _ => pe_tup (pa_cons (pv 4) (pa_cons (pe_ix (r := rIxL K) ix_list (pv 3) (pe_call GD hr (by rfl) gD FD.kp bD .nil pass0 (pa_cons (pv 0) (pa_cons pe_int pa_nil))) (fun _ _ => rfl)) pa_nil)))) pa_nil)))), ?_⟩
    refine ⟨by show 4 ≤ sizeLine; decide, fun u nu => ?_⟩
    have s0 := same_upd (o := .lst used) nu
    have hp0 := hp.keep s0
    have up : u ≠ p := hp.ne_p nu
    have hu0 : (upd H u (.lst used)) u = some (.lst used) := upd_same
    refine ⟨.ref p, rfl, .int z, rfl, .int most, rfl, p, c, n, z, most, m, rfl, hp0, by show n + 1000 ≤ 1000000000000; omega, hz, hk, fun l xs H1 b1 p1 nl hl hx hx7 => ?_⟩
    have b1' : But p H H1 := (But.of_same s0).trans b1
    have hu1 := b1 _ _ up hu0
    have nl0 : H l = none := (upd_free nl).2
    refine ⟨l, rfl, ⟨_, SqL.of hl⟩, fun D nD => ?_⟩
    have nDl : D ≠ l := fun e => by rw [e, hl] at nD; cases nD
    have nDu : D ≠ u := fun e => by rw [e, hu1] at nD; cases nD
    have nDp := p1.ne_p nD
    refine lc_it walk_list (fun i H' => ∃ ps kvs, PairsAt K H' D isTgt4 (xs.take i) ps kvs ∧ ps.length = i ∧ H' l = some (.lst (xs.map V.str)) ∧ H' u = some (.lst used) ∧ But p H H' ∧ Pen H' p c (n + 161 + i) m) ⟨[], [], ⟨upd_same, .nil, by rw [List.take_zero]; rfl, fun _ h => absurd h List.not_mem_nil⟩, rfl, by rw [upd_ne nDl.symm]; exact hl, by rw [upd_ne nDu.symm]; exact hu1, b1'.trans (.of_same (same_upd nD)), (p1.mono (by omega)).off nDp (p1.ne_c nD)⟩
      (fun i H' hi h => by obtain ⟨_, _, _, _, h, _⟩ := h; exact SqL.of h) ?_ ?_
    · rintro i v H' H'' hi ⟨ps, kvs, hps, hpl, hl', hu', bH, pH⟩ ⟨rfl, hv⟩
      have hi' : i < xs.length := by rw [List.length_map] at hi; exact hi
      rw [List.getElem?_map, List.getElem?_eq_getElem hi'] at hv
      obtain rfl : V.str xs[i] = v := Option.some.inj hv
      refine ⟨rfl, yes_if ?_⟩
      refine ⟨.str xs[i], rfl, .ref u, rfl, .ref p, rfl, p, c, _, m, 4, rfl, pH, by show n + 161 + i ≤ 1000000000000; omega, by decide, by decide, fun d H3 d0 d1 b3 p3 => ?_⟩
      obtain ⟨y, hy, ty, _⟩ := used_tgt (i := d.toNat) (by omega)
      refine ⟨u, used, d, .str y, rfl, rfl, SqL.of (b3 _ _ up hu'), at_of (j := d.toNat) (by omega) hy, by show 2 ≤ sizeLine; decide, fun t nt => ?_⟩
      obtain ⟨o, hpo⟩ := pH.lst
      have h3 := hps.but b3 hpo nDp
      have s2 := same_upd (o := .tup [.str xs[i], .str y]) nt
      have et : xs.take (i + 1) = xs.take i ++ [xs[i]] := by rw [List.take_add_one, List.getElem?_eq_getElem hi']; rfl
      refine ⟨_, s2 _ _ h3.at_, ?_, ps ++ [t], kvs ++ [(.inr xs[i], .str y)], ?_, by rw [List.length_append, hpl]; rfl, ?_, ?_, ?_, ?_⟩
      · exact Nat.lt_of_le_of_lt (show (ps.map V.ref).length ≤ 1000 by rw [List.length_map]; omega) (by decide)
      · rw [et]
        exact h3.snoc (v := .str y) ty nt
      · rw [upd_ne nDl.symm]
        exact s2 _ _ (b3 _ _ (hp0.ne_p nl) hl')
      · rw [upd_ne nDu.symm]
        exact s2 _ _ (b3 _ _ up hu')
      · exact pairs_old (b1'.free nDp nD) bH b3 nt
      · exact ((p3.keep s2).mono (by omega)).off nDp (p1.ne_c nD)
    · rintro H' ⟨ps, kvs, hps, hpl, hl', hu', bH, pH⟩
      rw [List.length_map, List.take_of_length_le (Nat.le_refl _)] at hps
      rw [List.length_map] at hpl pH
      refine ⟨D, ps, kvs, rfl, SqL.of hps.at_, hps.prs, fun d nd' => ?_⟩
      rw [pair_merge hps hx.nd]
      exact q d xs kvs _ (bH.trans (.of_same (same_upd nd'))) (bH.free (pH.ne_p nd') nd') upd_same ⟨hps.keys, hx, hps.val⟩ hx7 ((pH.keep (same_upd nd')).mono (by omega))
end
/-! ### ascending texts: one order alone -/
def LeS (a b : Str) : Prop := sg a ≤ sg b
theorem leS_trans {a b c : Str} (h : LeS a b) (h' : LeS b c) : LeS a c := List.le_trans h h'
theorem leS_anti {a b : Str} (h : LeS a b) (h' : LeS b a) : a = b := str_ext (List.le_antisymm h h')
theorem rise_pw : ∀ (l : List Str) (p : Str), risingS p l = true → (p :: l).Pairwise LeS
  | [], p, _ => List.pairwise_cons.mpr ⟨fun _ h => absurd h List.not_mem_nil, List.Pairwise.nil⟩
  | x :: r, p, h => by
    have h2 : (!ltCps (sg x) (sg p) && risingS x r) = true := h
    rw [Bool.and_eq_true, ltCps_eq] at h2
    have ih := rise_pw r x h2.2
    have hx : LeS p x := by
      have z : ¬ (sg x < sg p) := by
        have := h2.1
        simpa using this
      exact List.not_lt.mp z
    refine List.pairwise_cons.mpr ⟨fun y hy => ?_, ih⟩
    rcases List.mem_cons.mp hy with rfl | hy
    · exact hx
    · exact leS_trans hx ((List.pairwise_cons.mp ih).1 y hy)
theorem up_pw {l : List Str} (h : sortedS l = true) : l.Pairwise LeS := by
  cases l with
  | nil => exact List.Pairwise.nil
  | cons x r => exact rise_pw r x h
theorem up_uniq {l l' : List Str} (p : l.Perm l') (h : sortedS l = true) (h' : sortedS l' = true) : l = l' :=
  List.Perm.eq_of_pairwise (le := LeS) (fun a b _ _ q q' => leS_anti q q') (up_pw h) (up_pw h') p
theorem kv_ext {k1 k2 : List (Key × V)} (e : k1.map (·.1) = k2.map (·.1)) (nd : (k1.map (·.1)).Nodup) (v : ∀ k ∈ k1.map (·.1), valV k1 k = valV k2 k) : k1 = k2 := by
  have el : k1.length = k2.length := by
    have := congrArg List.length e
    rw [List.length_map, List.length_map] at this
    exact this
  refine List.ext_getElem el fun i h1 h2 => ?_
  have e1 : (k1[i]).1 = (k2[i]).1 := by
    have a1 : (k1.map (·.1))[i]? = some (k1[i]).1 := by rw [List.getElem?_map, List.getElem?_eq_getElem h1]; rfl
    have a2 : (k2.map (·.1))[i]? = some (k2[i]).1 := by rw [List.getElem?_map, List.getElem?_eq_getElem h2]; rfl
    rw [e, a2] at a1
    exact (Option.some.inj a1).symm
  have v1 := valV_some nd (k := (k1[i]).1) (v := (k1[i]).2) (List.getElem_mem h1)
  have v2 := valV_some (e ▸ nd) (k := (k2[i]).1) (v := (k2[i]).2) (List.getElem_mem h2)
  have v3 := v _ (List.mem_map.mpr ⟨_, List.getElem_mem h1, rfl⟩)
  have e2 : (k1[i]).2 = (k2[i]).2 := by
    rw [v1, e1, v2] at v3
    exact Option.some.inj v3
  exact Prod.ext e1 e2
theorem Sorted.uniq {xs ys1 ys2 : List Str} {kvs k1 k2 : List (Key × V)} (nd : xs.Nodup) (h1 : Sorted xs kvs k1 ys1) (h2 : Sorted xs kvs k2 ys2) : k1 = k2 := by
  have e : ys1 = ys2 := up_uniq (h1.perm.trans h2.perm.symm) h1.up h2.up
  refine kv_ext (by rw [h1.keys, h2.keys, e]) ?_ fun k hk => ?_
  · rw [h1.keys]
    exact (h1.perm.nodup_iff.mpr nd).map Sum.inr (fun a b h e => h (Sum.inr.inj e))
  · rw [h1.keys] at hk
    obtain ⟨y, hy, rfl⟩ := List.mem_map.mp hk
    have hx := h1.perm.mem_iff.mp hy
    rw [h1.val y hx, h2.val y hx]
/-! ### how tables show -/
theorem tgt_sm {v : V} (h : isTgtV v) : ∃ x, v = .str x ∧ Sm 8 x := by
  obtain ⟨x, rfl, h8, _, hx⟩ := tgt_str h
  refine ⟨x, rfl, h8, fun c hc => ?_⟩
  have h1 := List.all_eq_true.mp hx c hc
  have all : letters.cps.toList.all (fun c => decide (c < 128)) = true := by decide +kernel
  exact of_decide_eq_true (List.all_eq_true.mp all c (Array.mem_toList_iff.mpr (Array.contains_iff.mp h1)))
theorem dr_rows {K : PySem.W.Frag} {H : Hp} {N : Addr → Prop} : ∀ (kvs : List (Key × V)), (∀ kv ∈ kvs, (∃ y, kv.1 = .inr y ∧ Sm 32 y) ∧ isTgtV kv.2) → ∃ ds, DrKv K H N kvs ds ∧ ds.length = kvs.length ∧ ∀ d ∈ ds, OkD 0 322 d.1 ∧ OkD 0 82 d.2
  | [], _ => ⟨[], .nil, rfl, fun _ h => absurd h List.not_mem_nil⟩
  | (k, v) :: r, h => by
    obtain ⟨⟨y, e, sy⟩, hv⟩ := h (k, v) List.mem_cons_self
    have e' : k = .inr y := e
    subst e'
    obtain ⟨x, ex, sx⟩ := tgt_sm hv
    have ex' : v = .str x := ex
    subst ex'
    obtain ⟨ds, h1, h2, h3⟩ := dr_rows r fun kv hk => h kv (List.mem_cons_of_mem _ hk)
    refine ⟨(.str y, .str x) :: ds, .cons (k := .inr y) (.str x) h1, by rw [List.length_cons, List.length_cons, h2], fun d hd => ?_⟩
    rcases List.mem_cons.mp hd with rfl | hd
    · exact ⟨sy.ok (by decide), sx.ok (by decide)⟩
    · exact h3 d hd
abbrev sMade : Stmt := inClass sCls 1
abbrev sWith : Stmt := inClass sCls 9
/-- a new map of this class with these rows -/
def Made (C : Addr) (w : Nat) (xs : List Str) (kvs : List (Key × V)) (H : Hp) (Q : VK) : Prop := ∀ (x e : Addr) (ys : List Str) (kvs' : List (Key × V)) (H' : Hp), H x = none → Same H H' → Sorted xs kvs kvs' ys → MapAt C H' x e w kvs' → Q (.ref x) H'
def spMade (C : Addr) (vok : V → Prop) : Sp := fun vs H Q _ => ∃ (d : Addr) (w : Nat) (xs : List Str) (kvs : List (Key × V)), vs = [.ref C, .int w, .ref d] ∧ 1 ≤ w ∧ w ≤ 32 ∧ H d = some (.dK kvs) ∧ RowsOk w vok xs kvs ∧ xs.length < 64 ∧ Made C w xs kvs H Q
/-- a map with one row more, or replaced -/
def spWith (C : Addr) (vok : V → Prop) : Sp := fun vs H Q _ => ∃ (x e : Addr) (w : Nat) (xs : List Str) (kvs : List (Key × V)) (y : Str) (v : V), vs = [.ref x, .str y, v] ∧ MapAt C H x e w kvs ∧ RowsOk w vok xs kvs ∧ 1 ≤ w ∧ w ≤ 32 ∧ isBits y = true ∧ y.length ≤ w ∧ vok v ∧ xs.length < 60 ∧
  ∀ xs2, RowsOk w vok xs2 (putK kvs (.inr y) v) → (∀ z, z ∈ xs2 ↔ z = y ∨ z ∈ xs) → xs2.length ≤ xs.length + 1 → Made C w xs2 (putK kvs (.inr y) v) H Q
theorem Made.later {C : Addr} {w : Nat} {xs : List Str} {kvs : List (Key × V)} {H H1 : Hp} {Q : VK} (s : Same H H1) (h : Made C w xs kvs H Q) : Made C w xs kvs H1 Q := fun x e ys kvs' H' nx s' hs hm => h x e ys kvs' H' (same_free s nx) (s.trans s') hs hm
theorem keys_put {kvs : List (Key × V)} {k0 : Key} {v : V} (k : Key) : k ∈ (putK kvs k0 v).map (·.1) ↔ k = k0 ∨ k ∈ kvs.map (·.1) := by
  by_cases hm : k0 ∈ kvs.map (·.1)
  · have e : (putK kvs k0 v).map (·.1) = kvs.map (·.1) := by
      unfold putK
      rw [if_pos (by obtain ⟨p, hp, e⟩ := List.mem_map.mp hm; exact List.any_eq_true.mpr ⟨p, hp, decide_eq_true e⟩), List.map_map]
      refine List.map_congr_left fun p _ => ?_
      show (if p.1 = k0 then (p.1, v) else p).1 = p.1
      split <;> rfl
    rw [e]
    exact ⟨.inr, fun h => h.elim (fun q => q ▸ hm) id⟩
  · rw [putK_end hm, List.map_append, List.mem_append]
    exact ⟨fun h => h.elim .inr fun q => .inl (List.mem_singleton.mp q), fun h => h.elim (fun q => .inr (List.mem_singleton.mpr q)) .inl⟩
theorem RowsOk.acc {w : Nat} {vok : V → Prop} {xs : List Str} {kvs : List (Key × V)} (h : RowsOk w vok xs kvs) : RowsAcc w vok kvs := by
  refine ⟨by rw [h.keys]; exact h.pfx.nd.map Sum.inr (fun a b h e => h (Sum.inr.inj e)), fun kv hk => ?_⟩
  have hkey : kv.1 ∈ xs.map Sum.inr := by
    rw [← h.keys]
    exact List.mem_map.mpr ⟨kv, hk, rfl⟩
  obtain ⟨y, hy, ey⟩ := List.mem_map.mp hkey
  exact ⟨y, ey.symm, h.pfx.bits y hy, h.pfx.len y hy, h.val kv hk⟩
theorem RowsOk.put {w : Nat} {vok : V → Prop} {xs : List Str} {kvs : List (Key × V)} (h : RowsOk w vok xs kvs) {y : Str} {v : V} (hb : isBits y = true) (hl : y.length ≤ w) (hv : vok v) :
    ∃ xs2, RowsOk w vok xs2 (putK kvs (.inr y) v) ∧ (∀ z, z ∈ xs2 ↔ z = y ∨ z ∈ xs) ∧ xs2.length ≤ xs.length + 1 := by
  obtain ⟨xs2, ok2, l2⟩ := (h.acc.put hb hl hv).ok
  refine ⟨xs2, ok2, fun z => ?_, ?_⟩
  · rw [← inr_mem ok2.keys z, keys_put, inr_mem h.keys z]
    exact ⟨fun q => q.imp Sum.inr.inj id, fun q => q.imp (congrArg Sum.inr) id⟩
  · have a := length_putK kvs (.inr y) v
    have b : kvs.length = xs.length := by
      have := congrArg List.length h.keys
      rw [List.length_map, List.length_map] at this
      exact this
    omega
section
variable {P : Program} {w : World} {K : PySem.W.Frag} {mg : Str → Option Value} {base : Heap}
theorem scMade : FnScope ["cls", "width", "rows"] ["cls", "width", "rows"] (defScope sMade) := ⟨rfl, rfl, rfl, by decide +kernel, rfl, by decide +kernel, by decide +kernel⟩
theorem ok_made {f fI C : Addr} {fd fdI : FuncData} {k : Nat} {vok : V → Prop} (F : Fun K "_made" "PrefixMap._made" sMade f fd) (M : Mk K C fI) (GI : FnOk P w K mg base CX0 k fI fdI ["self", "width", "rows"] (spInit K C vok)) (bI : Binds K fdI ["self", "width", "rows"] []) :
    FnOk P w K mg base CX0 (k + 2) f fd ["cls", "width", "rows"] (spMade C vok) := by
  refine F.ok scMade (fun vs H Q E h => ?_) (fun cdv A outer s H vs Q E hr h => ?_)
  · obtain ⟨d, w, xs, kvs, rfl, _⟩ := h
    rfl
  · obtain ⟨d, w, xs, kvs, rfl, w1, w32, hd, ok, few, q⟩ := h
    refine ⟨_, pss_one (ps_ret (pe_makeL (i := 0) M GI hr (by rfl) (.inl (by rfl)) bI (pa_cons (pv 1) (pa_cons (pv 2) pa_nil)))), ?_⟩
    refine ⟨rfl, .int w, rfl, .ref d, rfl, fun x dx nx ndx nex => ?_⟩
    have n1 : d ≠ x := ne_of_none hd nx
    have n2 : d ≠ dx := ne_of_none hd ndx
    refine ⟨x, dx, d, w, xs, kvs, rfl, upd_same, w1, w32, by rw [upd_ne n1, upd_ne n2]; exact hd, ok, few, fun e ys kvs' H' ne hs hm keep => ⟨rfl, ?_⟩⟩
    exact q x e ys kvs' H' nx (Same.made nx ndx keep) hs hm
theorem scWith : FnScope ["self", "prefix", "value"] ["self", "prefix", "value"] (defScope sWith) := ⟨rfl, rfl, rfl, by decide +kernel, rfl, by decide +kernel, by decide +kernel⟩
theorem ok_with {f fP p g C : Addr} {fd fdP : FuncData} {k : Nat} {vok : V → Prop} (F : Fun K "with_row" "PrefixMap.with_row" sWith f fd) (T : ClsF K C) (GP : FnOk P w K mg base CX0 k fP fdP ["thing", "width"] (spPfx K)) (FP : Fun K "is_prefix" "is_prefix" sPfx fP fdP) (bP : Binds K fdP ["thing", "width"] []) (gP : mg "is_prefix" = some (.ref fP))
    (CI : ClX.CInst K C "_made" p g) (GM : FnR P w K mg base CX0 k g (spMade C vok)) : FnOk P w K mg base CX0 (k + 1) f fd ["self", "prefix", "value"] (spWith C vok) := by
  refine F.ok scWith (fun vs H Q E h => ?_) (fun cdv A outer s H vs Q E hr h => ?_)
  · obtain ⟨x, e, w, xs, kvs, y, v, rfl, _⟩ := h
    rfl
  · obtain ⟨x, e, w, xs, kvs, y, v, rfl, ⟨⟨dx, hx⟩, he⟩, ok, w1, w32, hb, hy, hv, few, q⟩ := h
    refine ⟨_, pss_cons (ps_if (pt_not (pt_val (pe_call GP hr (by rfl) gP FP.kp bP .nil pass0 (pa_cons (pv 1) (pa_cons (pe_fld (pv 0) rfl) pa_nil))))) (pss_one ps_never) pss_nil)
      (pss_one (ps_ret (ClX.pe_imethD (pv 0) CI GM hr pass0 (pa_cons (pe_fld (pv 0) rfl) (pa_cons (pe_dst (pe_fld (pv 0) rfl) (pv 1) (pv 2)) pa_nil))))), ?_⟩
    refine ⟨.str y, rfl, .ref x, rfl, x, C, dx, _, _, rfl, hx, T.cl, T.nW, flds_w _ _, .str y, w, rfl, TyS.of (N := fun _ => True) (.str y), fun z e => by rw [← V.str.inj e]; exact big_of (by omega), _, rfl, ?_⟩
    have ep : isPfx (.str y) (w : Int) = true := by
      show (decide ((y.length : Int) ≤ w) && isBits y) = true
      rw [decide_eq_true (by omega), hb]
      rfl
    rw [ep]
    refine iteF ?_
    obtain ⟨xs2, ok2, mem2, len2⟩ := ok.put hb hy hv
    refine ⟨.ref x, rfl, x, dx, _, rfl, hx, flds_no _ _ (by decide +kernel) (by decide +kernel), .ref x, rfl, x, C, dx, _, _, rfl, hx, T.cl, T.nW, flds_w _ _, fun p np => ?_⟩
    have s1 := same_upd (o := .dK []) np
    have ne : e ≠ p := ne_of_none he np
    have hkl : kvs.length = xs.length := by
      have := congrArg List.length ok.keys
      rw [List.length_map, List.length_map] at this
      exact this
    refine ⟨.ref x, rfl, x, C, dx, _, _, rfl, s1 _ _ hx, T.cl, T.nR, flds_r _ _, e, kvs, rfl, .inl (s1 _ _ he), ne, upd_same, ok.acc.nd, by omega, fun q2 nq => ?_⟩
    rw [upd_upd] at nq ⊢
    obtain ⟨q2p, nq2⟩ := upd_free nq
    refine ⟨.str y, rfl, v, rfl, .inr y, rfl, by rw [upd_ne q2p.symm, upd_same], upd_same, ?_⟩
    refine ⟨p, w, xs2, _, rfl, w1, w32, upd_same, ok2, by omega, (q xs2 ok2 mem2 len2).later fun b o eb => ?_⟩
    have bp := ne_of_none eb np
    have bq := ne_of_none eb nq2
    rw [upd_ne bp, upd_ne bq, upd_ne bq, upd_ne bp]
    exact eb
end
abbrev sWithout : Stmt := inClass sCls 10
/-- the rows without this key -/
def spWithout (C : Addr) (vok : V → Prop) : Sp := fun vs H Q _ => ∃ (x e : Addr) (w : Nat) (xs : List Str) (kvs : List (Key × V)) (y : Str), vs = [.ref x, .str y] ∧ MapAt C H x e w kvs ∧ RowsOk w vok xs kvs ∧ 1 ≤ w ∧ w ≤ 32 ∧ y ∈ xs ∧ xs.length < 60 ∧
  (RowsOk w vok (xs.filter (fun z => decide (z ≠ y))) (kvs.filter fun kv => decide (kv.1 ≠ .inr y)) → Made C w (xs.filter (fun z => decide (z ≠ y))) (kvs.filter fun kv => decide (kv.1 ≠ .inr y)) H Q)
theorem filt_keys {y : Str} : ∀ {kvs : List (Key × V)} {xs : List Str}, kvs.map (·.1) = xs.map Sum.inr → (kvs.filter fun kv => decide (kv.1 ≠ .inr y)).map (·.1) = (xs.filter fun z => decide (z ≠ y)).map Sum.inr
  | [], [], _ => rfl
  | [], _ :: _, h => by cases h
  | _ :: _, [], h => by cases h
  | (k, v) :: r, x :: xs, h => by
    obtain ⟨h1, h2⟩ := List.cons.inj h
    have e1 : k = Sum.inr x := h1
    subst e1
    have ih := filt_keys (y := y) h2
    by_cases hxy : x = y
    · subst hxy
      rw [List.filter_cons_of_neg (by simp), List.filter_cons_of_neg (by simp)]
      exact ih
    · rw [List.filter_cons_of_pos (by simpa using hxy), List.filter_cons_of_pos (by simpa using hxy), List.map_cons, List.map_cons, ih]
theorem RowsOk.filt {w : Nat} {vok : V → Prop} {xs : List Str} {kvs : List (Key × V)} (h : RowsOk w vok xs kvs) (y : Str) : RowsOk w vok (xs.filter fun z => decide (z ≠ y)) (kvs.filter fun kv => decide (kv.1 ≠ .inr y)) :=
  ⟨filt_keys h.keys, ⟨h.pfx.nd.filter _, fun x hx => h.pfx.bits x (List.mem_filter.mp hx).1, fun x hx => h.pfx.len x (List.mem_filter.mp hx).1⟩, fun kv hk => h.val kv (List.mem_filter.mp hk).1⟩
section
variable {P : Program} {w : World} {K : PySem.W.Frag} {mg : Str → Option Value} {base : Heap}
theorem scWithout : FnScope ["self", "prefix", "kept"] ["self", "prefix"] (defScope sWithout) := ⟨rfl, rfl, rfl, by decide +kernel, rfl, by decide +kernel, by decide +kernel⟩
theorem ok_without {f p g C : Addr} {fd : FuncData} {k : Nat} {vok : V → Prop} (F : Fun K "without" "PrefixMap.without" sWithout f fd) (T : ClsF K C) (mi : mg "isinstance" = none) (ms : mg "str" = none)
    (CI : ClX.CInst K C "_made" p g) (GM : FnR P w K mg base CX0 k g (spMade C vok)) : FnOk P w K mg base CX0 (k + 1) f fd ["self", "prefix"] (spWithout C vok) := by
  refine F.ok scWithout (fun vs H Q E h => ?_) (fun cdv A outer s H vs Q E hr h => ?_)
  · obtain ⟨x, e, w, xs, kvs, y, rfl, _⟩ := h
    rfl
  · obtain ⟨x, e, w, xs, kvs, y, rfl, ⟨⟨dx, hx⟩, he⟩, ok, w1, w32, hy, few, q⟩ := h
    have nd := scWithout.nd
    have hu := hu_of hr
    refine ⟨_, pss_cons (ps_if (PW.pt (pw_or (pt_not (pt_val (pe_callB call_isi (by rfl) mi (by decide +kernel) (pa_cons (pv 1) (pa_cons (pe_bltn (v := .ty "str") (by rfl) ms (by decide +kernel) rfl) pa_nil))))) (pw_or1 (pt_cmp (pc_dnotin hu (pv 1) (pe_fld (pv 0) rfl)))))) (pss_one ps_never) pss_nil)
      (pss_one (ps_ret (ClX.pe_imethD (pv 0) CI GM hr pass0 (pa_cons (pe_fld (pv 0) rfl) (pa_cons (pe_lock (pe_dc (own := [("kept", 2)]) (g := gName 2) (tv := tDGet (tFld K (tVar 0) "_rows") (tVar 2)) rfl nd (pi_keys (pe_fld (pv 0) rfl))
        (blkOk_by (N := ["self", "prefix", "kept"]) (sc := defScope sWithout) (by decide +kernel)) (fun _ _ _ _ _ => pg_name (i := 2) nd rfl (.inl rfl)) (fun _ _ _ _ _ => pts_one (pt_cmpR op_ne (pv 2) (pv 1) (nomark _))) (fun _ _ _ _ _ => pv 2)
        (fun _ _ _ _ _ => pe_dget hu (pe_fld (pv 0) rfl) (pv 2) (fun _ _ => rfl)))) pa_nil))))), ?_⟩
    obtain ⟨t, ty, kt⟩ := TyS.of (K := K) (H := H) (N := fun _ => True) (.str y)
    have hk : (Sum.inr y : Key) ∈ kvs.map (·.1) := (inr_mem ok.keys y).mpr hy
    refine ⟨.str y, rfl, .str y, .ty "str", .type t, .type "str", _, rfl, .ty _, ty, kt, _, rfl, iteF ?_⟩
    refine ⟨.str y, rfl, .ref x, rfl, x, C, dx, _, _, rfl, hx, T.cl, T.nR, flds_r _ _, e, _, rfl, DGet.k (k := .inr y) he, _, rfl, ?_⟩
    rw [show (valV kvs (.inr y)).isSome = true from valV_mem.mpr hk]
    refine iteF ?_
    have xe : x ≠ e := ne_of hx he (fun q => nomatch q)
    refine ⟨.ref x, rfl, x, dx, _, rfl, hx, flds_no _ _ (by decide +kernel) (by decide +kernel), .ref x, rfl, x, C, dx, _, _, rfl, hx, T.cl, T.nW, flds_w _ _, e, .dK kvs, he, trivial, fun od => ?_⟩
    refine ⟨.ref x, rfl, x, C, dx, _, _, rfl, by rw [upd_ne xe]; exact hx, T.cl, T.nR, flds_r _ _, e, od, rfl, .inl ⟨kvs, upd_same, fun D nD => ?_⟩⟩
    obtain ⟨nDe, nDH⟩ := upd_free nD
    have kn : (kvs.map (·.1)).Nodup := ok.acc.nd
    have hkl : kvs.length = xs.length := by
      have := congrArg List.length ok.keys
      rw [List.length_map, List.length_map] at this
      exact this
    refine dc_it walk_keys (fun i H' => H' D = some (.dK ((kvs.take i).filter fun kv => decide (kv.1 ≠ .inr y))) ∧ H' e = some (.frz od (.dK kvs)) ∧ ∀ b o, b ≠ e → H b = some o → H' b = some o) ⟨by rw [upd_same]; rfl, by rw [upd_ne nDe.symm, upd_same], fun b o nb eb => by rw [upd_ne (ne_of_none eb nDH), upd_ne nb]; exact eb⟩ (fun _ _ _ h => h.2.1) ?_ ?_
    · rintro i v H1 H2 hi ⟨hD, he1, keep⟩ ⟨rfl, k, v', hkv, rfl⟩
      obtain ⟨z, hz, rfl⟩ := key_at ok.keys hkv
      have et : kvs.take (i + 1) = kvs.take i ++ [(.inr z, v')] := by rw [List.take_add_one, hkv]; rfl
      refine ⟨rfl, .str z, rfl, .str y, rfl, rfl, _, rfl, ?_⟩
      by_cases hzy : z = y
      · subst hzy
        rw [decide_eq_true rfl]
        refine iteF ⟨?_, he1, keep⟩
        rw [et, List.filter_append, List.filter_cons_of_neg (by simp), List.filter_nil, List.append_nil]
        exact hD
      · rw [decide_eq_false (fun q => hzy (V.str.inj q))]
        refine iteT ?_
        have hv : valV kvs (.inr z) = some v' := valV_some kn (List.mem_of_getElem? hkv)
        refine ⟨.str z, rfl, .ref x, rfl, x, C, dx, _, _, rfl, keep _ _ xe hx, T.cl, T.nR, flds_r _ _, .str z, rfl, e, v', rfl, .inl ⟨kvs, .inr z, .inr ⟨od, he1⟩, rfl, hv.symm⟩, _, .inr z, rfl, hD, ?_, ?_, ?_, fun b o nb eb => ?_⟩
        · refine Nat.lt_of_le_of_lt (List.length_filter_le _ _) ?_
          rw [List.length_take]
          exact big_lt (by omega)
        · rw [upd_same, et, List.filter_append, List.filter_cons_of_pos (by simpa using hzy), List.filter_nil, putK_end]
          intro hm
          obtain ⟨pq, hp, eq⟩ := List.mem_map.mp hm
          have hp2 := (List.mem_filter.mp hp).1
          obtain ⟨j, hj, ej⟩ := List.mem_take_iff_getElem.mp hp2
          have kj : kvs[j]'(by omega) = pq := ej
          have hi2 := (List.getElem?_eq_some_iff.mp hkv)
          have a1 : (kvs.map (·.1))[j]'(by rw [List.length_map]; omega) = (kvs.map (·.1))[i]'(by rw [List.length_map]; exact hi2.1) := by
            rw [List.getElem_map, List.getElem_map, kj, eq, hi2.2]
          have := (List.getElem_inj kn).mp a1
          omega
        · rw [upd_ne nDe.symm]
          exact he1
        · rw [upd_ne (ne_of_none eb nDH)]
          exact keep b o nb eb
    · rintro H1 ⟨hD, he1, keep⟩
      rw [List.take_of_length_le (Nat.le_refl _)] at hD
      have ok2 := ok.filt y
      refine ⟨he1, D, w, _, _, rfl, w1, w32, by rw [upd_ne nDe]; exact hD, ok2, by have := List.length_filter_le (fun z => decide (z ≠ y)) xs; omega, (q ok2).later fun b o eb => ?_⟩
      by_cases hb : b = e
      · rw [hb, upd_same, ← he, ← hb, eb]
      · rw [upd_ne hb]
        exact keep b o hb eb
end
/-! ### == and != of maps -/
abbrev sEq : Stmt := inClass sCls 6
/-- __eq__ of two maps of one class with the same rows -/
def spEqM (C : Addr) : Sp := fun vs H Q _ => ∃ (x y e e2 : Addr) (w : Nat) (kvs : List (Key × V)), vs = [.ref x, .ref y] ∧ MapAt C H x e w kvs ∧ MapAt C H y e2 w kvs ∧ (kvs.map (·.1)).Nodup ∧ (∀ kv ∈ kvs, flatB kv.2 = true) ∧ Q (.bl true) H
/-- what isinstance and != ask of a class of one's own -/
structure ObjC (K : PySem.W.Frag) (C : Addr) : Prop where
  ca : PySem.W.findIn K (.ref C) "__class__" = some (some (.builtin "object.__class__"))
  cg : PySem.W.specialIn K (.builtin "object.__class__") "__get__" = some (some (.builtin "getset_descriptor.__get__"))
  ct : PySem.W.takesIn K (.builtin "object.__class__") = some true
  ob : PySem.W.mroIn K C (.type "object") = some true
  ne : PySem.W.findIn K (.ref C) "__ne__" = some (some (.builtin "object.__ne__"))
section
variable {P : Program} {w : World} {K : PySem.W.Frag} {mg : Str → Option Value} {base : Heap}
theorem scEq : FnScope ["self", "other"] ["self", "other"] (defScope sEq) := ⟨rfl, rfl, rfl, by decide +kernel, rfl, by decide +kernel, by decide +kernel⟩
theorem ok_eqm {f C D : Addr} {fd : FuncData} {k : Nat} (F : Fun K "__eq__" "PrefixMap.__eq__" sEq f fd) (T : ClsF K C) (mi : mg "isinstance" = none) (mt : mg "type" = none) (mD : mg "PrefixMap" = some (.ref D)) (hk : PySem.W.kitOne K (.ref C) (.ref D) = some true) (hmk : PySem.W.makesIn K C = true) (OC : ObjC K C) :
    FnOk P w K mg base CX0 (k + 1) f fd ["self", "other"] (spEqM C) := by
  refine F.ok scEq (fun vs H Q E h => ?_) (fun cdv A outer s H vs Q E hr h => ?_)
  · obtain ⟨x, y, e, e2, w, kvs, rfl, _⟩ := h
    rfl
  · obtain ⟨x, y, e, e2, w, kvs, rfl, ⟨⟨dx, hx⟩, he⟩, ⟨⟨dy, hy⟩, he2⟩, nd, fl, q⟩ := h
    have hu := hu_of hr
    refine ⟨_, pss_cons (ps_if (pt_not (pt_val (pe_callB call_isi (by rfl) mi (by decide +kernel) (pa_cons (pv 1) (pa_cons (pe_glob (v := .ref D) rfl mD rfl) pa_nil))))) (pss_one (ps_ret pe_bl)) pss_nil)
      (pss_one (ps_ret (pe_and (pe_cmpR op_is_cls (pe_callTy cr_type (by rfl) mt (by decide +kernel) (pa_cons (pv 0) pa_nil)) (pe_callTy cr_type (by rfl) mt (by decide +kernel) (pa_cons (pv 1) pa_nil)) (nomark _))
        (pe_and (pe_cmpR op_eq (pe_fld (pv 0) rfl) (pe_fld (pv 1) rfl) (nomark _)) (pe_one (pe_cmpR (op_eq_dictA (Nat.lt_of_succ_lt hu)) (pe_fld (pv 0) rfl) (pe_fld (pv 1) rfl) (nomark _))))))), ?_⟩
    refine ⟨.ref y, rfl, .ref y, .ref D, .ref C, .ref D, _, rfl, .own _, .base (.ins hy T.cl OC.ca OC.cg OC.ct OC.ob), hk, _, rfl, iteF ?_⟩
    refine ⟨.ref x, rfl, x, C, dx, _, rfl, hx, .ref y, rfl, y, C, dy, _, rfl, hy, C, C, rfl, rfl, .inl rfl, _, rfl, ?_⟩
    rw [decide_eq_true rfl]
    refine iteT ⟨.ref x, rfl, x, C, dx, _, _, rfl, hx, T.cl, T.nW, flds_w _ _, .ref y, rfl, y, C, dy, _, _, rfl, hy, T.cl, T.nW, flds_w _ _, rfl, _, rfl, ?_⟩
    rw [decide_eq_true rfl]
    refine iteT ⟨.ref x, rfl, x, C, dx, _, _, rfl, hx, T.cl, T.nR, flds_r _ _, .ref y, rfl, y, C, dy, _, _, rfl, hy, T.cl, T.nR, flds_r _ _, e, e2, kvs, kvs, rfl, rfl, he, he2, rfl, fun p hp => ⟨valV_some nd (k := p.1) (v := p.2) hp, fl p hp⟩, q⟩
end
section
open PySem.W
variable {M : Model} {P : Program} {w : World} {K : Frag} {A : Around} {E : Value → Shared → Prop} {s : Shared} {x C : Addr} {ox : Obj} {od : Option Obj}
/-- a special method that is a built-in's -/
theorem special_b {name : Str} {id : String} {args : List Value} {Z : Option Value → Shared → Prop} (X : K.In s.heap) (J : InstAt s.heap x ox C od) (hs : findIn K (.ref C) name = some (some (.builtin id))) (S : Slot "object" name id)
    (h : wpAny M A (call (.builtin id) (.ref x :: args)) (fun v => Z (some v)) E s) : wpAny M A (callSpecialIfBound? (.ref x) name args) Z E s := by
  simp only [callSpecialIfBound?, bindSpecialIfBound?]
  refine wpAny_holding (wpAny_bind (wpAny_bind (wpAny_bind (J.type.here ((looks_findIn X hs).here ?_)))))
  simp only [S.bind]
  refine wpAny_bind (wpAny_askSetting (wpAny_ite ?_))
  have done : wpAny M A (call (.builtin id) ([.ref x] ++ args) >>= fun v => pure (some v)) Z E s := wpAny_bind (thn h fun v s' q => wpAny_pure q)
  split
  · exact wpAny_bind (wpAny_pure (wpAny_pure done))
  · exact wpAny_tryCatch (wpAny_bind (wpAny_pure (wpAny_pure done)))
theorem ne_inst {y f : Addr} {oy : Obj} {od' : Option Obj} {Z : Value → Shared → Prop} (X : K.In s.heap) (OC : Kt.ObjC K C) (J : InstAt s.heap x ox C od) (J' : InstAt s.heap y oy C od') (hu : A.units + 1 < cLine) (he : findIn K (.ref C) "__eq__" = some (some (.ref f))) (hf : isFn K (.ref f) = true)
    (h : wpAny (model P w) A.in1 (call (.ref f) [.ref x, .ref y]) (fun v s' => ∃ b, v = .bool b ∧ Z (.bool (!b)) s') E s) : wpAny (model P w) A (richCompare .NotEq (.ref x) (.ref y)) Z E s := by
  have S := PySem.F.cmp_object.ne
  unfold richCompare
  simp only [oneThing_ref]
  refine wpAny_holding (wpAny_bind (wpAny_cRoomFor (Nat.lt_of_succ_lt hu) ?_))
  rw [cmpInfo_NotEq]
  dsimp only
  refine wpAny_bind (J.type.here (wpAny_bind (J'.type.here ?_)))
  simp only [bne_self_eq_false, Bool.false_eq_true, if_false]
  refine wpAny_bind (wpAny_pure ?_)
  simp only [Bool.false_eq_true, if_false]
  refine wpAny_bind ?_
  unfold tryCompare
  have sub : Looks (model P w) s.heap (isInstance (.ref x) (.type "object")) true := J.type.andThen (looks_mroIn X OC.ob)
  refine wpAny_bind (special_b X J OC.ne S (wpAny_call (codeAny_call_builtin S.plain PySem.F.cmpEntry_ne (check_slot PySem.F.cmpKind_ne PySem.F.cmpSplit_ne sub (PySem.F.cmpArgs_ne _ _) ?_))))
  unfold Builtin.«object.__ne__»
  refine wpAny_bind (m := slotArgs "__ne__" 1 _) (wpAny_pure ?_)
  refine wpAny_bind (wpAny_cRoomFor hu ?_)
  refine wpAny_bind (ifBound_K X J he hf (thn h fun v s' q => ?_))
  obtain ⟨b, rfl, q⟩ := q
  refine wpAny_bind (m := truthy (.bool b)) (wpAny_truthy_bool ?_)
  exact wpAny_pure (wpAny_pure (wpAny_pure q))
end
/-- a != b, two instances of a class whose own == promises -/
def rNeI (C : Addr) (sp : Sp) : R2 := fun x y H Q => ∃ a b dx dy fs gs, x = .ref a ∧ y = .ref b ∧ H a = some (.ins C dx fs) ∧ H b = some (.ins C dy gs) ∧ sp [.ref a, .ref b] H (fun v H' => ∃ k, v = .bl k ∧ Q (.bl (!k)) H') E0
theorem op_neI {X : Cx} {C f : Addr} {fd : FuncData} {k : Nat} {ps : List Str} {sp : Sp} (F : FnOk X.prog X.w X.K X.mg X.base CX0 k f fd ps sp) (hr : Room (k + 1) X.A) (OC : ObjC X.K C) (he : PySem.W.findIn X.K (.ref C) "__eq__" = some (some (.ref f))) (hf : PySem.W.isFn X.K (.ref f) = true) (hb : Binds X.K fd ps []) :
    OpR X (compareOp .NotEq) (rNeI C sp) := by
  intro pins s σ H x y v u Q I rx ry h
  obtain ⟨a, b, dx, dy, fs, gs, rfl, rfl, ha, hb', q⟩ := h
  cases rx
  cases ry
  obtain ⟨_, O1, _⟩ := ins_get I.hok ha
  obtain ⟨_, O2, _⟩ := ins_get I.hok hb'
  obtain ⟨_, J1, _⟩ := O1.look
  obtain ⟨_, J2, _⟩ := O2.look
  have hl := F.len _ _ _ _ q
  show wpAny (model X.prog X.w) X.A (richCompare .NotEq (.ref a) (.ref b)) (EP X pins σ Q) X.xe s
  refine ne_inst I.kIn OC J1 J2 (by have := hr.units; omega) he hf (wpAny_call (codeAny_mono (F.run X.A.in1 X.stack s H ⟨[.ref a, .ref b], []⟩ [.ref a, .ref b] [.ref a, .ref b] _ _ hr.in1 I.env0.in1 (by
    have z := hb s [.ref a, .ref b] I.kIn (by simpa using hl)
    simpa using z) (.cons rfl (.cons rfl .nil)) q) fun res s' hq => ?_))
  match res, hq with
  | .ok (.ret r), hq =>
    obtain ⟨z, H', I', rz, k, ez, q'⟩ := I.after hq
    subst ez
    obtain rfl : r = Value.bool k := rz
    exact ⟨k, rfl, .bl (!k), H', I', rfl, q'⟩
theorem kit_own {K : PySem.W.Frag} {C D : Addr} (h1 : PySem.W.isClsIn K D = true) (h2 : PySem.W.typeIn K (.ref D) = some (.type "type")) (h3 : PySem.W.mroIn K C (.ref D) = some true) : PySem.W.kitOne K (.ref C) (.ref D) = some true := by
  unfold PySem.W.kitOne
  split
  · rfl
  · show (if ((PySem.W.clsIn K D).isSome && PySem.W.typeIn K (.ref D) == some (.type "type")) = true then PySem.W.mroIn K C (.ref D) else none) = some true
    rw [if_pos (by rw [show (PySem.W.clsIn K D).isSome = true from h1, h2]; exact beq_self_eq_true _)]
    exact h3
section
open PySem.W
variable {M : Model} {P : Program} {w : World} {K : Frag} {A : Around} {E : Value → Shared → Prop} {s : Shared} {x C : Addr} {ox : Obj} {od : Option Obj}
theorem eq_inst {y f : Addr} {oy : Obj} {od' : Option Obj} {Z : Value → Shared → Prop} (X : K.In s.heap) (J : InstAt s.heap x ox C od) (J' : InstAt s.heap y oy C od') (hu : A.units < cLine) (he : findIn K (.ref C) "__eq__" = some (some (.ref f))) (hf : isFn K (.ref f) = true)
    (h : wpAny (model P w) A (call (.ref f) [.ref x, .ref y]) (fun v s' => ∃ b, v = .bool b ∧ Z (.bool b) s') E s) : wpAny (model P w) A (richCompare .Eq (.ref x) (.ref y)) Z E s := by
  unfold richCompare
  simp only [oneThing_ref]
  refine wpAny_holding (wpAny_bind (wpAny_cRoomFor hu ?_))
  rw [cmpInfo_Eq]
  dsimp only
  refine wpAny_bind (J.type.here (wpAny_bind (J'.type.here ?_)))
  simp only [bne_self_eq_false, Bool.false_eq_true, if_false]
  refine wpAny_bind (wpAny_pure ?_)
  simp only [Bool.false_eq_true, if_false]
  refine wpAny_bind ?_
  unfold tryCompare
  refine wpAny_bind (ifBound_K X J he hf (thn h fun v s' q => ?_))
  obtain ⟨b, rfl, q⟩ := q
  exact wpAny_pure (wpAny_pure q)
end
/-- a == b, two instances of a class whose own == promises -/
def rEqI (C : Addr) (sp : Sp) : R2 := fun x y H Q => ∃ a b dx dy fs gs, x = .ref a ∧ y = .ref b ∧ H a = some (.ins C dx fs) ∧ H b = some (.ins C dy gs) ∧ sp [.ref a, .ref b] H (fun v H' => ∃ k, v = .bl k ∧ Q (.bl k) H') E0
theorem op_eqI {X : Cx} {C f : Addr} {fd : FuncData} {k : Nat} {ps : List Str} {sp : Sp} (F : FnOk X.prog X.w X.K X.mg X.base CX0 k f fd ps sp) (hr : Room k X.A) (he : PySem.W.findIn X.K (.ref C) "__eq__" = some (some (.ref f))) (hf : PySem.W.isFn X.K (.ref f) = true) (hb : Binds X.K fd ps []) :
    OpR X (compareOp .Eq) (rEqI C sp) := by
  intro pins s σ H x y v u Q I rx ry h
  obtain ⟨a, b, dx, dy, fs, gs, rfl, rfl, ha, hb', q⟩ := h
  cases rx
  cases ry
  obtain ⟨_, O1, _⟩ := ins_get I.hok ha
  obtain ⟨_, O2, _⟩ := ins_get I.hok hb'
  obtain ⟨_, J1, _⟩ := O1.look
  obtain ⟨_, J2, _⟩ := O2.look
  show wpAny (model X.prog X.w) X.A (richCompare .Eq (.ref a) (.ref b)) (EP X pins σ Q) X.xe s
  refine eq_inst I.kIn J1 J2 (by have := hr.units; omega) he hf (wpAny_mono (run_fn (us := [.ref a, .ref b]) (vs := [V.ref a, V.ref b]) (dvs := []) (ds := []) (Q := fun v H' => ∃ k, v = .bl k ∧ Q (.bl k) H') F hr hb .nil pass0 I (.cons rfl (.cons rfl .nil)) q) (fun r s' hq => ?_) fun _ _ z => z)
  obtain ⟨z, H', I', rz, k, ez, q'⟩ := hq
  subst ez
  obtain rfl : r = Value.bool k := rz
  exact ⟨k, rfl, .bl k, H', I', rfl, q'⟩
abbrev sWidthP : Stmt := inClass sCls 3
abbrev sLenM : Stmt := inClass sCls 5
/-- .width; len() -/
def spWidthP (C : Addr) : Sp := fun vs H Q _ => ∃ (x e : Addr) (w : Nat) (kvs : List (Key × V)), vs = [.ref x] ∧ MapAt C H x e w kvs ∧ Q (.int w) H
def spLenM (C : Addr) : Sp := fun vs H Q _ => ∃ (x e : Addr) (w : Nat) (kvs : List (Key × V)), vs = [.ref x] ∧ MapAt C H x e w kvs ∧ Q (.int (kvs.length : Nat)) H
section
variable {P : Program} {w : World} {K : PySem.W.Frag} {mg : Str → Option Value} {base : Heap}
theorem scWidthP : FnScope ["self"] ["self"] (defScope sWidthP) := ⟨rfl, rfl, rfl, by decide +kernel, rfl, by decide +kernel, by decide +kernel⟩
theorem ok_widthP {f C : Addr} {fd : FuncData} {k : Nat} (F : Fun K "width" "PrefixMap.width" sWidthP f fd) (T : ClsF K C) : FnOk P w K mg base CX0 (k + 1) f fd ["self"] (spWidthP C) := by
  refine F.ok scWidthP (fun vs H Q E h => ?_) (fun cdv A outer s H vs Q E hr h => ?_)
  · obtain ⟨x, e, w, kvs, rfl, _⟩ := h
    rfl
  · obtain ⟨x, e, w, kvs, rfl, ⟨⟨dx, hx⟩, he⟩, q⟩ := h
    exact ⟨_, pss_one (ps_ret (pe_fld (pv 0) rfl)), .ref x, rfl, x, C, dx, _, _, rfl, hx, T.cl, T.nW, flds_w _ _, q⟩
end
/-! ### a caught exception that a name keeps after the except clause -/
/-- a caught exception of the class cls, with the dict d, at a -/
def ExK (cls : Value) (d : Option Addr) (a : Addr) : HO := .ext fun h => ∃ (oe : Obj) (vs : Array Value), h.get? a = some oe ∧ Zc cls d oe ∧ oe.data = .fields vs
theorem exK_ok {P : Program} {w : World} {H : Hp} {h : Heap} {a : Addr} {cls : Value} {d : Option Addr} {oe : Obj} {vs : Array Value} (e : h.get? a = some oe) (z : Zc cls d oe) (q : oe.data = .fields vs) : ObjOk P w H h a (ExK cls d a) :=
  ⟨⟨oe, vs, e, z, q⟩, ⟨oe, e⟩, fun _ _ ⟨o, v, q, r⟩ k => ⟨o, v, k o q, r⟩⟩
theorem Un.track {fs ex : List Addr} {H0 H : Hp} {h0 h : Heap} {a : Addr} {o : HO} (u : Un fs ex H0 H h0 h) (new : h0.get? a = none) (na : H a = none) : Un fs ex H0 (upd H a o) h0 h where
  keep := u.keep
  slot := u.slot
  free := fun b ob e n hx => by
    rw [upd_ne (fun z => by rw [z, new] at e; cases e)]
    exact u.free b ob e n hx
  there := u.there
  tups := fun b xs e => by
    have q := u.tups b xs e
    rw [upd_ne (ne_of_none q na)]
    exact q
  frzs := fun b ob x e => by
    have q := u.frzs b ob x e
    rw [upd_ne (ne_of_none q na)]
    exact q
  tbls := fun b ps e => by
    obtain ⟨m, q⟩ := u.tbls b ps e
    exact ⟨m, by rw [upd_ne (ne_of_none q na)]; exact q⟩
theorem Inv.track {X : Cx} {pins : List (Addr × Obj)} {σ : L2.St} {H : Hp} {s : Shared} {a : Addr} {o : HO} (I : Inv X pins σ H s) (na : H a = none) (new : X.s_0.heap.get? a = none) (nL : a ≠ X.env.locals) (nC : ∀ x c, X.env.cells.lookup x = some c → c ≠ a)
    (nP : ∀ p ∈ X.pn ++ pins, p.1 ≠ a) (ok : ObjOk X.prog X.w (upd H a o) s.heap a o) : Inv X pins σ (upd H a o) s where
  ok := I.ok
  os := I.os
  bare := I.bare
  base := Un.track I.base new na
  loc := I.loc
  cell := I.cell
  free := by rw [upd_ne (Ne.symm nL)]; exact I.free
  freeC := fun x c e => by rw [upd_ne (nC x c e)]; exact I.freeC x c e
  pin := fun p hp => by
    obtain ⟨q1, q2, q3⟩ := I.pin p hp
    exact ⟨q1, by rw [upd_ne (nP p hp)]; exact q2, q3⟩
  hok := I.hok.laidN (fun _ _ q => q) na ok
  len := I.len
/-- the wish of a clause 'except x as n' whose exception a name of the suite may keep -/
def wKeep (K : PySem.W.Frag) (c : Value) (i : Nat) (ts : Addr → Value → Option Addr → TS) (Wo : WX) (D : Ends) : WX := fun cls d σ H => ∃ b, PySem.W.exmOne K cls c = some b ∧
  (b = true → ∀ a, H a = none → ts a cls d ⟨fun σ' H' => H' a = none → D.nx (σ'.set i none) (upd H' a (ExK cls d a)), D.rt, fun σ' H' => D.bk (σ'.set i none) H', fun σ' H' => D.ct (σ'.set i none) H'⟩ (σ.set i (some (.ref a))) H) ∧ (b = false → Wo cls d σ H)
theorem ps_keep {X : Cx} {x n : Str} {c : Value} {i : Nat} {body su : List Stmt} {b0 : Stmt} {np p1 p2 : Pos} {tb : WX → TS} {ts : Addr → Value → Option Addr → TS} {Wo : WX} (hx : X.ex = []) (hs : X.stack = X.env :: X.outer) (hf : X.env.frame = some X.env.locals) (nd : X.N.Nodup) (hi : X.N[i]? = some n)
    (hl : X.env.kindOf n = some .local) (hc : Names X x c) (tk : Takes X Wo) (hb : ∀ (W : WX) (pn : List (Addr × Obj)) (xe : Value → Shared → Prop), Takes (X.tr pn xe) W → PassesOwn (model X.prog X.w) X.A X.env xe → PSs (X.tr pn xe) body (tb W))
    (hsu : ∀ (a : Addr) (oe : Obj) (cls : Value) (d : Option Addr) (pn : List (Addr × Obj)), Zc cls d oe → (∃ vs, oe.data = .fields vs) → PSs (X.suite a ((a, oe) :: pn)) (b0 :: su) (ts a cls d)) :
    PS X (.Try body [.ExceptHandler (some (.Name x np)) (some n) (b0 :: su) p2] [] [] p1) (fun D σ H => tb (wKeep X.K c i ts Wo D) D σ H) := by
  refine ⟨fun pins s σ H D I h => ?_⟩
  have okX := I.ok
  have hfr : X.A.frames = some (X.env :: X.outer) := by rw [okX.frames, hs]
  let hd : List ExceptHandler := [.ExceptHandler (some (.Name x np)) (some n) (b0 :: su) p2]
  let xe : Value → Shared → Prop := fun e t => wpAny (model X.prog X.w) X.A (noteFrame e X.env) (fun _ t2 => wpAny (model X.prog X.w) X.A (setFlight e none) (fun _ t3 => wpAny (model X.prog X.w) X.A (handleBy e X.env hd) (SP X pins D) X.xe t3) X.xe t2) X.xe t
  have tkb : Takes (X.tr (X.pn ++ pins) xe) (wKeep X.K c i ts Wo D) := by
    intro u t z
    obtain ⟨a, B, sI, ps, σ1, H1, cls, d, rfl, J0, nb, up, sky, na, os, ag, b, hb1, hy, hn⟩ := z
    have J : Inv X pins σ1 H1 sI := J0.ofTry okX
    rw [show (X.tr (X.pn ++ pins) xe).stack = X.env :: X.outer from hs] at sky
    have nb' : ∀ b o, sI.heap.get? b = some o → b ∉ frs X.stack → B.get? b = some o := nb
    show wpAny _ X.A (noteFrame (.ref a) X.env) _ _ t
    refine Sky.land Zc.steady hfr hf sky fun h3 fl3 up3 => ?_
    obtain ⟨o3, v3, e3, z3, d3⟩ := fl3.there
    have J3 : Inv X pins σ1 H1 { t with heap := h3 } := J.landed nb' fl3.1 (up.trans up3) os ag
    have nfr : a ∉ frs (X.env :: X.outer) := fun hm => by
      obtain ⟨_, o', e', q'⟩ := Heap.FunFrames.mem fl3.2.2.1 hm
      rw [e3] at e'
      cases e'
      exact q' _ d3
    have nL : a ≠ X.env.locals := fun z => nfr (List.mem_filterMap.mpr ⟨_, List.mem_cons_self, by rw [hf, z]⟩)
    have nF : a ∉ X.fs := fun hm => by
      obtain ⟨e, he, q⟩ := List.mem_filterMap.mp hm
      exact nfr (List.mem_filterMap.mpr ⟨_, List.mem_cons_of_mem _ he, q⟩)
    have nI : sI.heap.get? a = none := by
      cases q : sI.heap.get? a with
      | none => rfl
      | some o =>
        have := nb' a o q (by rw [hs]; exact nfr)
        rw [fl3.2.1] at this
        cases this
    have n0 : X.s_0.heap.get? a = none := by
      cases q : X.s_0.heap.get? a with
      | none => rfl
      | some o =>
        obtain ⟨o', q'⟩ := J.base.there a o q (by rw [hx]; exact List.not_mem_nil)
        rw [nI] at q'
        cases q'
    have nP : ∀ p ∈ X.pn ++ pins, p.1 ≠ a := fun p hp z => by
      have q := (J.pin p hp).1
      rw [z, nI] at q
      cases q
    refine wpAny_handleBy_cons (codeAny_handlers_test ?_) (fun q => nomatch q)
    have ty : PySem.W.Looks (model X.prog X.w) h3 (typeOf (.ref a)) cls := fun A Q E s k q => wpAny_typeOf_ref (k _ _ e3) (by rw [z3.1]; exact q)
    have lm := PySem.W.exm_one (M := model X.prog X.w) J3.kIn ty hb1
    have test : ∀ {Q E : Value → Shared → Prop}, Q c { t with heap := h3 } → wpAny (model X.prog X.w) (X.A.mark (some (.ref a))) (eval (.Name x np) X.env) Q E { t with heap := h3 } := fun {Q E} q => by
      have S3 := J3.suite e3 d3 na nL nF
      rcases hc with ⟨hg, hdb, hm | ⟨hm, hv, hnn⟩⟩
      · exact ld_glob (X := X.suite a _) S3 hg hm q hdb
      · exact ld_blt (X := X.suite a _) S3 hg hm hv q hnn hdb
    refine test (lm.here ?_)
    cases b with
    | true =>
      refine codeAny_handlers_suite_as (HandSPX.lands_againZ fl3 fun h4 fl4 up4 => ?_)
      obtain ⟨o4, v4, e4, z4, d4⟩ := fl4.there
      have S4 := (J.landed nb' fl4.1 ((up.trans up3).trans up4) os ag : Inv X pins σ1 H1 { t with heap := h4 }).suite e4 d4 na nL nF
      refine store_ok (X := X.suite a ((a, o4) :: (X.pn ++ pins))) (v := .ref a) S4 nd hi (.inl hl) rfl (fun s5 S5 => ?_) (.inr hl)
      refine wpAny_mono ((hsu a o4 cls d (X.pn ++ pins) z4 ⟨_, d4⟩).run [] s5 _ H1 _ S5 (hy rfl a na)) (fun fl s6 hsp => ?_) (fun _ _ z => z.elim)
      have fin : ∀ {σ6 : L2.St} {H6 : Hp} {Q : Shared → Prop}, Inv (X.suite a ((a, o4) :: (X.pn ++ pins))) [] σ6 H6 s6 → (∀ s7, Inv (X.suite a ((a, o4) :: (X.pn ++ pins))) [] (σ6.set i none) H6 s7 → Q s7) →
          wpAny (model X.prog X.w) X.A (do bindName X.env n .none; unbindBehindTheSuite X.env n p2) (fun _ s7 => Q s7) X.xe s6 := fun S6 hq => gone_ok (X := X.suite a _) S6 nd hi hl hq
      cases fl with
      | next =>
        obtain ⟨σ6, H6, S6, q6⟩ := hsp
        refine fin S6 fun s7 S7 => ?_
        obtain ⟨g1, g2, _⟩ := S7.pin (a, o4) (List.mem_append.mpr (.inl List.mem_cons_self))
        have J7 := S7.unsuite okX
        refine ⟨_, _, Inv.track J7 g2 n0 nL (fun y cc e => ?_) nP (exK_ok g1 z4 d4), q6 g2⟩
        intro z
        obtain ⟨v, w1⟩ := J7.cell y cc e
        rw [z] at w1
        obtain ⟨ob, w2, w3⟩ := w1
        rw [g1] at w2
        cases w2
        rw [d4] at w3
        cases w3
      | brk =>
        obtain ⟨σ6, H6, S6, q6⟩ := hsp
        exact fin S6 fun s7 S7 => ⟨_, _, S7.unsuite okX, q6⟩
      | cont =>
        obtain ⟨σ6, H6, S6, q6⟩ := hsp
        exact fin S6 fun s7 S7 => ⟨_, _, S7.unsuite okX, q6⟩
      | ret u =>
        obtain ⟨v6, σ6, H6, S6, r6, q6⟩ := hsp
        exact fin S6 fun s7 S7 => ⟨_, _, _, S7.unsuite okX, r6, q6⟩
    | false =>
      show wpAny _ X.A (handleBy (.ref a) X.env []) _ _ _
      refine wpAny_handleBy_nil ?_
      obtain ⟨_, _, _, oe, vs, T, _, _, he, _, hd1, ht, _⟩ := id fl3
      unfold PySem.passOn
      refine wpAny_bind (wpAny_field he hd1 ht ?_)
      rw [if_neg (show ¬ ((Value.ref T == Value.none) = true) from by simp)]
      have away : wpAny (model X.prog X.w) X.A (setFlight (.ref a) X.env.frame) (fun _ t4 => wpAny (model X.prog X.w) X.A (throw (.ref a) : Sem Flow) (SP X pins D) X.xe t4) X.xe { t with heap := h3 } := by
        rw [hf]
        refine HandSPX.setFlight_upZ fl3 fun h4 held up4 => wpAny_throw (tk _ _ ?_)
        refine ⟨a, B, sI, pins, σ1, H1, cls, d, rfl, J, nb', (up.trans up3).trans up4, ?_, na, os, ag, hn rfl⟩
        rw [hs]
        exact .inr (.inr held)
      exact wpAny_bind away
  refine wpAny_Try_except (wpAny_mono ((hb _ (X.pn ++ pins) xe tkb PassesOwn.looking).run [] s σ H D (I.toTry _) h) (fun f s1 q => ?_) fun e s1 z => z)
  cases f with
  | next =>
    obtain ⟨σ1, H1, J1, q1⟩ := q
    exact wpAny_execs_nil ⟨_, _, J1.ofTry okX, q1⟩
  | brk =>
    obtain ⟨σ1, H1, J1, q1⟩ := q
    exact ⟨_, _, J1.ofTry okX, q1⟩
  | cont =>
    obtain ⟨σ1, H1, J1, q1⟩ := q
    exact ⟨_, _, J1.ofTry okX, q1⟩
  | ret u =>
    obtain ⟨v, σ1, H1, J1, r1, q1⟩ := q
    exact ⟨_, _, _, J1.ofTry okX, r1, q1⟩
/-- a class of errors of the program, over ValueError, without __init__ of its own: what raising it, and asking a kept one, wants -/
structure ExF (K : PySem.W.Frag) (C : Addr) : Prop where
  x : PySem.W.excIn K C [.type "ValueError", .type "Exception", .type "BaseException", .type "object"] "ValueError.__new__" = true
  k : PySem.W.keepIn K (.ref C) = true
  b : PySem.W.subIn K (.ref C) (.type "BaseException") = some true
  t : PySem.W.typeIn K (.ref C) = some (.type "type")
  i : PySem.W.isClsIn K C = true
/-- isinstance(x, c), x a kept exception of the own class D -/
def rIsX (K : PySem.W.Frag) : List V → Hp → VK → Prop := fun xs H Q => ∃ (a D : Addr) (c : V) (u : Value) (b : Bool), xs = [.ref a, c] ∧ H a = some (ExK (.ref D) none a) ∧ ExcC K D ∧ ClsV c u ∧ PySem.W.kitOne K (.ref D) u = some b ∧ Q (.bl b) H
def rIsXT (K : PySem.W.Frag) : List V → Hp → VK → Prop := fun xs H Q => ∃ (a D tp : Addr) (cs : List V) (us : List Value) (b : Bool), xs = [.ref a, .ref tp] ∧ H a = some (ExK (.ref D) none a) ∧ ExcC K D ∧ H tp = some (.tup cs) ∧ Paired ClsV cs us ∧ PySem.W.kitAny K (.ref D) us = some b ∧ Q (.bl b) H
theorem exK_inst {X : Cx} {pins : List (Addr × Obj)} {σ : L2.St} {H : Hp} {s : Shared} {a D : Addr} (I : Inv X pins σ H s) (ha : H a = some (ExK (.ref D) none a)) : ∃ oe, PySem.W.InstAt s.heap a oe D none := by
  obtain ⟨⟨oe, vs, g1, z1, d1⟩, _⟩ := (show ObjOk X.prog X.w H s.heap a (ExK (.ref D) none a) from I.hok a _ ha)
  refine ⟨oe, ?_⟩
  obtain ⟨oc, od, oda, osl⟩ := oe
  obtain ⟨h1, h2⟩ := z1
  dsimp only at h1 h2 d1
  subst h1 h2 d1
  exact ⟨g1, rfl, rfl, trivial⟩
theorem call_isX {X : Cx} : CallR X (.builtin "isinstance") (rIsX X.K) := by
  intro pins s σ H xs us Q I r h
  obtain ⟨a, D, c, u, b, rfl, ha, C, k, e, q⟩ := h
  obtain ⟨u1, u2, rfl, r1, r2⟩ := vals2 r
  have e2 := k.eq r2
  subst e2
  cases (show u1 = Value.ref a from r1)
  obtain ⟨oe, J⟩ := exK_inst I ha
  exact PySem.W.kia_one (PySem.W.handS_kitx_exc C.hg C.hk C.hs C.hd C.ha C.hn C.ht C.hm) I.kIn J e (fun z => nomatch z) fun tk => ⟨.bl b, H, I.tok tk, rfl, q⟩
theorem call_isXT {X : Cx} : CallR X (.builtin "isinstance") (rIsXT X.K) := by
  intro pins s σ H xs us Q I r h
  obtain ⟨a, D, tp, cs, ws, b, rfl, ha, C, hT, k, e, q⟩ := h
  obtain ⟨u1, u2, rfl, r1, r2⟩ := vals2 r
  cases (show u1 = Value.ref a from r1)
  cases (show u2 = Value.ref tp from r2)
  obtain ⟨oe, J⟩ := exK_inst I ha
  obtain ⟨_, its, rv, o, h1, h2, n, h3⟩ := (show ObjOk X.prog X.w H s.heap tp (.tup cs) from I.hok tp _ hT)
  have e3 := ClsV.all k rv
  subst e3
  obtain ⟨oc, od, dt, sl⟩ := o
  simp only at h2 h3
  subst h2 h3
  exact PySem.W.kia_tup (PySem.W.handS_kitx_exc C.hg C.hk C.hs C.hd C.ha C.hn C.ht C.hm) I.kIn J h1 e (fun z => nomatch z) fun tk => ⟨.bl b, H, I.tok tk, rfl, q⟩
/-! ### a new dict that is walked: it stays as it is from now on -/
def tFrz (td : TE) : TE := fun σ H Q => td σ H fun x H1 => ∃ d kvs, x = .ref d ∧ H1 d = some (.dK kvs) ∧ ∀ od, Q (.ref d) (upd H1 d (.frz od (.dK kvs)))
theorem pe_frz {X : Cx} {e : Expr} {td : TE} (h : PE X e td) : PE X e (tFrz td) := by
  refine ⟨fun pins s σ H Q I hw => thn (h.run pins s σ H _ I hw) fun u s1 ⟨x, H1, I1, rx, d, kvs, ex, hd, q⟩ => ?_⟩
  subst ex
  obtain ⟨od, I2⟩ := I1.lock hd trivial
  exact ⟨.ref d, _, I2, rx, q od⟩
/-! ### sorted(xs) of pairs, sorted(d.items()) -/
theorem each_self {α : Type} {R : Value → α → Prop} (f : α → Value) : ∀ (zs : List α), (∀ z ∈ zs, R (f z) z) → PySem.W.EachIs R (zs.map f) zs
  | [], _ => .nil
  | z :: zs, h => .cons (h z List.mem_cons_self) (each_self f zs fun y hy => h y (List.mem_cons_of_mem _ hy))
theorem each_eq {α : Type} {f : α → Value} : ∀ {vs : List Value} {zs : List α}, PySem.W.EachIs (fun v z => v = f z) vs zs → vs = zs.map f
  | _, _, .nil => rfl
  | _, _, .cons h t => by rw [h, each_eq t]; rfl
def prS (e : Str × Str) : PyData := .tuple [.str e.1, .str e.2]
def prI (e : Int × Str) : PyData := .tuple [.int e.1, .str e.2]
def leIS (a b : Int × Str) : Prop := a.1 < b.1 ∨ (a.1 = b.1 ∧ LeS a.2 b.2)
theorem leIS_anti {a b : Int × Str} (h : leIS a b) (h' : leIS b a) : a = b := by
  obtain ⟨i, x⟩ := a
  obtain ⟨j, y⟩ := b
  rcases h with h | ⟨h1, h2⟩ <;> rcases h' with h' | ⟨h3, h4⟩
  · exact absurd h (by omega)
  · have : i < j := h; have : j = i := h3; omega
  · have : i = j := h1; have : j < i := h'; omega
  · have e1 : i = j := h1
    have e2 : x = y := leS_anti h2 h4
    rw [e1, e2]
theorem le_prI {a b : Int × Str} (h : PySem.W.dataLe false prI a b = true) : leIS a b := by
  have h2 : (!PySem.W.dataLt (prI b) (prI a)) = true := h
  unfold prI at h2
  rw [PySem.W.dataLt_pair (by simp [PySem.W.alike]) (by simp [PySem.W.alike]), PySem.W.dataLt_int, PySem.W.dataLt_str] at h2
  simp only [PyData.eqv, beq_iff_eq] at h2
  unfold leIS
  by_cases e : b.1 = a.1
  · rw [if_pos e] at h2
    refine .inr ⟨e.symm, ?_⟩
    by_cases e2 : b.2 = a.2
    · rw [e2]; exact List.le_refl _
    · rw [if_neg e2] at h2
      have : ¬ (sg b.2 < sg a.2) := by simpa using h2
      exact List.not_lt.mp this
  · rw [if_neg e] at h2
    have : ¬ (b.1 < a.1) := by simpa using h2
    exact .inl (by omega)
theorem le_prS {a b : Str × Str} (h : PySem.W.dataLe false prS a b = true) : LeS a.1 b.1 := by
  have h2 : (!PySem.W.dataLt (prS b) (prS a)) = true := h
  unfold prS at h2
  rw [PySem.W.dataLt_pair (by simp [PySem.W.alike]) (by simp [PySem.W.alike]), PySem.W.dataLt_str, PySem.W.dataLt_str] at h2
  simp only [PyData.eqv, beq_iff_eq] at h2
  by_cases e : b.1 = a.1
  · rw [e]; exact List.le_refl _
  · rw [if_neg e] at h2
    have : ¬ (sg b.1 < sg a.1) := by simpa using h2
    exact List.not_lt.mp this
theorem depth_prI (e : Int × Str) : (prI e).depth ≤ 3 := by
  unfold prI
  simp only [PyData.depth, PyData.depthAll]
  decide
theorem alike_prI (l : List (Addr × Int × Str)) : PySem.W.AllAlike (l.map fun z => prI z.2) := PySem.W.AllAlike.of fun b b' => by simp [prI, PySem.W.alike, PySem.W.alikeAll]
/-- sorted(xs) of tuples (int, text) -/
def rSortIS (K : PySem.W.Frag) : List V → Hp → VK → Prop := fun xs H Q => ∃ (a : Addr) (zs : List (Addr × Int × Str)), xs = [.ref a] ∧ SqL K H a (zs.map fun z => V.ref z.1) ∧ zs.length ≤ 4000 ∧ (∀ z ∈ zs, SqT K H z.1 [.int z.2.1, .str z.2.2]) ∧
  ∀ (p : Addr) (us : List (Addr × Int × Str)), H p = none → us.Perm zs → us.Pairwise (fun a b => leIS a.2 b.2) → Q (.ref p) (upd H p (.lst (us.map fun z => V.ref z.1)))
theorem cr_sortIS {X : Cx} (hu : X.A.units + 64 < cLine) : CallR X (.builtin "sorted") (rSortIS X.K) := by
  intro pins s σ H vs us Q I r h
  obtain ⟨a, zs, rfl, hs, few, hz, q⟩ := h
  obtain ⟨its, rv, hl, hzz⟩ := I.list hs
  obtain ⟨u, rfl, ru⟩ := vals1 r
  obtain rfl : u = Value.ref a := ru
  have ei : its = zs.map fun z => Value.ref z.1 := by
    have e : (zs.map fun z => V.ref z.1) = (zs.map (·.1)).map V.ref := by rw [List.map_map]; rfl
    rw [e] at rv
    rw [refs_at rv, List.map_map]
    rfl
  subst ei
  refine PySem.W.sorted_data (bs := zs) (enc := fun z => prI z.2) (R := fun v z => v = .ref z.1) hl.isList (each_self _ zs fun _ _ => rfl) (each_self _ zs fun z hz' => ?_) (alike_prI _) (.tuples fun b => ⟨_, _, rfl⟩) (Nat.le_trans few (by decide)) (fun b _ => by have := depth_prI b.2; omega) fun out hlen ho => ?_
  · obtain ⟨its, rv, ⟨o, ho, hc, n, hd⟩, _⟩ := I.tuple (hz z hz')
    obtain ⟨u1, u2, rfl, ⟨t1, rfl⟩, ⟨t2, rfl⟩⟩ := vals2 rv
    exact ⟨_, Reads.tuple ho hc hd (.cons (.int _ t1) (.cons (.str _ t2) .nil))⟩
  · obtain rfl := each_eq (f := fun z : Addr × Int × Str => Value.ref z.1) ho
    have pz : (zs.mergeSort (PySem.W.dataLe false fun z : Addr × Int × Str => prI z.2)).Perm zs := List.mergeSort_perm _ _
    have pw := PySem.W.sort_pairwise (PySem.W.sortLe_total (PyProof.Rows.listOrd PyProof.Rows.itemOrd) false fun z : Addr × Int × Str => PySem.W.keyToks (prI z.2)) zs
    obtain ⟨n, hn⟩ := sortedAll_at s.heap (zs.map fun z => Value.ref z.1) (List.toArray ((zs.mergeSort (PySem.W.dataLe false fun z : Addr × Int × Str => prI z.2)).map fun z => Value.ref z.1))
    have nf : H (s.heap.objs.size + 1) = none := I.hok.fresh (Nat.le_succ _)
    refine ⟨.ref (s.heap.objs.size + 1), _, I.laid (o := .lst ((zs.mergeSort (PySem.W.dataLe false fun z : Addr × Int × Str => prI z.2)).map fun z => V.ref z.1)) (t' := s.toks) (fun b o e => sortedAll_old e) (Nat.le_succ _) ⟨?_, _, n, vals_maps (fun z : Addr × Int × Str => V.ref z.1) (fun z => Value.ref z.1) _ fun _ _ => rfl, hn⟩, rfl, q _ _ nf pz (pw.imp fun h => le_prI h)⟩
    rw [List.length_map, pz.length_eq]
    exact Nat.le_trans few (by decide)
/-! d.items() -/
theorem mt_itemsK {X : Cx} : MtR X "dict.items" (fun x xs H Q => ∃ (a : Addr) (kvs : List (Key × V)), x = .ref a ∧ xs = [] ∧ H a = some (.dK kvs) ∧ ∀ p, H p = none → Q (.ref p) (upd H p (DX.itemsO p a))) := by
  intro pins s σ H x xs v us Q I rx rxs h
  obtain ⟨a, kvs, rfl, rfl, ha, q⟩ := h
  cases rx
  cases rxs
  obtain ⟨z, hd, xs', rel, o, es, ep, ho, hx, hdat, _⟩ := dk_of I.hok ha
  refine DT.callItems (es := es) (ep := ep) hd ⟨o, ho, hx, hdat⟩ ?_
  have hf : H s.heap.objs.size = none := I.hok.fresh (Nat.le_refl _)
  exact ⟨.ref s.heap.objs.size, upd H s.heap.objs.size (DX.itemsO s.heap.objs.size a), I.laid (t' := s.toks) (fun b u e => Heap.get?_push_of_some _ e) (Nat.le_refl _) (DX.itemsO_ok (Heap.get?_push_size _ rfl)), rfl, q _ hf⟩
def txK (es : List (Str × Str)) : List (Key × V) := es.map fun e => (.inr e.1, .str e.2)
def rSortIt2 : List V → Hp → VK → Prop := fun vs H Q => ∃ (p a : Addr) (es : List (Str × Str)), vs = [.ref p] ∧ H p = some (DX.itemsO p a) ∧ H a = some (.dK (txK es)) ∧
  ∀ (H' : Hp) (l : Addr) (zs : List (Addr × Str × Str)), Same H H' → H l = none → H' l = some (.lst (zs.map fun z => V.ref z.1)) → (zs.map (·.2)).Perm es → zs.Pairwise (fun a b => LeS a.2.1 b.2.1) → (∀ z ∈ zs, H z.1 = none ∧ H' z.1 = some (.tup [.str z.2.1, .str z.2.2])) → Q (.ref l) H'
theorem depth_prS (e : Str × Str) : (prS e).depth ≤ 3 := by
  unfold prS
  simp only [PyData.depth, PyData.depthAll]
  decide
theorem alike_prS (l : List (Addr × Str × Str)) : PySem.W.AllAlike (l.map fun z => prS z.2) := PySem.W.AllAlike.of fun b b' => by simp [prS, PySem.W.alike, PySem.W.alikeAll]
theorem tx_at {es : List (Str × Str)} {vs : List (Key × Value)} (r : KV (txK es) vs) {j : Nat} {q : Key × Value} (h : vs[j]? = some q) : ∃ e, es[j]? = some e ∧ q.1 = .inr e.1 ∧ RelV (.str e.2) q.2 := by
  obtain ⟨e0, h0, h1, h2⟩ := DX.pget r h
  unfold txK at h0
  rw [List.getElem?_map] at h0
  obtain ⟨e, he, rfl⟩ := Option.map_eq_some_iff.mp h0
  exact ⟨e, he, h1.symm, h2⟩
theorem cr_sortIt2 {X : Cx} (hc : X.calm = true) (hu : X.A.units + 64 < cLine) : CallR X (.builtin "sorted") rSortIt2 := by
  intro pins s σ H vs us Q I r h
  obtain ⟨p, a, es, rfl, hp, ha, q⟩ := h
  obtain rfl := Vals.ref1 r
  have view : s.heap.IsItemsView p a := (show ObjOk X.prog X.w H s.heap p (DX.itemsO p a) from I.hok p _ hp).1
  obtain ⟨z, hd, xs', rel, o, ds, ep, ho, hx, hdat, hks, hps, hn⟩ := dk_of I.hok ha
  have l1 : es.length = xs'.length := by
    have := Paired.length rel
    unfold txK at this
    rwa [List.length_map] at this
  have z' : es.length ≤ sizeLine := by unfold txK at z; rwa [List.length_map] at z
  have l2 : ds.size = es.length := by rw [← Array.length_toList, hps.length, l1]
  have hh : X.A.handled = none := I.ok.hd hc
  refine DT.sortedI (es := ds) (ep := ep) hh view ⟨o, ho, hx, hdat⟩ (by rw [l2]; exact z') fun h' tk as hk hlt hl hG => ?_
  have lak : as.length = es.length := by omega
  have nd : as.Nodup := List.Pairwise.imp (fun h => Nat.ne_of_lt h) hG.rise
  have pr : ∀ (j : Nat) (b : Addr), as[j]? = some b → ∃ (e : Str × Str) (t1 t2 : Tok), es[j]? = some e ∧ h'.get? b = some { cls := .type "tuple", data := .seq #[Value.str e.1 t1, Value.str e.2 t2] } := by
    intro j b hj
    obtain ⟨en, he, hg⟩ := hG.pairs j b hj
    have jl : j < xs'.length := by rw [← l1, ← lak]; exact (List.getElem?_eq_some_iff.mp hj).1
    have hx' := List.getElem?_eq_getElem jl
    obtain ⟨e, he', k1, k2⟩ := tx_at rel hx'
    obtain ⟨g1, g2⟩ := hps.get? (i := j) (by rw [Array.getElem?_toList]; exact he) hx'
    have g1' : keyIs (.inr e.1) en.key = true := by rw [← k1]; exact g1
    obtain ⟨t2, e2⟩ := k2
    rcases keyIs_shape g1' with ⟨_, _, q, _⟩ | ⟨y, t1, q, e1⟩
    · cases q
    · cases q
      refine ⟨e, t1, t2, he', ?_⟩
      have g3 : (xs'.get ⟨j, jl⟩).2 = Value.str e.2 t2 := e2
      rw [hg, e1, g2, g3]
  have hob : (h'.push { cls := .type "list", data := .seq (as.map Value.ref).toArray }).get? h'.objs.size = some (seqObj "list" (as.map Value.ref).toArray 0) := Heap.get?_push_size _ rfl
  have kb : ∀ b o, s.heap.get? b = some o → (h'.push { cls := .type "list", data := .seq (as.map Value.ref).toArray }).get? b = some o := fun b o e => Heap.get?_push_of_some _ (hk b o e)
  have ne0 : ∀ b o, h'.get? b = some o → b ≠ h'.objs.size := fun b o e => Nat.ne_of_lt (Heap.lt_size e)
  generalize hh2 : h'.push { cls := .type "list", data := .seq (as.map Value.ref).toArray } = h2 at hob kb ⊢
  have ka : ∀ b o, h'.get? b = some o → h2.get? b = some o := fun b o e => by rw [← hh2]; exact Heap.get?_push_of_some _ e
  have em : (as.zip es).map (fun z => Value.ref z.1) = as.map Value.ref := by
    have : (as.zip es).map (fun z => Value.ref z.1) = ((as.zip es).map (·.1)).map Value.ref := by rw [List.map_map]; rfl
    rw [this, List.map_fst_zip (by omega)]
  have es2 : (as.zip es).map (·.2) = es := List.map_snd_zip (by omega)
  have zl : (as.zip es).length = es.length := by rw [List.length_zip]; omega
  have rd : ∀ z ∈ as.zip es, ∃ l, Reads h2 (Value.ref z.1) (prS z.2) l ∧ h'.objs.size ∉ l := by
    intro z hz
    obtain ⟨j, hj⟩ := List.mem_iff_getElem?.mp hz
    obtain ⟨h1, h2'⟩ := List.getElem?_zip_eq_some.mp hj
    obtain ⟨e, t1, t2, he, hg⟩ := pr j _ h1
    rw [h2'] at he
    cases he
    exact ⟨_, Reads.tuple (ka _ _ hg) rfl rfl (.cons (.str _ t1) (.cons (.str _ t2) .nil)), fun m => by simp at m⟩
  rw [← em] at hob
  refine PySem.W.list_sort_data (s := { s with heap := h2, toks := tk }) (bs := as.zip es) (enc := fun z => prS z.2) (R := fun v z => v = .ref z.1) hob (each_self _ _ fun _ _ => rfl) (each_self _ _ rd) (alike_prS _) (.tuples fun b => ⟨_, _, rfl⟩) (by rw [zl]; exact z') (fun b _ => by have := depth_prS b.2; show X.A.units + 1 + 1 + _ < cLine; omega) fun out hlen ho2 => ?_
  obtain rfl := each_eq (f := fun z : Addr × Str × Str => Value.ref z.1) ho2
  have srt0 := PySem.W.sort_pairwise (PySem.W.sortLe_total (PyProof.Rows.listOrd PyProof.Rows.itemOrd) false fun z : Addr × Str × Str => PySem.W.keyToks (prS z.2)) (as.zip es)
  have pz : ((as.zip es).mergeSort (PySem.W.dataLe false fun z => prS z.2)).Perm (as.zip es) := List.mergeSort_perm _ _
  have srt : ((as.zip es).mergeSort (PySem.W.dataLe false fun z : Addr × Str × Str => prS z.2)).Pairwise (fun a b => LeS a.2.1 b.2.1) := srt0.imp fun h => le_prS h
  clear srt0
  revert srt pz
  generalize (as.zip es).mergeSort (PySem.W.dataLe false fun z => prS z.2) = zs
  intro pz srt
  have kF : ∀ b o, b ≠ h'.objs.size → h2.get? b = some o → (sortedHeap h2 h'.objs.size ((as.zip es).map fun z => Value.ref z.1) (zs.map fun z => Value.ref z.1).toArray).get? b = some o := fun b o hb e => (PyProof.Rows.sortedHeap_old hb (Heap.lt_size e)).trans e
  have kS : ∀ b o, s.heap.get? b = some o → (sortedHeap h2 h'.objs.size ((as.zip es).map fun z => Value.ref z.1) (zs.map fun z => Value.ref z.1).toArray).get? b = some o := fun b o e => kF b o (ne0 _ _ (hk b o e)) (kb b o e)
  obtain ⟨eF, heF⟩ := PyProof.Rows.sortedHeap_at (vs := (as.zip es).map fun z => Value.ref z.1) (out := (zs.map fun z => Value.ref z.1).toArray) hob
  have I1 : Inv X pins σ H { s with heap := sortedHeap h2 h'.objs.size ((as.zip es).map fun z => Value.ref z.1) (zs.map fun z => Value.ref z.1).toArray, toks := tk } := I.kept (t' := tk) kS
  have hn0 : H h'.objs.size = none := I.hok.fresh (Nat.le_of_lt hlt)
  have I2 : Inv X pins σ (upd H h'.objs.size (.lst (zs.map fun z => V.ref z.1))) { s with heap := sortedHeap h2 h'.objs.size ((as.zip es).map fun z => Value.ref z.1) (zs.map fun z => Value.ref z.1).toArray, toks := tk } :=
    I1.take (t' := tk) (fun b ob _ e => e) (I.fpOk (Nat.le_of_lt hlt) hn0) ⟨by rw [List.length_map, pz.length_eq, zl]; exact z', _, eF, vals_maps (fun z : Addr × Str × Str => V.ref z.1) (fun z => Value.ref z.1) _ fun _ _ => rfl, heF⟩
  have nd2 : (zs.map (·.1)).Nodup := by
    have e := (pz.map (·.1)).nodup_iff.mpr (show ((as.zip es).map (·.1)).Nodup by rw [List.map_fst_zip (by omega)]; exact nd)
    exact e
  have at_ : ∀ z ∈ zs, ∃ (j : Nat) (t1 t2 : Tok), as[j]? = some z.1 ∧ h'.get? z.1 = some { cls := .type "tuple", data := .seq #[Value.str z.2.1 t1, Value.str z.2.2 t2] } := by
    intro z hz
    obtain ⟨j, hj⟩ := List.mem_iff_getElem?.mp (pz.mem_iff.mp hz)
    obtain ⟨h1, h2'⟩ := List.getElem?_zip_eq_some.mp hj
    obtain ⟨e, t1, t2, he, hg⟩ := pr j _ h1
    rw [h2'] at he
    cases he
    exact ⟨j, t1, t2, h1, hg⟩
  obtain ⟨H2, I3, g, qt⟩ := DX.takeT (P := fun b vs => ∃ z ∈ zs, z.1 = b ∧ vs = [.str z.2.1, .str z.2.2]) I (zs.map (·.1)) _ I2 nd2 fun b hb => by
    obtain ⟨z, hz, rfl⟩ := List.mem_map.mp hb
    obtain ⟨j, t1, t2, hj, hg⟩ := at_ z hz
    have nb : z.1 ≠ h'.objs.size := ne0 _ _ hg
    have lo : s.heap.objs.size ≤ z.1 := Nat.le_of_lt (hG.above _ (List.mem_of_getElem? hj))
    refine ⟨lo, by rw [upd_ne nb]; exact I.hok.fresh lo, _, ⟨z, hz, rfl, rfl⟩, fun H3 => ⟨by show 2 ≤ sizeLine; decide, [Value.str z.2.1 t1, Value.str z.2.2 t2], .cons ⟨t1, rfl⟩ (.cons ⟨t2, rfl⟩ .nil), _, kF _ _ nb (ka _ _ hg), rfl, 0, rfl⟩⟩
  refine ⟨.ref h'.objs.size, H2, I3, rfl, q H2 h'.objs.size zs (fun b o e => g b o (by rw [upd_ne (ne_of_none e hn0)]; exact e)) hn0 (g _ _ upd_same) (by have e := pz.map (·.2); rw [es2] at e; exact e) srt fun z hz => ?_⟩
  obtain ⟨vs, ⟨z2, hz2, e1, rfl⟩, hv⟩ := qt z.1 (List.mem_map.mpr ⟨z, hz, rfl⟩)
  have ez : z2 = z := by
    obtain ⟨i, hi⟩ := List.mem_iff_getElem?.mp hz
    obtain ⟨j, hj⟩ := List.mem_iff_getElem?.mp hz2
    have hi1 : (zs.map (·.1))[i]? = some z.1 := by rw [List.getElem?_map, hi]; rfl
    have hj1 : (zs.map (·.1))[j]? = some z.1 := by rw [List.getElem?_map, hj, ← e1]; rfl
    have ij := (List.getElem?_inj (List.getElem?_eq_some_iff.mp hi1).1 nd2).mp (hi1.trans hj1.symm)
    rw [← ij, hi] at hj
    exact (Option.some.inj hj).symm
  rw [ez] at hv
  obtain ⟨j, _, _, hj, _⟩ := at_ z hz
  exact ⟨I.hok.fresh (Nat.le_of_lt (hG.above _ (List.mem_of_getElem? hj))), hv⟩
/-! ### sorted(..) of any number of texts -/
theorem le_str {a b : Str} (h : PySem.W.dataLe false PyData.str a b = true) : LeS a b := by
  have h2 : (!PySem.W.dataLt (.str b) (.str a)) = true := h
  rw [PySem.W.dataLt_str] at h2
  exact List.not_lt.mp (show ¬ (sg b < sg a) by simpa using h2)
theorem up_of {us : List Str} (h : us.Pairwise LeS) : sortedS us = true := sortedS_of_pairwise _ (h.imp fun {a b} q => by
  rw [ltCps_eq]
  exact decide_eq_false (List.not_lt.mpr q))
theorem alike_str (l : List Str) : PySem.W.AllAlike (l.map PyData.str) := PySem.W.AllAlike.of fun b b' => by simp [PySem.W.alike]
theorem each_strs : ∀ {ys : List Str} {us : List Value}, Vals (ys.map V.str) us → PySem.W.EachIs (fun v y => ∃ t, v = Value.str y t) us ys
  | [], us, r => by
    cases r
    exact .nil
  | y :: ys, us, r => by
    rw [List.map_cons] at r
    cases r with
    | cons h t => exact .cons h (each_strs t)
theorem vals_strs : ∀ {us : List Value} {ys : List Str}, PySem.W.EachIs (fun v y => ∃ t, v = Value.str y t) us ys → Vals (ys.map V.str) us
  | _, _, .nil => .nil
  | _, _, .cons h t => .cons h (vals_strs t)
theorem cr_sortStr {X : Cx} (hu : X.A.units + 64 < cLine) : CallR X (.builtin "sorted") (fun xs H Q => ∃ (a : Addr) (ys : List Str), xs = [.ref a] ∧ SqL X.K H a (ys.map V.str) ∧ ys.length ≤ 4000 ∧ ∀ (us : List Str) (p : Addr), us.Perm ys → sortedS us = true → H p = none → Q (.ref p) (upd H p (.lst (us.map V.str)))) := by
  intro pins s σ H vs us Q I r h
  obtain ⟨a, ys, rfl, hs, few, q⟩ := h
  obtain ⟨its, rv, hl, hzz⟩ := I.list hs
  obtain ⟨u, rfl, ru⟩ := vals1 r
  obtain rfl : u = Value.ref a := ru
  have e := each_strs rv
  refine PySem.W.sorted_data (bs := ys) (enc := PyData.str) (R := fun v y => ∃ t, v = Value.str y t) hl.isList e (e.mono fun v y ⟨t, q⟩ => ⟨[], by rw [q]; exact .str y t⟩) (alike_str _) (.others fun b => ⟨(fun z => by cases z), (fun xs z => by cases z)⟩) (Nat.le_trans few (by decide)) (fun b _ => by show X.A.units + 2 + 0 < cLine; omega) fun out hlen ho => ?_
  have pz : (ys.mergeSort (PySem.W.dataLe false PyData.str)).Perm ys := List.mergeSort_perm _ _
  have pw := PySem.W.sort_pairwise (PySem.W.sortLe_total (PyProof.Rows.listOrd PyProof.Rows.itemOrd) false fun z : Str => PySem.W.keyToks (.str z)) ys
  obtain ⟨n, hn⟩ := sortedAll_at s.heap its (List.toArray out)
  refine ⟨.ref (s.heap.objs.size + 1), _, I.laid (o := .lst ((ys.mergeSort (PySem.W.dataLe false PyData.str)).map V.str)) (t' := s.toks) (fun b o e => sortedAll_old e) (Nat.le_succ _) ⟨?_, _, n, vals_strs ho, hn⟩, rfl, q _ _ pz (up_of (pw.imp fun h => le_str h)) (I.hok.fresh (Nat.le_succ _))⟩
  rw [List.length_map, pz.length_eq]
  exact Nat.le_trans few (by decide)
theorem cr_sortDk {X : Cx} (hc : X.calm = true) (hu : X.A.units + 64 < cLine) : CallR X (.builtin "sorted") (fun xs H Q => ∃ (a : Addr) (kvs : List (Key × V)) (ks : List Str), xs = [.ref a] ∧ Rd H a (.dK kvs) ∧ kvs.map (·.1) = ks.map Sum.inr ∧ ks.length ≤ 4000 ∧
    ∀ (ys : List Str) (p : Addr), ys.Perm ks → sortedS ys = true → H p = none → Q (.ref p) (upd H p (.lst (ys.map V.str)))) := by
  intro pins s σ H xs us Q I r h
  obtain ⟨a, kvs, ks, rfl, hd, hks, few, q⟩ := h
  obtain rfl := Vals.ref1 r
  obtain ⟨_, lo, vs, rel, dd⟩ := dk_rd I.hok hd
  obtain ⟨ep, hat⟩ := dd.dictAt
  have hkeys : vs.map (·.1) = ks.map Sum.inr := rel.keys.symm.trans hks
  have hl : vs.length = ks.length := by have e := congrArg List.length hkeys; rwa [List.length_map, List.length_map] at e
  have big : ks.length ≤ sizeLine := Nat.le_trans few (by decide)
  refine Calls.call_function_entry kind_sorted plain_sorted entry_sorted (args_sorted1 _) ?_
  unfold Builtin.«sorted»
  refine wpAny_bind (m := checkCount "sorted" 1 1 _) (wpAny_pure (wpAny_bind (PySem.W.kdu_collect (A := X.A.in1) (PySem.W.kdl_dict (knd := mixKind X.prog X.w) (kvs := vs) (ep := ep) lo) (I.ok.hd hc) hat (by omega) fun h' tk acc hk hacc => ?_)))
  have e : PySem.W.EachIs (fun v y => ∃ t, v = Value.str y t) acc.toList ks := .of_zip (by rw [Array.length_toList, hacc.1, hl]) fun z hz => by
    obtain ⟨j, hj⟩ := List.mem_iff_getElem?.mp hz
    obtain ⟨h1, h2⟩ := List.getElem?_zip_eq_some.mp hj
    rw [Array.getElem?_toList] at h1
    obtain ⟨k, x, e1, e2⟩ := hacc.2 j _ h1
    have e3 : (vs.map (·.1))[j]? = some k := by rw [List.getElem?_map, e1]; rfl
    rw [hkeys, List.getElem?_map, h2] at e3
    cases e3
    obtain ⟨t, ev⟩ := Value.isStrOf_shape (x := z.2) (v := z.1) e2
    exact ⟨t, ev⟩
  have al : acc.toList.length ≤ sizeLine := by rw [e.length]; exact big
  refine wpAny_bind (wpAny_newList ?_ al)
  have at1 : (h'.push (seqObj "list" acc.toList.toArray 0)).get? h'.objs.size = some (seqObj "list" acc.toList.toArray 0) := Heap.get?_push_size _ rfl
  have kb : ∀ b o, s.heap.get? b = some o → (h'.push (seqObj "list" acc.toList.toArray 0)).get? b = some o := fun b o e => Heap.get?_push_of_some _ (hk b o e)
  have lt' : ∀ b o, s.heap.get? b = some o → b ≠ h'.objs.size := fun b o e => Nat.ne_of_lt (Heap.lt_size (hk b o e))
  show wpAny _ _ _ _ _ { s with heap := h'.push (seqObj "list" acc.toList.toArray 0), toks := tk }
  generalize h'.push (seqObj "list" acc.toList.toArray 0) = h2 at at1 kb ⊢
  refine wpAny_bind (wpAny_holding (PySem.W.list_sort_data (s := { s with heap := h2, toks := tk }) (bs := ks) (enc := PyData.str) (R := fun v y => ∃ t, v = Value.str y t) at1 e (e.mono fun v y ⟨t, q⟩ => ⟨[], by rw [q]; exact .str y t, List.not_mem_nil⟩) (alike_str _) (.others fun b => ⟨(fun z => by cases z), (fun xs z => by cases z)⟩) big (fun b _ => by show X.A.units + 1 + 1 + 0 < cLine; omega) fun out hlen ho => ?_))
  have pz : (ks.mergeSort (PySem.W.dataLe false PyData.str)).Perm ks := List.mergeSort_perm _ _
  have pw := PySem.W.sort_pairwise (PySem.W.sortLe_total (PyProof.Rows.listOrd PyProof.Rows.itemOrd) false fun z : Str => PySem.W.keyToks (.str z)) ks
  obtain ⟨eF, heF⟩ := PyProof.Rows.sortedHeap_at (vs := acc.toList) (out := out.toArray) at1
  have I1 : Inv X pins σ H { s with heap := sortedHeap h2 h'.objs.size acc.toList out.toArray, toks := tk } := I.kept (t' := tk) fun b o e => (PyProof.Rows.sortedHeap_old (lt' b o e) (Heap.lt_size (kb b o e))).trans (kb b o e)
  have Ih : Inv X pins σ H { s with heap := h', toks := tk } := I.kept hk
  have hn0 : H h'.objs.size = none := Ih.hok.fresh (Nat.le_refl _)
  refine wpAny_pure ⟨_, rfl, .ref h'.objs.size, _, I1.take (o := .lst ((ks.mergeSort (PySem.W.dataLe false PyData.str)).map V.str)) (t' := tk) (fun b ob _ e => e) (Ih.fpOk (Nat.le_refl _) hn0) ⟨?_, _, eF, vals_strs ho, heF⟩, rfl, q _ _ pz (up_of (pw.imp fun h => le_str h)) hn0⟩
  rw [List.length_map, pz.length_eq]
  exact big
/-! ### xs[::-1], {**a, **b} -/
def tRev (K : PySem.W.Frag) (te : TE) (tm : TO) : TE := fun σ H Q => te σ H fun x H1 => tm σ H1 fun l H2 => l = some (-1) ∧ ∃ a xs, x = .ref a ∧ SqL K H2 a xs ∧ ∀ p, H2 p = none → Q (.ref p) (upd H2 p (.lst xs.reverse))
theorem vals_rev {xs : List V} {us : List Value} (r : Vals xs us) : Vals xs.reverse us.reverse := by
  induction r with
  | nil => exact .nil
  | cons h t ih => rw [List.reverse_cons, List.reverse_cons]; exact ih.append (.cons h .nil)
theorem pe_rev {X : Cx} {e m : Expr} {te : TE} {tm : TO} {pos p2 : Pos} (he : PE X e te) (hm : PO X (some m) tm) : PE X (.Subscript e (.Slice none none (some m) p2) pos) (tRev X.K te tm) := by
  refine ⟨fun pins s σ H Q I h => ?_⟩
  refine Subscript_ (thn (he.run pins s σ H _ I h) fun v s1 ⟨x, H1, I1, r1, q1⟩ => ?_)
  refine wpAny_Slice ?_
  rw [evalPart_none]
  refine wpAny_pure (wpAny_pure ?_)
  refine thn (hm.run pins s1 σ H1 _ I1 q1) fun vk s3 ⟨l, H3, I3, pk, q3⟩ => ?_
  obtain ⟨rfl, a, xs, rfl, hx, q⟩ := q3
  cases r1
  have I4 : Inv X pins σ H3 { s3 with heap := s3.heap.push { cls := .type "slice", data := .fields #[.none, .none, vk] } } := I3.kept (t' := s3.toks) fun b ob q => Heap.get?_push_of_some _ q
  obtain ⟨its, r, ht, hz⟩ := I4.list hx
  have hlen := r.length
  show wpAny (model X.prog X.w) X.A (subscriptTail e (.Slice none none (some m) p2) (.ref a) (.ref s3.heap.objs.size)) (EP X pins σ Q) X.xe { s3 with heap := s3.heap.push { cls := .type "slice", data := .fields #[.none, .none, vk] } }
  refine tail_any (ops := [.ref a, .ref s3.heap.objs.size]) ht.isList.typeIs slot_list_getitem.lookup ?_ (by with_unfolding_all rfl)
  refine wpAny_getItem_list_slice ht.isList (Heap.IsSliceOf.new ..) .none .none pk (by simp) ?_ (by rw [List.size_toArray] <;> omega)
  rw [PySem.W.krv_pick]
  refine ⟨.ref _, _, I4.laid (t' := s3.toks) (o := .lst xs.reverse) (fun b ob q => Heap.get?_push_of_some _ q) (Nat.le_refl _) ?_, rfl, q _ (I4.hok.fresh (Nat.le_refl _))⟩
  refine ⟨by rw [List.length_reverse]; exact hz, its.reverse, 0, vals_rev r, ?_⟩
  exact Heap.get?_push_size _ rfl
def tDss (ta tb : TE) : TE := fun σ H Q => ∀ p, H p = none → ta σ (upd H p (.dK [])) fun x H1 => ∃ (a : Addr) (kvs : List (Key × V)), x = .ref a ∧ Rd H1 a (.dK kvs) ∧ a ≠ p ∧ H1 p = some (.dK []) ∧ (kvs.map (·.1)).Nodup ∧ kvs.length < 1000 ∧
  tb σ (upd H1 p (.dK kvs)) fun y H2 => ∃ (b : Addr) (ls : List (Key × V)), y = .ref b ∧ Rd H2 b (.dK ls) ∧ b ≠ p ∧ H2 p = some (.dK kvs) ∧ ls.length < 1000 ∧ Q (.ref p) (upd H2 p (.dK (mergeK kvs ls)))
theorem pe_dss {X : Cx} {a b : Expr} {pos : Pos} {ta tb : TE} (ha : PE X a ta) (hb : PE X b tb) : PE X (.Dict [none, none] [a, b] pos) (tDss ta tb) := by
  refine ⟨fun pins s σ H Q I h => ?_⟩
  rw [arm_eval_Dict]
  refine wpAny_bind (wpAny_standAt ?_)
  show wpAny _ _ (dictDisplay [(none, (eval a X.env >>= fun x => standAt pos >>= fun _ => pure x)), (none, (eval b X.env >>= fun x => standAt pos >>= fun _ => pure x))]) _ _ _
  unfold dictDisplay
  simp only [List.forIn_cons, List.forIn_nil, List.isEmpty_nil, if_true, pure_bind, bind_assoc, List.nil_append, List.length_cons, List.length_nil, Nat.zero_add, Nat.reduceBEq, Bool.false_eq_true, if_false, List.isEmpty_cons]
  refine wpAny_bind (wpAny_alloc ?_)
  have hn : H s.heap.objs.size = none := I.hok.fresh (Nat.le_refl _)
  have I1 := I.laid (a := s.heap.objs.size) (o := .dK []) (h' := s.heap.push { cls := .type "dict", data := .dict #[] }) (t' := s.toks) (fun _ _ q => Heap.get?_push_of_some _ q) (Nat.le_refl _) (dk_empty s.heap I.big)
  refine wpAny_bind (wpAny_holding (wpAny_bind (thn (ha.run pins _ σ _ _ I1 (h _ hn)) fun u s2 ⟨x, H1, I2, rx, a1, kvs, ex, hr1, nap, hp, nd, few, q⟩ => wpAny_bind (wpAny_standAt (wpAny_pure ?_)))))
  subst ex
  obtain rfl : u = Value.ref a1 := rx
  refine wpAny_bind (wpAny_onRaise (wpAny_tryCatch (wpAny_onRaise (wpAny_holding (mergeH I2 hp hr1 nap.symm (by show 0 + kvs.length ≤ 2000; omega) fun s3 I3 => ?_)))))
  rw [mergeK_nd kvs [] (by rw [List.nil_append]; exact nd), List.nil_append] at I3
  refine wpAny_bind (wpAny_holding (wpAny_bind (thn (hb.run pins _ σ _ _ I3 q) fun u2 s4 ⟨y, H2, I4, ry, b1, ls, ey, hr2, nbp, hp2, few2, q2⟩ => wpAny_bind (wpAny_standAt (wpAny_pure ?_)))))
  subst ey
  obtain rfl : u2 = Value.ref b1 := ry
  exact wpAny_bind (wpAny_onRaise (wpAny_tryCatch (wpAny_onRaise (wpAny_holding (mergeH I4 hp2 hr2 nbp.symm (by omega) fun s5 I5 => wpAny_pure ⟨.ref s.heap.objs.size, _, I5, rfl, q2⟩)))))
/-! ### x.ljust(n, fill) and x.rstrip(signs) -/
theorem mt_ljustF {X : Cx} : MtR X "str.ljust" (fun x xs H Q => ∃ (a f : Str) (i : Int), x = .str a ∧ xs = [.int i, .str f] ∧ PadOk i = true ∧ f.length = 1 ∧ Q (.str (Txt.ljustF a i (f.cps.getD 0 0))) H) := by
  intro pins s σ H x xs v us Q I rx rs h
  obtain ⟨a, f, i, rfl, rfl, hp, hf, q⟩ := h
  obtain ⟨t, rfl⟩ := rx
  obtain ⟨u1, u2, rfl, r1, r2⟩ := vals2 rs
  obtain ⟨t1, rfl⟩ := r1
  obtain ⟨t2, rfl⟩ := r2
  exact ljust_fill hp hf fun t' k => ⟨.str (Txt.ljustF a i (f.cps.getD 0 0)), H, I.tok k, ⟨t', rfl⟩, q⟩
theorem pad_ok {n : Nat} (h : n ≤ 1000) : PadOk (n : Int) = true := by
  have h1 : fitsSsize (n : Int) = true := by
    unfold fitsSsize
    rw [Bool.not_eq_true', Bool.or_eq_false_iff]
    exact ⟨decide_eq_false (by omega), decide_eq_false (by omega)⟩
  have h2 : PySem.Builtin.Str.tooLong (n : Int).toNat = false := by
    show decide _ = false
    exact decide_eq_false (by rw [Int.toNat_natCast]; exact Nat.not_lt.mpr (Nat.le_trans h (by decide)))
  unfold PadOk
  rw [h1, h2]
  rfl
theorem ljust_zero {x : Str} {w : Nat} (h : x.length ≤ w) : Txt.ljustF x (w : Int) (("0" : Str).cps.getD 0 0) = x ++ Txt.mul "0" ((w - x.length : Nat) : Int) := by
  rw [zero_is]
  show Txt.ljustF x (w : Int) 48 = _
  unfold Txt.ljustF
  apply str_ext
  show sg _ = sg _
  by_cases e : (w : Int) ≤ x.length
  · rw [if_pos e, sg_app, sg_mul, show w - x.length = 0 by omega, List.replicate_zero, List.append_nil]
  · rw [if_neg e, sg_app, sg_mul]
    show (PySem.Builtin.Str.padded x 0 ((w : Int).toNat - x.length) 48).cps.toList = _
    rw [padded_list, List.replicate_zero, List.nil_append, Int.toNat_natCast]
theorem rstrip_pre (x y : Str) : Pre (Txt.rstripChars x y) x := by
  obtain ⟨j, _, e⟩ := rstripChars_is_prefix x y
  rw [e]
  show (PySem.Builtin.Str.strSub x 0 j).cps.toList <+: _
  rw [PySem.StrLaws.strSub_toList, List.drop_zero]
  exact List.take_prefix _ _
theorem pre_bits {x y : Str} (h : Pre x y) (hb : isBits y = true) : isBits x = true := bits_iff.mpr fun c hc => bits_iff.mp hb c (List.IsPrefix.subset h hc)
theorem cut_pre (x : Str) (hi : Option Int) : Pre (cutS x none hi) x := by
  show sg (cutS x none hi) <+: sg x
  unfold cutS
  show ((sg x).drop 0).take (_ - 0) <+: sg x
  rw [List.drop_zero]
  exact List.take_prefix _ _
theorem cut_last {z : Str} (h : z ≠ "") : (cutS z none (some (-1))).length + 1 ≤ z.length := by
  have h1 : 1 ≤ z.length := by
    rcases Nat.eq_zero_or_pos z.length with e | e
    · exfalso
      apply h
      apply str_ext
      show sg z = sg ""
      rw [sg_empty]
      exact List.eq_nil_of_length_eq_zero (by rw [sg_len]; exact e)
    · exact e
  rw [← sg_len]
  show (((sg z).drop _).take _).length + 1 ≤ _
  rw [List.length_take]
  have h2 : HT.sIx z.length z.length (some (-1)) ≤ z.length - 1 := by
    unfold HT.sIx
    simp only []
    split <;> omega
  omega
/-! ### x in, not in a set of texts -/
theorem txS_setOf {P : Program} {w : World} {h : Heap} {a : Addr} {ks : List Str} (R : TxS w h a ks) : ∃ n, h.SetOf (PySem.strKind P w) a (fun k => decide (k ∈ ks)) n := by
  obtain ⟨o, es, ep, t, ho, hx, hd, T⟩ := R
  refine ⟨es.size, o, es, ep, t, ho, hx, hd, T.elems, fun k => ?_, T.few, T.fit, rfl⟩
  rw [decide_eq_true_iff, ← T.mem.mem_iff, List.mem_map]
  exact ⟨fun ⟨e, he, q⟩ => ⟨e, he, (tx_is (T.ent e he) k).mpr q⟩, fun ⟨e, he, q⟩ => ⟨e, he, (tx_is (T.ent e he) k).mp q⟩⟩
def rInTx (w : World) (neg : Bool) : R2 := fun x y H Q => ∃ (z : Str) (a : Addr) (ks : List Str), x = .str z ∧ y = .ref a ∧ H a = some (TxO w a ks) ∧ Q (.bl (if neg then !decide (z ∈ ks) else decide (z ∈ ks))) H
theorem op_inTx {X : Cx} : OpR X (compareOp .In) (rInTx X.w false) := by
  intro pins s σ H x y v u Q I rx ry h
  obtain ⟨z, a, ks, rfl, rfl, ha, q⟩ := h
  cases ry
  obtain ⟨t, rfl⟩ := rx
  obtain ⟨n, hS⟩ := txS_setOf (P := X.prog) (I.hok a _ ha).1
  exact wpAny_inSet_of (strKind_is _ _ z t) rfl hS ⟨.bl (decide (z ∈ ks)), H, I.tok _, rfl, q⟩
theorem op_notInTx {X : Cx} : OpR X (compareOp .NotIn) (rInTx X.w true) := by
  intro pins s σ H x y v u Q I rx ry h
  obtain ⟨z, a, ks, rfl, rfl, ha, q⟩ := h
  cases ry
  obtain ⟨t, rfl⟩ := rx
  obtain ⟨n, hS⟩ := txS_setOf (P := X.prog) (I.hok a _ ha).1
  exact wpAny_notInSet_of (strKind_is _ _ z t) rfl hS ⟨.bl (!decide (z ∈ ks)), H, I.tok _, rfl, q⟩
/-- xs.count(None), xs texts and None -/
def nonB (v : Value) : Bool := match v with
  | .none => true
  | _ => false
def ntV : V → Bool
  | .non => true
  | .str _ => true
  | _ => false
def isNon : V → Bool
  | .non => true
  | _ => false
theorem nonB_eq {y : V} {v : Value} (h : ntV y = true) (r : RelV y v) : nonB v = isNon y := by
  cases y with
  | non =>
    cases r
    rfl
  | str z =>
    obtain ⟨t, rfl⟩ := r
    rfl
  | _ => cases h
theorem nonB_at {A : Around} {s : Shared} {y : V} {v : Value} (h : ntV y = true) (r : RelV y v) : SeqAt.EqAt A s v .none (nonB v) := by
  cases y with
  | non =>
    cases r
    exact SeqAt.EqAt.same _
  | str z =>
    obtain ⟨t, rfl⟩ := r
    exact SeqAt.EqAt.str_none z t
  | _ => cases h
theorem count_vals : ∀ {ys : List V} {us : List Value}, Vals ys us → (∀ y ∈ ys, ntV y = true) → us.countP nonB = ys.countP isNon
  | _, _, .nil, _ => rfl
  | y :: ys, u :: us, .cons h t, q => by
    rw [List.countP_cons, List.countP_cons, count_vals t fun z hz => q z (List.mem_cons_of_mem _ hz), nonB_eq (q y List.mem_cons_self) h]
theorem vals_back_all : ∀ {ys : List V} {us : List Value}, Vals ys us → (∀ y ∈ ys, ntV y = true) → ∀ u ∈ us, ∃ z, ntV z = true ∧ RelV z u
  | _, _, .nil, _, u, h => by cases h
  | y :: ys, v :: us, .cons h t, q, u, hu => by
    rcases List.mem_cons.mp hu with rfl | hu
    · exact ⟨y, q y List.mem_cons_self, h⟩
    · exact vals_back_all t (fun z hz => q z (List.mem_cons_of_mem _ hz)) u hu
theorem mt_countN {X : Cx} : MtR X "list.count" (fun x xs H Q => ∃ (p : Addr) (ys : List V), x = .ref p ∧ xs = [.non] ∧ SqL X.K H p ys ∧ (∀ y ∈ ys, ntV y = true) ∧ Q (.int (ys.countP isNon : Nat)) H) := by
  intro pins s σ H x xs v us Q I rx rxs h
  obtain ⟨p, ys, rfl, rfl, hs, hn, q⟩ := h
  cases rx
  obtain ⟨u, rfl, ru⟩ := rxs.one
  cases ru
  obtain ⟨its, rv, ⟨⟨cls, dd, data, sl⟩, n, ho, hc, hdn, hd⟩, hlen⟩ := I.list hs
  simp only at hc hd
  subst hc hd
  have all := vals_back_all rv hn
  refine call_meets PySem.F.slot_list_count ⟨_, ho, rfl⟩ PySem.F.entry_list_count (PySem.F.args_list_count_2 _ _)
    (SeqAt.list_countAt p its.toArray n dd sl .none nonB) ⟨ho, fun y hy => ?_, ?_⟩
  · obtain ⟨z, hz, r⟩ := all y (by simpa using hy)
    exact nonB_at hz r
  · refine ⟨.int (ys.countP isNon : Nat), H, I.tok _, ⟨s.toks, ?_⟩, q⟩
    show Value.int ((its.toArray.toList.countP nonB : Nat) : Int) s.toks = Value.int ((ys.countP isNon : Nat) : Int) s.toks
    rw [← count_vals rv hn]
abbrev sG : Stmt := sTgt
abbrev sK : Stmt := sTChk
abbrev sU : Stmt := sInit
abbrev sT : Stmt := sTInit
abbrev sR : Stmt := sRows
abbrev sPw : Stmt := sWidthP
abbrev sLo : Stmt := sLongest
abbrev sLu : Stmt := sLook
abbrev sMd : Stmt := sMade
abbrev sVw : Stmt := sWith
abbrev sWr : Stmt := sWithout
/-! ### what rows say, changes in their order -/
def gV (kvs : List (Key × V)) (y : Str) : V := (valV kvs (.inr y)).getD .non
theorem gV_tgt {w : Nat} {xs : List Str} {kvs : List (Key × V)} (ok : RowsOk w isTgtV xs kvs) (y : Str) : (∃ t, gV kvs y = .str t ∧ isTgtV (.str t) ∧ y ∈ xs) ∨ (gV kvs y = .non ∧ y ∉ xs) := by
  unfold gV
  cases e : valV kvs (.inr y) with
  | none => exact .inr ⟨rfl, fun h => by have q := valV_mem.mpr ((inr_mem ok.keys y).mpr h); rw [e] at q; cases q⟩
  | some v =>
    have hm := valV_in e
    obtain ⟨kv, hk, e1⟩ := List.mem_map.mp hm
    have e2 := valV_some ok.acc.nd (k := kv.1) (v := kv.2) hk
    rw [e1, e] at e2
    obtain ⟨t, ht, _⟩ := tgt_sm (ok.val kv hk)
    refine .inl ⟨t, ?_, ?_, (inr_mem ok.keys y).mp hm⟩
    · show v = .str t
      rw [← ht]
      exact Option.some.inj e2
    · rw [← ht]
      exact ok.val kv hk
theorem gV_scal {w w2 : Nat} {xs zs : List Str} {ks ls : List (Key × V)} (h1 : RowsOk w isTgtV xs ks) (h2 : RowsOk w2 isTgtV zs ls) (y : Str) : scal (gV ks y) (gV ls y) = true := by
  rcases gV_tgt h1 y with ⟨t, e, _⟩ | ⟨e, _⟩ <;> rcases gV_tgt h2 y with ⟨t2, e2, _⟩ | ⟨e2, _⟩ <;> rw [e, e2] <;> rfl
/-- the rows that differ, each with what is said at last -/
structure WantOk (ks ls : List (Key × V)) (us : List Str) (W : List (Key × V)) : Prop where
  keys : W.map (·.1) = us.map Sum.inr
  nd : us.Nodup
  mem : ∀ y, y ∈ us ↔ gV ks y ≠ gV ls y
  val : ∀ y ∈ us, valV W (.inr y) = some (gV ls y)
  few : us.length ≤ 200
def ordA (x y : Str) : Prop := leIS (-(x.length : Int), x) (-(y.length : Int), y)
def ordB (x y : Str) : Prop := leIS ((x.length : Int), x) ((y.length : Int), y)
structure IsSeq (ks ls : List (Key × V)) (cs : List (Str × V)) (A B : List Str) : Prop where
  eq : cs = A.map (fun y => (y, gV ls y)) ++ B.map (fun y => (y, gV ls y))
  memA : ∀ y, y ∈ A ↔ gV ks y ≠ gV ls y ∧ gV ls y ≠ .non
  memB : ∀ y, y ∈ B ↔ gV ks y ≠ gV ls y ∧ gV ls y = .non
  ndA : A.Nodup
  ndB : B.Nodup
  upA : A.Pairwise ordA
  upB : B.Pairwise ordB
  few : A.length + B.length ≤ 200
theorem perm_of_mem {α : Type} {l m : List α} (h1 : l.Nodup) (h2 : m.Nodup) (h : ∀ x, x ∈ l ↔ x ∈ m) : l.Perm m := (List.perm_ext_iff_of_nodup h1 h2).mpr h
theorem ordA_anti {x y : Str} (h : ordA x y) (h' : ordA y x) : x = y := congrArg Prod.snd (leIS_anti h h')
theorem ordB_anti {x y : Str} (h : ordB x y) (h' : ordB y x) : x = y := congrArg Prod.snd (leIS_anti h h')
theorem IsSeq.uniq {ks ls ks' ls' : List (Key × V)} {cs cs' : List (Str × V)} {A B A' B' : List Str} (hk : ∀ y, gV ks y = gV ks' y) (hl : ∀ y, gV ls y = gV ls' y) (h : IsSeq ks ls cs A B) (h' : IsSeq ks' ls' cs' A' B') : cs = cs' := by
  have eA : A = A' := List.Perm.eq_of_pairwise (le := ordA) (fun _ _ _ _ => ordA_anti) h.upA h'.upA (perm_of_mem h.ndA h'.ndA fun y => by rw [h.memA, h'.memA, hk, hl])
  have eB : B = B' := List.Perm.eq_of_pairwise (le := ordB) (fun _ _ _ _ => ordB_anti) h.upB h'.upB (perm_of_mem h.ndB h'.ndB fun y => by rw [h.memB, h'.memB, hk, hl])
  rw [h.eq, h'.eq, eA, eB]
  congr 1 <;> exact List.map_congr_left fun y _ => by rw [hl]
theorem IsSeq.mem {ks ls : List (Key × V)} {cs : List (Str × V)} {A B : List Str} (h : IsSeq ks ls cs A B) (c : Str × V) : c ∈ cs ↔ gV ks c.1 ≠ gV ls c.1 ∧ c.2 = gV ls c.1 := by
  rw [h.eq, List.mem_append, List.mem_map, List.mem_map]
  constructor
  · rintro (⟨y, hy, rfl⟩ | ⟨y, hy, rfl⟩)
    · exact ⟨((h.memA y).mp hy).1, rfl⟩
    · exact ⟨((h.memB y).mp hy).1, rfl⟩
  · rintro ⟨h1, h2⟩
    obtain ⟨y, v⟩ := c
    have h2 : v = gV ls y := h2
    subst h2
    by_cases e : gV ls y = .non
    · exact .inr ⟨y, (h.memB y).mpr ⟨h1, e⟩, rfl⟩
    · exact .inl ⟨y, (h.memA y).mpr ⟨h1, e⟩, rfl⟩
theorem IsSeq.keys {ks ls : List (Key × V)} {cs : List (Str × V)} {A B : List Str} (h : IsSeq ks ls cs A B) : cs.map (·.1) = A ++ B := by
  rw [h.eq, List.map_append, List.map_map, List.map_map]
  congr 1
  · exact List.map_id _
  · exact List.map_id _
theorem IsSeq.nd {ks ls : List (Key × V)} {cs : List (Str × V)} {A B : List Str} (h : IsSeq ks ls cs A B) : (cs.map (·.1)).Nodup := by
  rw [h.keys]
  exact List.nodup_append.mpr ⟨h.ndA, h.ndB, fun a ha b hb e => ((h.memA a).mp ha).2 (by rw [e]; exact ((h.memB b).mp hb).2)⟩
theorem keys_putK {kvs : List (Key × V)} {k j : Key} {v : V} : j ∈ (putK kvs k v).map (·.1) ↔ j = k ∨ j ∈ kvs.map (·.1) := by
  rw [← valV_mem, valV_put, ← valV_mem]
  by_cases e : j = k
  · rw [if_pos e]
    exact ⟨fun _ => .inl e, fun _ => rfl⟩
  · rw [if_neg e]
    exact ⟨.inr, fun h => h.resolve_left e⟩
theorem nd_putK {kvs : List (Key × V)} {k : Key} {v : V} (h : (kvs.map (·.1)).Nodup) : ((putK kvs k v).map (·.1)).Nodup := by
  by_cases hm : k ∈ kvs.map (·.1)
  · have e : (putK kvs k v).map (·.1) = kvs.map (·.1) := by
      unfold putK
      rw [if_pos (by obtain ⟨p, hp, e⟩ := List.mem_map.mp hm; exact List.any_eq_true.mpr ⟨p, hp, decide_eq_true e⟩), List.map_map]
      refine List.map_congr_left fun p _ => ?_
      show (if p.1 = k then (p.1, v) else p).1 = p.1
      split <;> rfl
    rw [e]
    exact h
  · rw [putK_end hm, List.map_append]
    exact List.nodup_append.mpr ⟨h, List.nodup_cons.mpr ⟨List.not_mem_nil, List.nodup_nil⟩, fun a ha b hb e => hm (by have e2 : b = k := List.mem_singleton.mp hb; rw [← e2, ← e]; exact ha)⟩
theorem keys_mergeK : ∀ {ls kvs : List (Key × V)} {j : Key}, j ∈ (mergeK kvs ls).map (·.1) ↔ j ∈ kvs.map (·.1) ∨ j ∈ ls.map (·.1)
  | [], kvs, j => by
    show j ∈ kvs.map (·.1) ↔ _
    exact ⟨.inl, fun h => h.resolve_right List.not_mem_nil⟩
  | p :: ls, kvs, j => by
    show j ∈ (mergeK (putK kvs p.1 p.2) ls).map (·.1) ↔ _
    rw [keys_mergeK, keys_putK, List.map_cons, List.mem_cons]
    constructor
    · rintro ((h | h) | h)
      · exact .inr (.inl h)
      · exact .inl h
      · exact .inr (.inr h)
    · rintro (h | h | h)
      · exact .inl (.inr h)
      · exact .inl (.inl h)
      · exact .inr h
theorem nd_mergeK : ∀ {ls kvs : List (Key × V)}, (kvs.map (·.1)).Nodup → ((mergeK kvs ls).map (·.1)).Nodup
  | [], _, h => h
  | p :: ls, kvs, h => by
    show ((mergeK (putK kvs p.1 p.2) ls).map (·.1)).Nodup
    exact nd_mergeK (nd_putK h)
/-- the keys of a dict of texts, as texts -/
theorem keyStrs {kvs : List (Key × V)} (h : ∀ j ∈ kvs.map (·.1), ∃ y, j = Sum.inr y) : ∃ us : List Str, kvs.map (·.1) = us.map Sum.inr := by
  generalize kvs.map (·.1) = l at h
  induction l with
  | nil => exact ⟨[], rfl⟩
  | cons j l ih =>
    obtain ⟨y, rfl⟩ := h j List.mem_cons_self
    obtain ⟨us, e⟩ := ih fun k hk => h k (List.mem_cons_of_mem _ hk)
    exact ⟨y :: us, by rw [e]; rfl⟩
theorem keysY {kvs : List (Key × V)} {us : List Str} (hk : kvs.map (·.1) = us.map Sum.inr) : ∀ (i : Nat) (H : Hp) (v : V) (H' : Hp), (H' = H ∧ ∃ k v', kvs[i]? = some (k, v') ∧ v = kV k) → H' = H ∧ ∃ x, us[i]? = some x ∧ v = V.str x := by
  rintro i H v H' ⟨e, k, v', h, rfl⟩
  refine ⟨e, ?_⟩
  have h1 : (kvs.map (·.1))[i]? = some k := by rw [List.getElem?_map, h]; rfl
  rw [hk, List.getElem?_map] at h1
  obtain ⟨x, hx, rfl⟩ := Option.map_eq_some_iff.mp h1
  exact ⟨x, hx, rfl⟩
theorem keys_len {kvs : List (Key × V)} {us : List Str} (hk : kvs.map (·.1) = us.map Sum.inr) : us.length = kvs.length := by
  have := congrArg List.length hk
  rw [List.length_map, List.length_map] at this
  exact this.symm
theorem keys_nd {kvs : List (Key × V)} {us : List Str} (hk : kvs.map (·.1) = us.map Sum.inr) (nd : us.Nodup) : (kvs.map (·.1)).Nodup := by
  rw [hk]
  exact nd.map Sum.inr fun a b h e => h (Sum.inr.inj e)
theorem nd_keys {kvs : List (Key × V)} {us : List Str} (hk : kvs.map (·.1) = us.map Sum.inr) (nd : (kvs.map (·.1)).Nodup) : us.Nodup := by
  rw [hk] at nd
  exact nd.of_map Sum.inr (fun a b h e => h (congrArg Sum.inr e))
theorem merge_keys {w w2 : Nat} {xs zs : List Str} {ks ls : List (Key × V)} (h1 : RowsOk w isTgtV xs ks) (h2 : RowsOk w2 isTgtV zs ls) : ∃ us : List Str, (mergeK ks ls).map (·.1) = us.map Sum.inr ∧ us.Nodup ∧ (∀ y, y ∈ us ↔ y ∈ xs ∨ y ∈ zs) ∧ us.length ≤ xs.length + zs.length := by
  obtain ⟨us, e⟩ := keyStrs (kvs := mergeK ks ls) fun j hj => by
    rcases keys_mergeK.mp hj with h | h
    · rw [h1.keys] at h
      obtain ⟨y, _, rfl⟩ := List.mem_map.mp h
      exact ⟨y, rfl⟩
    · rw [h2.keys] at h
      obtain ⟨y, _, rfl⟩ := List.mem_map.mp h
      exact ⟨y, rfl⟩
  refine ⟨us, e, nd_keys e (nd_mergeK h1.acc.nd), fun y => ?_, ?_⟩
  · rw [← inr_mem e y, keys_mergeK, inr_mem h1.keys, inr_mem h2.keys]
  · rw [keys_len e, keys_len h1.keys, keys_len h2.keys]
    exact length_mergeK _ _
theorem gV_in {w w2 : Nat} {xs zs : List Str} {ks ls : List (Key × V)} (h1 : RowsOk w isTgtV xs ks) (h2 : RowsOk w2 isTgtV zs ls) {y : Str} (h : gV ks y ≠ gV ls y) : y ∈ xs ∨ y ∈ zs := by
  rcases gV_tgt h1 y with ⟨_, _, _, h3⟩ | ⟨e, _⟩
  · exact .inl h3
  · rcases gV_tgt h2 y with ⟨_, _, _, h3⟩ | ⟨e2, _⟩
    · exact .inr h3
    · exact absurd (e.trans e2.symm) h
theorem val_keys {us : List Str} (f : Str → V) (nd : us.Nodup) {y : Str} (hy : y ∈ us) : valV (us.map fun x => ((.inr x : Key), f x)) (.inr y) = some (f y) :=
  valV_some (k := .inr y) (by rw [List.map_map]; exact nd.map (fun x : Str => (Sum.inr x : Key)) fun a b h e => h (Sum.inr.inj e)) (List.mem_map.mpr ⟨y, hy, rfl⟩)
theorem prd_map {α β γ : Type} {R : α → γ → Prop} (f : β → γ) : ∀ {as : List α} {bs : List β}, Paired (fun a b => R a (f b)) as bs → Paired R as (bs.map f)
  | _, _, .nil => .nil
  | _, _, .cons h t => .cons h (prd_map f t)
theorem prd_zip {H : Hp} (n : Str → Int) : ∀ {ts : List Addr} {us : List Str}, Paired (fun t u => H t = some (.tup [.int (n u), .str u])) ts us →
    ∃ zs : List (Addr × Int × Str), ts = zs.map (·.1) ∧ us = zs.map (·.2.2) ∧ ∀ z ∈ zs, z.2.1 = n z.2.2 ∧ H z.1 = some (.tup [.int z.2.1, .str z.2.2])
  | _, _, .nil => ⟨[], rfl, rfl, fun _ h => absurd h List.not_mem_nil⟩
  | _, _, .cons (a := t) (b := u) h r => by
    obtain ⟨zs, e1, e2, e3⟩ := prd_zip n r
    refine ⟨(t, n u, u) :: zs, by rw [e1]; rfl, by rw [e2]; rfl, fun z hz => ?_⟩
    rcases List.mem_cons.mp hz with rfl | hz
    · exact ⟨rfl, h⟩
    · exact e3 z hz
/-- what a dict says of some keys, as tuples in their order -/
structure Picked (H : Hp) (n : Str → Int) (us : List Str) (vs : List (Addr × Int × Str)) : Prop where
  at_ : ∀ z ∈ vs, H z.1 = some (.tup [.int z.2.1, .str z.2.2])
  perm : (vs.map (·.2.2)).Perm us
  up : (vs.map (·.2.2)).Pairwise fun x y => leIS (n x, x) (n y, y)
theorem Picked.same {H H' : Hp} {n : Str → Int} {us : List Str} {vs : List (Addr × Int × Str)} (s : Same H H') (h : Picked H n us vs) : Picked H' n us vs := ⟨fun z hz => s _ _ (h.at_ z hz), h.perm, h.up⟩
theorem Picked.of {H : Hp} {n : Str → Int} {us : List Str} {zs vs : List (Addr × Int × Str)} (hz : ∀ z ∈ zs, z.2.1 = n z.2.2 ∧ H z.1 = some (.tup [.int z.2.1, .str z.2.2])) (e : us = zs.map (·.2.2)) (p : vs.Perm zs) (pw : vs.Pairwise fun a b => leIS a.2 b.2) : Picked H n us vs := by
  refine ⟨fun z h => (hz z (p.mem_iff.mp h)).2, by rw [e]; exact p.map _, ?_⟩
  rw [List.pairwise_map]
  refine pw.imp_of_mem fun {a b} ha hb h => ?_
  have e1 := (hz a (p.mem_iff.mp ha)).1
  have e2 := (hz b (p.mem_iff.mp hb)).1
  rw [← e1, ← e2]
  exact h
theorem at_seq {t u : TS} {D : Ends} {σ : L2.St} {H : Hp} (h : t { D with nx := u D } σ H) : tSeq t u D σ H := h
theorem at_nm {k : Nat} {v : V} {σ : L2.St} {H : Hp} {Q : L2.St → Hp → Prop} (h : Q (σ.set k (some v)) H) : gName k v σ H Q := h
theorem at_as {te : TE} {tg : TG} {D : Ends} {σ : L2.St} {H : Hp} (h : te σ H fun x H1 => tg x σ H1 D.nx) : tAsg te tg D σ H := h
theorem at_rt {te : TE} {D : Ends} {σ : L2.St} {H : Hp} (h : te σ H D.rt) : tRet te D σ H := h
theorem at_cb1 {r : List V → Hp → VK → Prop} {t : TE} {σ : L2.St} {H : Hp} {Q : VK} (h : t σ H fun x H1 => r [x] H1 Q) : tCB r (tCons t tNil) σ H Q := h
theorem at_cons {t : TE} {ts : TA} {σ : L2.St} {H : Hp} {Q : List V → Hp → Prop} (h : t σ H fun x H1 => ts σ H1 fun xs H2 => Q (x :: xs) H2) : tCons t ts σ H Q := h
/-- sorted([(n(k), k) for k in d if b(k)]) -/
theorem pick {K : PySem.W.Frag} {i : Nat} {td : TE} {tt : TT} {te : TE} {σ : L2.St} {H : Hp} {Q : VK} {d : Addr} {W : List (Key × V)} {us : List Str} (st : Str → L2.St) (b : Str → Bool) (n : Str → Int) (hd : H d = some (.dK W)) (hk : W.map (·.1) = us.map Sum.inr) (few : us.length ≤ 900)
    (htd : ∀ H' (Q' : VK), Q' (.ref d) H' → td σ H' Q') (hst : ∀ u, (wipe σ [i]).set i (some (.str u)) = st u) (hw : ∀ u, wipe (st u) [i] = wipe σ [i])
    (ht : ∀ u ∈ us, ∀ od H' (Q' : Bool → Hp → Prop), H' d = some (.frz od (.dK W)) → Q' (b u) H' → tt (st u) H' Q')
    (he : ∀ u ∈ us, ∀ H' (Q' : VK), (∀ T, H' T = none → Q' (.ref T) (upd H' T (.tup [.int (n u), .str u]))) → te (st u) H' Q')
    (q : ∀ (p : Addr) (H' : Hp) (vs : List (Addr × Int × Str)), H p = none → Same H H' → H' p = some (.lst (vs.map fun z => V.ref z.1)) → Picked H' n (us.filter b) vs → Q (.ref p) H') :
    tLockE (tLc (iKeys td) (gName i) tt te [i]) σ H fun x H1 => rSortIS K [x] H1 Q := by
  refine ⟨d, .dK W, hd, trivial, fun od => htd _ _ ⟨d, od, rfl, .inl ⟨W, upd_same, fun D nD => ?_⟩⟩⟩
  obtain ⟨nDd, nD2⟩ := upd_free nD
  have hdf := upd_same (H := H) (a := d) (o := .frz od (.dK W))
  have keep : ∀ c o, c ≠ d → H c = some o → (upd H d (.frz od (.dK W))) c = some o := fun c o hc e => by rw [upd_ne hc]; exact e
  have free : ∀ c, (upd H d (.frz od (.dK W))) c = none → c ≠ d ∧ H c = none := fun c e => upd_free e
  revert hdf keep free nD
  generalize upd H d (.frz od (.dK W)) = Hf
  intro nD hdf keep free
  refine lc_tups walk_keys us V.str st b (fun u => .int (n u)) V.str (keys_len hk) nD (by rw [← keys_len hk]; omega) (fun _ s => s _ _ hdf) (keysY hk) (fun u _ H' Q' _ h => ?_) (fun u _ => hw u) (fun u hu H' Q' s h => ht u hu od H' Q' (s _ _ hdf) h) (fun u hu _ H' Q' s h => he u hu H' Q' h) fun H' ts s hD hp => ⟨s _ _ hdf, ?_⟩
  · show Q' ((wipe σ [i]).set i (some (.str u))) H'
    rw [hst]
    exact h
  · have s2 : Same H (upd H' d (.dK W)) := fun c o e => by
      by_cases hc : c = d
      · rw [hc, upd_same, ← hd, ← hc, e]
      · rw [upd_ne hc]
        exact s _ _ (keep c o hc e)
    obtain ⟨zs, e1, e2, e3⟩ := prd_zip (H := upd H' d (.dK W)) n (hp.mono fun t u h => by rw [upd_ne (free t h.2.1).1]; exact h.1)
    have lz : zs.length ≤ us.length := by
      have := congrArg List.length e2
      rw [List.length_map] at this
      rw [← this]
      exact List.length_filter_le _ _
    refine ⟨D, zs, rfl, SqL.of ?_, by omega, fun z hz => SqT.of (e3 z hz).2, fun p vs np pm pw => ?_⟩
    · rw [upd_ne nDd, hD, e1, List.map_map]
      rfl
    · refine q p _ vs (s2.free np) (s2.trans (same_upd np)) upd_same ?_
      exact (Picked.of e3 e2 pm pw).same (same_upd np)
theorem pk_len {H : Hp} {n : Str → Int} {us : List Str} {b : Str → Bool} {vs : List (Addr × Int × Str)} (h : Picked H n (us.filter b) vs) : vs.length ≤ us.length := by
  have := h.perm.length_eq
  rw [List.length_map] at this
  rw [this]
  exact List.length_filter_le _ _
/-- both halves give the sequence -/
theorem seq_of {H H' : Hp} {ks ls W : List (Key × V)} {us : List Str} {vs vs2 : List (Addr × Int × Str)} {ts : List Addr} (wo : WantOk ks ls us W) (h1 : Picked H (fun u => -(u.length : Int)) (us.filter fun u => !decide (gV ls u = .non)) vs) (h2 : Picked H (fun u => (u.length : Int)) (us.filter fun u => decide (gV ls u = .non)) vs2)
    (hp : Paired (fun t (z : Addr × Int × Str) => H' t = some (.tup [.str z.2.2, gV ls z.2.2])) ts (vs ++ vs2)) :
    ∃ cs, Paired (fun t (c : Str × V) => H' t = some (.tup [.str c.1, c.2])) ts cs ∧ IsSeq ks ls cs (vs.map (·.2.2)) (vs2.map (·.2.2)) := by
  refine ⟨(vs ++ vs2).map fun z => (z.2.2, gV ls z.2.2), prd_map _ hp, ⟨?_, fun y => ?_, fun y => ?_, ?_, ?_, h1.up, h2.up, ?_⟩⟩
  · rw [List.map_append, List.map_map, List.map_map]
    rfl
  · rw [h1.perm.mem_iff, List.mem_filter, wo.mem]
    by_cases e : gV ls y = .non
    · rw [decide_eq_true e]
      exact ⟨fun q => absurd q.2 (by decide), fun q => absurd e q.2⟩
    · rw [decide_eq_false e]
      exact ⟨fun q => ⟨q.1, e⟩, fun q => ⟨q.1, rfl⟩⟩
  · rw [h2.perm.mem_iff, List.mem_filter, wo.mem]
    by_cases e : gV ls y = .non
    · rw [decide_eq_true e]
      exact ⟨fun q => ⟨q.1, e⟩, fun q => ⟨q.1, rfl⟩⟩
    · rw [decide_eq_false e]
      exact ⟨fun q => absurd q.2 (by decide), fun q => absurd q.2 e⟩
  · exact h1.perm.nodup_iff.mpr (wo.nd.filter _)
  · exact h2.perm.nodup_iff.mpr (wo.nd.filter _)
  · rw [h1.perm.length_eq, h2.perm.length_eq]
    have e := wo.few
    have z : ∀ l : List Str, (l.filter fun u => !decide (gV ls u = .non)).length + (l.filter fun u => decide (gV ls u = .non)).length = l.length := fun l => by
      induction l with
      | nil => rfl
      | cons a l ih =>
        by_cases q : gV ls a = .non
        · rw [List.filter_cons_of_neg (by rw [decide_eq_true q]; decide), List.filter_cons_of_pos (by rw [decide_eq_true q]), List.length_cons, List.length_cons]
          omega
        · rw [List.filter_cons_of_pos (by rw [decide_eq_false q]; rfl), List.filter_cons_of_neg (by rw [decide_eq_false q]; decide), List.length_cons, List.length_cons]
          omega
    rw [z us]
    exact e
theorem iteNT {c A B : Prop} [Decidable c] (hc : ¬ c) (h : A) : if (!decide c) = true then A else B := by
  rw [decide_eq_false hc]
  exact iteT h
theorem map_put {us : List Str} {f : Str → V} {u : Str} (h : u ∉ us) : putK (us.map fun x => ((.inr x : Key), f x)) (.inr u) (f u) = (us ++ [u]).map fun x => ((.inr x : Key), f x) := by
  rw [putK_end, List.map_append]
  · rfl
  · rw [List.map_map]
    intro hm
    obtain ⟨y, hy1, hy2⟩ := List.mem_map.mp hm
    exact h (by rw [← Sum.inr.inj hy2]; exact hy1)
theorem notin_take {us : List Str} {i : Nat} {u : Str} (nd : us.Nodup) (h : us[i]? = some u) (b : Str → Bool) : u ∉ (us.take i).filter b := by
  intro hm
  obtain ⟨j, hj, ej⟩ := List.mem_take_iff_getElem.mp (List.mem_filter.mp hm).1
  have h1 : us[j]? = some u := by rw [← ej]; exact List.getElem?_eq_getElem _
  have := (List.getElem?_inj (List.getElem?_eq_some_iff.mp h1).1 nd).mp (h1.trans h.symm)
  omega
theorem rows_map {w : Nat} {xs ys : List Str} {kvs : List (Key × V)} (ok : RowsOk w isTgtV xs kvs) (nd : ys.Nodup) (h : ∀ y ∈ ys, y ∈ xs) : RowsOk w isTgtV ys (ys.map fun u => ((.inr u : Key), gV kvs u)) := by
  refine ⟨by rw [List.map_map]; rfl, ⟨nd, fun y hy => ok.pfx.bits y (h y hy), fun y hy => ok.pfx.len y (h y hy)⟩, fun kv hk => ?_⟩
  obtain ⟨y, hy, rfl⟩ := List.mem_map.mp hk
  rcases gV_tgt ok y with ⟨t, e, ht, _⟩ | ⟨_, e⟩
  · show isTgtV (gV kvs y)
    rw [e]
    exact ht
  · exact absurd (h y hy) e
theorem gV_map {ys : List Str} (f : Str → V) (nd : ys.Nodup) (z : Str) : gV (ys.map fun u => ((.inr u : Key), f u)) z = if z ∈ ys then f z else .non := by
  unfold gV
  by_cases h : z ∈ ys
  · rw [val_keys f nd h, if_pos h]
    rfl
  · rw [if_neg h]
    cases e : valV (ys.map fun u => ((.inr u : Key), f u)) (.inr z) with
    | none => rfl
    | some v =>
      have hm := valV_in e
      rw [List.map_map] at hm
      obtain ⟨y, hy, e2⟩ := List.mem_map.mp hm
      exact absurd hy (by rw [Sum.inr.inj e2]; exact h)
theorem gV_put (kvs : List (Key × V)) (y : Str) (v : V) (z : Str) : gV (putK kvs (.inr y) v) z = if z = y then v else gV kvs z := by
  unfold gV
  rw [valV_put]
  by_cases h : z = y
  · rw [if_pos (by rw [h]), if_pos h]
    rfl
  · rw [if_neg (fun e => h (Sum.inr.inj e)), if_neg h]
theorem mergeK_map {ys : List Str} (f : Str → V) (nd : ys.Nodup) : mergeK [] (ys.map fun u => ((.inr u : Key), f u)) = ys.map fun u => ((.inr u : Key), f u) := by
  rw [mergeK_nd, List.nil_append]
  rw [List.nil_append, List.map_map]
  exact nd.map (fun x : Str => (Sum.inr x : Key)) fun a b h e => h (Sum.inr.inj e)
/-- dict([(k, v(k)) for k in d if b(k)]) -/
theorem redict {K : PySem.W.Frag} {i : Nat} {td : TE} {tt : TT} {te : TE} {σ : L2.St} {H : Hp} {Q : VK} {d : Addr} {W : List (Key × V)} {us : List Str} (st : Str → L2.St) (b : Str → Bool) (f : Str → V) (hd : H d = some (.dK W)) (hk : W.map (·.1) = us.map Sum.inr) (nd : us.Nodup) (few : us.length ≤ 900)
    (htd : ∀ H' (Q' : VK), Q' (.ref d) H' → td σ H' Q') (hst : ∀ u, (wipe σ [i]).set i (some (.str u)) = st u) (hw : ∀ u, wipe (st u) [i] = wipe σ [i])
    (ht : ∀ u ∈ us, ∀ od H' (Q' : Bool → Hp → Prop), H' d = some (.frz od (.dK W)) → Q' (b u) H' → tt (st u) H' Q')
    (he : ∀ u ∈ us, ∀ od H' (Q' : VK), H' d = some (.frz od (.dK W)) → (∀ T, H' T = none → Q' (.ref T) (upd H' T (.tup [.str u, f u]))) → te (st u) H' Q')
    (q : ∀ (p : Addr) (H' : Hp), H p = none → Same H H' → H' p = some (.dK ((us.filter b).map fun u => (.inr u, f u))) → Q (.ref p) H') :
    tLockE (tLc (iKeys td) (gName i) tt te [i]) σ H fun x H1 => rDictP K [x] H1 Q := by
  refine ⟨d, .dK W, hd, trivial, fun od => htd _ _ ⟨d, od, rfl, .inl ⟨W, upd_same, fun D nD => ?_⟩⟩⟩
  obtain ⟨nDd, nD2⟩ := upd_free nD
  have hdf := upd_same (H := H) (a := d) (o := .frz od (.dK W))
  have keep : ∀ c o, c ≠ d → H c = some o → (upd H d (.frz od (.dK W))) c = some o := fun c o hc e => by rw [upd_ne hc]; exact e
  have free : ∀ c, (upd H d (.frz od (.dK W))) c = none → c ≠ d ∧ H c = none := fun c e => upd_free e
  revert hdf keep free nD
  generalize upd H d (.frz od (.dK W)) = Hf
  intro nD hdf keep free
  refine lc_tups walk_keys us V.str st b V.str f (keys_len hk) nD (by rw [← keys_len hk]; omega) (fun _ s => s _ _ hdf) (keysY hk) (fun u _ H' Q' _ h => ?_) (fun u _ => hw u) (fun u hu H' Q' s h => ht u hu od H' Q' (s _ _ hdf) h) (fun u hu _ H' Q' s h => he u hu od H' Q' (s _ _ hdf) h) fun H' ts s hD hp => ⟨s _ _ hdf, ?_⟩
  · show Q' ((wipe σ [i]).set i (some (.str u))) H'
    rw [hst]
    exact h
  · have s2 : Same H (upd H' d (.dK W)) := fun c o e => by
      by_cases hc : c = d
      · rw [hc, upd_same, ← hd, ← hc, e]
      · rw [upd_ne hc]
        exact s _ _ (keep c o hc e)
    refine ⟨D, ts, (us.filter b).map fun u => (.inr u, f u), rfl, SqL.of (by rw [upd_ne nDd]; exact hD), prd_map (R := fun p (kv : Key × V) => SqT K (upd H' d (.dK W)) p [kV kv.1, kv.2]) _ (hp.mono fun t u h => SqT.of (by rw [upd_ne (free t h.2.1).1]; exact h.1)), fun p np => ?_⟩
    rw [mergeK_map f (nd.filter _)]
    exact q p _ (s2.free np) (s2.trans (same_upd np)) upd_same
theorem val_gV {w : Nat} {vok : V → Prop} {xs : List Str} {kvs : List (Key × V)} (ok : RowsOk w vok xs kvs) {u : Str} (h : u ∈ xs) : valV kvs (.inr u) = some (gV kvs u) := by
  have := valV_mem.mpr ((inr_mem ok.keys u).mpr h)
  unfold gV
  cases e : valV kvs (.inr u) with
  | none => rw [e] at this; cases this
  | some v => rfl
theorem cut_strs (xs : List Str) (hi : Option Int) : ∃ us : List Str, cutV (xs.map V.str) none hi = us.map V.str ∧ (∀ u ∈ us, u ∈ xs) ∧ us.length ≤ xs.length := by
  refine ⟨xs.take (HT.sIx xs.length xs.length hi), ?_, fun u hu => List.mem_of_mem_take hu, by rw [List.length_take]; exact Nat.min_le_right _ _⟩
  unfold cutV
  rw [List.length_map]
  show ((xs.map V.str).drop 0).take (_ - 0) = _
  rw [List.drop_zero, Nat.sub_zero, List.map_take]
theorem pen_ne {H : Hp} {p c : Addr} {n : Nat} {m : List V} (h : Pen H p c n m) {a : Addr} {o : HO} (ha : H a = some o) (hl : ∀ xs, o ≠ .lst xs) : a ≠ p ∧ a ≠ c := by
  obtain ⟨ns, i, s, q⟩ := h
  exact ⟨ne_of ha q.at_ (hl _), ne_of ha q.cells (hl _)⟩
theorem pen_put {H : Hp} {p c a : Addr} {n : Nat} {m : List V} {o o' : HO} (h : Pen H p c n m) (ha : H a = some o) (hl : ∀ xs, o ≠ .lst xs) : Pen (upd H a o') p c n m := h.off (pen_ne h ha hl).1 (pen_ne h ha hl).2
theorem preBits {x y : Str} (h : Pre x y) (hb : isBits y = true) : isBits x = true := bits_iff.mpr fun c hc => bits_iff.mp hb c (List.IsPrefix.subset h hc)
theorem gV_no {w : Nat} {xs : List Str} {kvs : List (Key × V)} (ok : RowsOk w isTgtV xs kvs) {y : Str} (h : y ∉ xs) : gV kvs y = .non := by
  rcases gV_tgt ok y with ⟨_, _, _, h2⟩ | ⟨e, _⟩
  · exact absurd h2 h
  · exact e
theorem gV_sorted {w : Nat} {xs ys : List Str} {kvs ks : List (Key × V)} (ok : RowsOk w isTgtV xs kvs) (ok2 : RowsOk w isTgtV ys ks) (hs : Sorted xs kvs ks ys) (y : Str) : gV ks y = gV kvs y := by
  by_cases h : y ∈ xs
  · unfold gV
    rw [hs.val y h]
  · rw [gV_no ok h, gV_no ok2 (fun q => h (hs.perm.mem_iff.mp q))]
theorem gV_or {w : Nat} {xs : List Str} {kvs : List (Key × V)} (ok : RowsOk w isTgtV xs kvs) (y : Str) : gV kvs y = .non ∨ isTgtV (gV kvs y) := by
  rcases gV_tgt ok y with ⟨t, e, h, _⟩ | ⟨e, _⟩
  · exact .inr (by rw [e]; exact h)
  · exact .inl e
theorem gV_iff {w : Nat} {xs : List Str} {kvs : List (Key × V)} (ok : RowsOk w isTgtV xs kvs) (y : Str) : y ∈ xs ↔ gV kvs y ≠ .non := by
  rcases gV_tgt ok y with ⟨t, e, h, h2⟩ | ⟨e, h2⟩
  · exact ⟨fun _ => (by rw [e]; exact fun z => nomatch z), fun _ => h2⟩
  · exact ⟨fun q => absurd q h2, fun q => absurd e q⟩
theorem prd_get {α β : Type} {F : α → β → Prop} : ∀ {l₁ : List α} {l₂ : List β} {j : Nat} {x : α}, Paired F l₁ l₂ → l₁[j]? = some x → ∃ y, l₂[j]? = some y ∧ F x y
  | _, _, j, x, .nil, h => by simp at h
  | _, _, 0, x, .cons (b := y) f _, h => by
    simp only [List.getElem?_cons_zero] at h
    cases h
    exact ⟨y, rfl, f⟩
  | _, _, j + 1, x, .cons _ t, h => by
    simp only [List.getElem?_cons_succ] at h
    obtain ⟨y, h1, h2⟩ := prd_get (j := j) t h
    exact ⟨y, by simpa using h1, h2⟩
/-- rows that say the same are equal dicts -/
theorem eqDA_of {w w2 : Nat} {xs zs : List Str} {ks ls : List (Key × V)} (ok1 : RowsOk w isTgtV xs ks) (ok2 : RowsOk w2 isTgtV zs ls) (h : ∀ y, gV ks y = gV ls y) : ks.length = ls.length ∧ ∀ p ∈ ks, valV ls p.1 = some p.2 ∧ flatB p.2 = true := by
  have pm := perm_of_mem ok1.pfx.nd ok2.pfx.nd fun y => by rw [gV_iff ok1, gV_iff ok2, h]
  refine ⟨by rw [← keys_len ok1.keys, ← keys_len ok2.keys]; exact pm.length_eq, fun p hp => ?_⟩
  obtain ⟨y, e1, _, _, h4⟩ := ok1.acc.all p hp
  have hy : y ∈ xs := (inr_mem ok1.keys y).mp (List.mem_map.mpr ⟨p, hp, e1⟩)
  have v1 := val_gV ok1 hy
  have v2 := valV_some ok1.acc.nd (k := p.1) (v := p.2) hp
  rw [e1, v1] at v2
  have e2 := Option.some.inj v2
  refine ⟨?_, ?_⟩
  · rw [e1, val_gV ok2 (pm.mem_iff.mp hy), ← h, e2]
  · obtain ⟨t, e3, _⟩ := tgt_sm h4
    rw [e3]
    rfl

def spCheck (C IP : Addr) : Sp := fun vs H Q E => ∃ (x y e e2 : Addr) (w w2 : Nat) (ks ls : List (Key × V)), vs = [.ref x, .ref y] ∧ MapAt C H x e w ks ∧ MapAt C H y e2 w2 ls ∧ (w = w2 → Q .non H) ∧ (w ≠ w2 → E (.ref IP) none H)
abbrev sCk : Stmt := top 9
section
variable {P : Program} {w : World} {K : PySem.W.Frag} {mg : Str → Option Value} {base : Heap}
abbrev NCk : List Str := ["one", "two"]
theorem scCk : FnScope NCk ["one", "two"] (defScope sCk) := ⟨rfl, rfl, rfl, by decide +kernel, rfl, by decide +kernel, by decide +kernel⟩
set_option maxHeartbeats 8000000 in
theorem ok_Ck {f fPw pPw CC CIP : Addr} {fd fdPw : FuncData} {k : Nat} (F : Fun K "check_pair" "check_pair" sCk f fd)
    (GPw : FnOk P w K mg base CX0 k fPw fdPw ["self"] (spWidthP CC))
    (PPw : PropOf K CC "width" pPw fPw) (bPw : Binds K fdPw ["self"] [])
    (clC : Cls K CC)
    (EIP : ExF K CIP) (gIP : mg "InvalidPair" = some (.ref CIP))
    : FnOk P w K mg base (L2.CX P w) (k + 2) f fd ["one", "two"] (spCheck CC CIP) := by
  refine F.okX scCk (fun vs H Q E h => ?_) (fun cdv A outer s H vs Q E hr h => ?_)
  · obtain ⟨x, y, e, e2, w, w2, ks, ls, rfl, _⟩ := h
    rfl
  · obtain ⟨x, y, e, e2, w, w2, ks, ls, rfl, hx, hy, q1, q2⟩ := h
    have nd := scCk.nd
    have hu := hr.units
    have hu1 := hu_of hr
    have hr1 := hr.mono (Nat.le_succ k)
    refine ⟨_, pss_one (ps_if (pt_cmpR op_ne (pe_prop (pv 0) clC PPw GPw hr bPw .nil pass0 rfl) (pe_prop (pv 1) clC PPw GPw hr bPw .nil pass0 rfl) (nomark _))
        (pss_one (ps_raise rfl (takes_of rfl rfl rfl rfl) (pmk_own PySem.F.excBase_ValueError EIP.x gIP EIP.k (raises_own EIP.b EIP.t) rfl))) pss_nil), ?_⟩
    obtain ⟨⟨dx, hx'⟩, _⟩ := id hx
    obtain ⟨⟨dy, hy'⟩, _⟩ := id hy
    refine ⟨.ref x, rfl, x, dx, _, rfl, hx', x, e, w, ks, rfl, hx, .ref y, rfl, y, dy, _, rfl, hy', y, e2, w2, ls, rfl, hy, ?_⟩
    refine ⟨rfl, _, rfl, ?_⟩
    by_cases e : w = w2
    · subst e
      exact iteNS rfl (q1 rfl)
    · rw [decide_eq_false (fun z => e (by injection z with z; omega))]
      exact iteT (q2 e)
end

def spWT (C : Addr) : Sp := fun vs H Q _ => ∃ (x y e e2 : Addr) (w w2 : Nat) (xs zs : List Str) (ks ls : List (Key × V)), vs = [.ref x, .ref y] ∧ MapAt C H x e w ks ∧ MapAt C H y e2 w2 ls ∧ RowsOk w isTgtV xs ks ∧ RowsOk w2 isTgtV zs ls ∧ xs.length ≤ 90 ∧ zs.length ≤ 90 ∧
  ∀ (d : Addr) (us : List Str) (W : List (Key × V)) (H' : Hp), Same H H' → H d = none → H' d = some (.dK W) → WantOk ks ls us W → Q (.ref d) H'
abbrev sWT : Stmt := top 13
section
variable {P : Program} {w : World} {K : PySem.W.Frag} {mg : Str → Option Value} {base : Heap}
abbrev NWT : List Str := ["old", "new", "was", "now", "prefix"]
theorem scWT : FnScope NWT ["old", "new"] (defScope sWT) := ⟨rfl, rfl, rfl, by decide +kernel, rfl, by decide +kernel, by decide +kernel⟩
set_option maxHeartbeats 8000000 in
theorem ok_WT {f fR pR CC : Addr} {fd fdR : FuncData} {k : Nat} (F : Fun K "wanted_targets" "wanted_targets" sWT f fd)
    (GR : FnOk P w K mg base CX0 k fR fdR ["self"] (spRows CC))
    (PR : PropOf K CC "rows" pR fR) (bR : Binds K fdR ["self"] [])
    (clC : Cls K CC)
    : FnOk P w K mg base CX0 (k + 2) f fd ["old", "new"] (spWT CC) := by
  refine F.ok scWT (fun vs H Q E h => ?_) (fun cdv A outer s H vs Q E hr h => ?_)
  · obtain ⟨x, y, e, e2, w, w2, xs, zs, ks, ls, rfl, _⟩ := h
    rfl
  · obtain ⟨x, y, e, e2, w, w2, xs, zs, ks, ls, rfl, hx, hy, ok1, ok2, few1, few2, q⟩ := h
    have nd := scWT.nd
    have hu := hr.units
    have hu1 := hu_of hr
    have hr1 := hr.mono (Nat.le_succ k)
    refine ⟨_, pss_cons (ps_set (i := 2) nd rfl (.inr rfl) (pe_prop (pv 0) clC PR GR hr bR .nil pass0 rfl))
      (pss_cons (ps_set (i := 3) nd rfl (.inr rfl) (pe_prop (pv 1) clC PR GR hr bR .nil pass0 rfl))
      (pss_one (ps_ret (pe_dc (own := [("prefix", 4)]) (g := gName 4) rfl nd ((pi_keys (pe_frz (pe_dss (pv 2) (pv 3))))) (blkOk_by (N := NWT) (sc := defScope sWT) (by decide +kernel)) (fun _ _ _ _ _ => pg_name (i := 4) nd rfl (.inl rfl)) (fun _ _ _ _ _ => pts_one (pt_cmpR op_ne (pe_dget1 hu1 (pv 2) (pv 4) ⟨rfl, rfl, rfl, rfl⟩) (pe_dget1 hu1 (pv 3) (pv 4) ⟨rfl, rfl, rfl, rfl⟩) (nomark _))) (fun _ _ _ _ _ => (pv 4)) (fun _ _ _ _ _ => (pe_dget1 hu1 (pv 3) (pv 4) ⟨rfl, rfl, rfl, rfl⟩)))))), ?_⟩
    obtain ⟨⟨dx, hx'⟩, _⟩ := id hx
    obtain ⟨⟨dy, hy'⟩, _⟩ := id hy
    refine ⟨.ref x, rfl, x, dx, _, rfl, hx', x, e, w, ks, rfl, hx, fun d1 nd1 => ?_⟩
    have s1 := same_upd (o := .dK ks) nd1
    refine ⟨.ref y, rfl, y, dy, _, rfl, s1 _ _ hy', y, e2, w2, ls, rfl, hy.same s1, fun d2 nd2 => ?_⟩
    have s2 := same_upd (o := .dK ls) nd2
    have hd1 := s2 _ _ (upd_same (H := H) (a := d1) (o := .dK ks))
    have hd2 := upd_same (H := upd H d1 (.dK ks)) (a := d2) (o := .dK ls)
    have s2 := s1.trans s2
    revert s2 hd1 hd2
    generalize upd (upd H d1 (.dK ks)) d2 (.dK ls) = H2
    intro hd1 hd2 s2
    refine fun p np => ?_
    have n1 : d1 ≠ p := ne_of_none hd1 np
    have n2 : d2 ≠ p := ne_of_none hd2 np
    have kl := keys_len ok1.keys
    have ll := keys_len ok2.keys
    refine ⟨.ref d1, rfl, d1, ks, rfl, .inl (by rw [upd_ne n1]; exact hd1), n1, upd_same, ok1.acc.nd, by omega, .ref d2, rfl, d2, ls, rfl, .inl (by rw [upd_ne n2, upd_ne n2]; exact hd2), n2, upd_same, by omega, p, mergeK ks ls, rfl, upd_same, fun od => ?_⟩
    rw [upd_upd, upd_upd, upd_upd]
    obtain ⟨us, ke, und, umem, ulen⟩ := merge_keys ok1 ok2
    have s3 := same_upd (o := .frz od (.dK (mergeK ks ls))) np
    have hp3 := upd_same (H := H2) (a := p) (o := .frz od (.dK (mergeK ks ls)))
    have hd1 := s3 _ _ hd1
    have hd2 := s3 _ _ hd2
    have s3 := s2.trans s3
    revert s3 hd1 hd2 hp3
    generalize upd H2 p (.frz od (.dK (mergeK ks ls))) = H3
    intro hp3 hd1 hd2 s3
    refine ⟨p, od, rfl, .inl ⟨mergeK ks ls, hp3, fun D nD => ?_⟩⟩
    refine dc_vals walk_keys us V.str (fun u => [some (.ref x), some (.ref y), some (.ref d1), some (.ref d2), some (.str u)]) (fun u => !decide (gV ks u = gV ls u)) (fun u => gV ls u) (keys_len ke) und nD (by rw [← keys_len ke]; omega) (fun _ s => s _ _ hp3) (keysY ke) (fun _ _ _ _ _ h => h) (fun _ _ => rfl)
      (fun u _ H' Q' s h => ⟨.ref d1, rfl, d1, rfl, .inl ⟨_, .inl (s _ _ hd1)⟩, .str u, rfl, _, DGet.k (k := .inr u) (s _ _ hd1), .ref d2, rfl, d2, rfl, .inl ⟨_, .inl (s _ _ hd2)⟩, .str u, rfl, _, DGet.k (k := .inr u) (s _ _ hd2), gV_scal ok1 ok2 u, _, rfl, h⟩)
      (fun u _ _ H' Q' s h => ⟨.str u, rfl, h⟩) (fun u _ _ H' Q' s h => ⟨.ref d2, rfl, d2, rfl, .inl ⟨_, .inl (s _ _ hd2)⟩, .str u, rfl, _, DGet.k (k := .inr u) (s _ _ hd2), h⟩) fun H' s hD => ?_
    refine q D _ _ H' (s3.trans s) (s3.free nD) hD ⟨by rw [List.map_map]; rfl, und.filter _, fun u => ?_, fun u hu => val_keys (fun u => gV ls u) (und.filter _) hu, Nat.le_trans (List.length_filter_le _ _) (by omega)⟩
    rw [List.mem_filter]
    constructor
    · rintro ⟨_, h⟩ e
      rw [e, decide_eq_true rfl] at h
      exact absurd h (by decide)
    · exact fun h => ⟨(umem u).mpr (gV_in ok1 ok2 h), by rw [decide_eq_false h]; rfl⟩
end

def spCh (C IP : Addr) : Sp := fun vs H Q E => ∃ (x y e e2 : Addr) (w w2 : Nat) (xs zs : List Str) (ks ls : List (Key × V)), vs = [.ref x, .ref y] ∧ MapAt C H x e w ks ∧ MapAt C H y e2 w2 ls ∧ RowsOk w isTgtV xs ks ∧ RowsOk w2 isTgtV zs ls ∧ w ≤ 32 ∧ w2 ≤ 32 ∧ xs.length ≤ 90 ∧ zs.length ≤ 90 ∧
  (w ≠ w2 → E (.ref IP) none H) ∧ (w = w2 → ∀ (l : Addr) (ts : List Addr) (cs : List (Str × V)) (A B : List Str) (H' : Hp), Same H H' → H l = none → H' l = some (.lst (ts.map V.ref)) → Paired (fun t c => H' t = some (.tup [.str c.1, c.2])) ts cs → IsSeq ks ls cs A B → Q (.ref l) H')
abbrev sCh : Stmt := top 12
section
variable {P : Program} {w : World} {K : PySem.W.Frag} {mg : Str → Option Value} {base : Heap}
abbrev NCh : List Str := ["old", "new", "wanted", "given", "prefix", "removed", "_"]
theorem scCh : FnScope NCh ["old", "new"] (defScope sCh) := ⟨rfl, rfl, rfl, by decide +kernel, rfl, by decide +kernel, by decide +kernel⟩
set_option maxHeartbeats 8000000 in
theorem ok_Ch {f fCk fWT : Addr} {fd fdCk fdWT : FuncData} {k : Nat} (F : Fun K "changes" "changes" sCh f fd)
    (GCk : FnOk P w K mg base (L2.CX P w) k fCk fdCk ["one", "two"] (spCheck CC CIP))
    (FCk : Fun K "check_pair" "check_pair" sCk fCk fdCk) (bCk : Binds K fdCk ["one", "two"] []) (gCk : mg "check_pair" = some (.ref fCk))
    (GWT : FnOk P w K mg base CX0 k fWT fdWT ["old", "new"] (spWT CC))
    (FWT : Fun K "wanted_targets" "wanted_targets" sWT fWT fdWT) (bWT : Binds K fdWT ["old", "new"] []) (gWT : mg "wanted_targets" = some (.ref fWT))
    (m_len : mg "len" = none)
    (m_sorted : mg "sorted" = none)
    : FnOk P w K mg base (L2.CX P w) (k + 1) f fd ["old", "new"] (spCh CC CIP) := by
  refine F.okX scCh (fun vs H Q E h => ?_) (fun cdv A outer s H vs Q E hr h => ?_)
  · obtain ⟨x, y, e, e2, w, w2, xs, zs, ks, ls, rfl, _⟩ := h
    rfl
  · obtain ⟨x, y, e, e2, w, w2, xs, zs, ks, ls, rfl, hx, hy, ok1, ok2, w1, w2_, few1, few2, q1, q2⟩ := h
    have nd := scCh.nd
    have hu := hr.units
    have hu1 := hu_of hr
    have hr1 := hr
    refine ⟨_, pss_cons (ps_expr (pe_call GCk hr1 (by rfl) gCk FCk.kp bCk .nil (passes_call (takes_of rfl rfl rfl rfl) (fun _ _ _ _ h => h)) (pa_cons (pv 0) (pa_cons (pv 1) pa_nil))))
      (pss_cons (ps_set (i := 2) nd rfl (.inr rfl) (pe_call GWT hr1 (by rfl) gWT FWT.kp bWT .nil pass0 (pa_cons (pv 0) (pa_cons (pv 1) pa_nil))))
      (pss_cons (ps_set (i := 3) nd rfl (.inl rfl) (pe_callB (cr_sortIS hu) (by rfl) m_sorted (by decide +kernel) (pa_cons (pe_lock (pe_lc (own := [("prefix", 4)]) (g := gName 4) rfl nd (pi_keys (pv 2)) (blkOk_by (N := NCh) (sc := defScope sCh) (by decide +kernel)) (fun _ _ _ _ _ => pg_name (i := 4) nd rfl (.inl rfl)) (fun _ _ _ _ _ => pts_one (pt_cmpR op_notN (pe_dget hu1 (pv 2) (pv 4) (fun _ _ => rfl)) pe_non (nomark _))) (fun _ _ _ _ _ => (pe_tup (pa_cons (pe_un un_neg (pe_callB call_len_str (by rfl) m_len (by decide +kernel) (pa_cons (pv 4) pa_nil))) (pa_cons (pv 4) pa_nil)))))) pa_nil)))
      (pss_cons (ps_set (i := 5) nd rfl (.inl rfl) (pe_callB (cr_sortIS hu) (by rfl) m_sorted (by decide +kernel) (pa_cons (pe_lock (pe_lc (own := [("prefix", 4)]) (g := gName 4) rfl nd (pi_keys (pv 2)) (blkOk_by (N := NCh) (sc := defScope sCh) (by decide +kernel)) (fun _ _ _ _ _ => pg_name (i := 4) nd rfl (.inl rfl)) (fun _ _ _ _ _ => pts_one (pt_cmpR op_isN (pe_dget hu1 (pv 2) (pv 4) (fun _ _ => rfl)) pe_non (nomark _))) (fun _ _ _ _ _ => (pe_tup (pa_cons (pe_callB call_len_str (by rfl) m_len (by decide +kernel) (pa_cons (pv 4) pa_nil)) (pa_cons (pv 4) pa_nil)))))) pa_nil)))
      (pss_one (ps_ret (pe_lc (own := [("_", 6), ("prefix", 4)]) (g := gTup K 2 (gCons (gName 6) (gCons (gName 4) gNil))) (tt := tYes) rfl nd (pi_list (pe_op op_cat (pv 3) (pv 5))) (blkOk_by (N := NCh) (sc := defScope sCh) (by decide +kernel)) (fun _ _ _ _ _ => pg_tup rfl (pgs_cons (pg_name (i := 6) nd rfl (.inl rfl)) (pgs_cons (pg_name (i := 4) nd rfl (.inl rfl)) pgs_nil))) (fun _ _ _ _ _ => pts_nil) (fun _ _ _ _ _ => (pe_tup (pa_cons (pv 4) (pa_cons (pe_dget hu1 (pv 2) (pv 4) (fun _ _ => rfl)) pa_nil)))))))))), ?_⟩
    refine ⟨.ref x, rfl, .ref y, rfl, x, y, e, e2, w, w2, ks, ls, rfl, hx, hy, fun ew => ?_, fun ne => q1 ne⟩
    refine ⟨.ref x, rfl, .ref y, rfl, x, y, e, e2, w, w2, xs, zs, ks, ls, rfl, hx, hy, ok1, ok2, few1, few2, fun d us W H1 s1 nd1 hd wo => ?_⟩
    have len32 : ∀ u ∈ us, u.length ≤ 32 := fun u hu => by
      rcases gV_in ok1 ok2 ((wo.mem u).mp hu) with h | h
      · exact Nat.le_trans (ok1.pfx.len u h) w1
      · exact Nat.le_trans (ok2.pfx.len u h) w2_
    have wf := wo.few
    refine at_nm (at_seq (at_as (at_cb1 (pick (K := K) (i := 4) (d := d) (W := W) (us := us) (fun u => [some (.ref x), some (.ref y), some (.ref d), none, some (.str u), none, none]) (fun u => !decide (gV ls u = .non)) (fun u => -(u.length : Int)) hd wo.keys (by omega) (fun H' Q' h => ⟨.ref d, rfl, h⟩) (fun _ => rfl) (fun _ => rfl)
      (fun u hu od H' Q' hf h => ⟨.ref d, rfl, .str u, rfl, d, gV ls u, rfl, .inl ⟨W, .inr u, .inr ⟨od, hf⟩, rfl, (wo.val u hu).symm⟩, rfl, _, rfl, h⟩) (fun u hu H' Q' h => ⟨.str u, rfl, u, rfl, big_of (by have := len32 u hu; omega), _, rfl, .str u, rfl, by show 2 ≤ sizeLine; decide, h⟩) fun p1 H2 vs np1 s2 hp1 pk1 => ?_))))
    have hd2 := s2 _ _ hd
    refine at_nm (at_seq (at_as (at_cb1 (pick (K := K) (i := 4) (d := d) (W := W) (us := us) (fun u => [some (.ref x), some (.ref y), some (.ref d), some (.ref p1), some (.str u), none, none]) (fun u => decide (gV ls u = .non)) (fun u => (u.length : Int)) hd2 wo.keys (by omega) (fun H' Q' h => ⟨.ref d, rfl, h⟩) (fun _ => rfl) (fun _ => rfl)
      (fun u hu od H' Q' hf h => ⟨.ref d, rfl, .str u, rfl, d, gV ls u, rfl, .inl ⟨W, .inr u, .inr ⟨od, hf⟩, rfl, (wo.val u hu).symm⟩, rfl, _, rfl, h⟩) (fun u hu H' Q' h => ⟨.str u, rfl, u, rfl, big_of (by have := len32 u hu; omega), .str u, rfl, by show 2 ≤ sizeLine; decide, h⟩) fun p2 H3 vs2 np2 s3 hp2 pk2 => ?_))))
    have hd3 := s3 _ _ hd2
    have pk1 := pk1.same s3
    have l1 := pk_len pk1
    have l2 := pk_len pk2
    refine ⟨.ref p1, rfl, .ref p2, rfl, p1, p2, _, _, rfl, rfl, s3 _ _ hp1, hp2, big_of (by rw [List.length_map, List.length_map]; omega), fun L nL => ?_⟩
    have s4 := same_upd (o := .lst (vs.map (fun z => V.ref z.1) ++ vs2.map fun z => V.ref z.1)) nL
    have hL : (upd H3 L (.lst (vs.map (fun z => V.ref z.1) ++ vs2.map fun z => V.ref z.1))) L = some (.lst ((vs ++ vs2).map fun z => V.ref z.1)) := by rw [upd_same, List.map_append]
    have hd4 := s4 _ _ hd3
    have pk1 := pk1.same s4
    have pk2 := pk2.same s4
    have s04 := s1.trans (s2.trans (s3.trans s4))
    revert hL hd4 pk1 pk2 s04
    generalize upd H3 L (.lst (vs.map (fun z => V.ref z.1) ++ vs2.map fun z => V.ref z.1)) = H4
    intro hL hd4 pk1 pk2 s04
    clear s4 hd3 hp1 hp2 nL s3 hd2 s2
    have hz : ∀ z ∈ vs ++ vs2, H4 z.1 = some (.tup [.int z.2.1, .str z.2.2]) ∧ z.2.2 ∈ us := fun z hz => by
      rcases List.mem_append.mp hz with h | h
      · exact ⟨pk1.at_ z h, (List.mem_filter.mp (pk1.perm.mem_iff.mp (List.mem_map.mpr ⟨z, h, rfl⟩))).1⟩
      · exact ⟨pk2.at_ z h, (List.mem_filter.mp (pk2.perm.mem_iff.mp (List.mem_map.mpr ⟨z, h, rfl⟩))).1⟩
    refine ⟨L, rfl, ⟨_, SqL.of hL⟩, fun D nD => lc_tups walk_list (vs ++ vs2) (fun z => V.ref z.1) (fun z => [some (.ref x), some (.ref y), some (.ref d), some (.ref p1), some (.str z.2.2), some (.ref p2), some (.int z.2.1)]) (fun _ => true) (fun z => .str z.2.2) (fun z => gV ls z.2.2)
      (by rw [List.length_map]) nD (by rw [List.length_map, List.length_append]; omega) (fun _ s => SqL.of (s _ _ hL)) (fun i _ v _ h => ⟨h.1, by have e := h.2; rw [List.getElem?_map] at e; obtain ⟨z, hz, rfl⟩ := Option.map_eq_some_iff.mp e; exact ⟨z, hz, rfl⟩⟩)
      (fun z hz' H' Q' s h => ⟨z.1, _, rfl, SqT.of (s _ _ (hz z hz').1), rfl, _, _, rfl, _, _, rfl, rfl, h⟩) (fun _ _ => rfl) (fun _ _ _ _ _ h => h)
      (fun z hz' _ H' Q' s h => ⟨.str z.2.2, rfl, .ref d, rfl, .str z.2.2, rfl, d, gV ls z.2.2, rfl, by rw [← wo.val z.2.2 (hz z hz').2]; exact DGet.k (k := .inr z.2.2) (s _ _ hd4), by show 2 ≤ sizeLine; decide, h⟩) fun H' ts s hD hp => ?_⟩
    rw [List.filter_eq_self.mpr fun _ _ => rfl] at hp
    obtain ⟨cs, hc, isq⟩ := seq_of wo pk1 pk2 (hp.mono fun _ _ h => h.1)
    exact q2 ew D ts cs _ _ H' (s04.trans s) (s04.free nD) hD hc isq
end

theorem nd_len : ∀ {l m : List Str}, l.Nodup → (∀ x ∈ l, x ∈ m) → l.length ≤ m.length
  | [], _, _, _ => Nat.zero_le _
  | x :: l, m, nd, h => by
    obtain ⟨n1, n2⟩ := List.nodup_cons.mp nd
    have hx := h x List.mem_cons_self
    have := nd_len (l := l) (m := m.erase x) n2 fun y hy => (List.mem_erase_of_ne (fun e : y = x => n1 (by rw [← e]; exact hy))).mpr (h y (List.mem_cons_of_mem _ hy))
    rw [List.length_erase_of_mem hx] at this
    have p : 0 < m.length := List.length_pos_of_mem hx
    rw [List.length_cons]
    omega
theorem rows_map4 {w : Nat} {xs ys : List Str} {kvs : List (Key × V)} (ok : RowsOk w isTgt4 xs kvs) (nd : ys.Nodup) (h : ∀ y ∈ ys, y ∈ xs) : RowsOk w isTgt4 ys (ys.map fun u => ((.inr u : Key), gV kvs u)) := by
  refine ⟨by rw [List.map_map]; rfl, ⟨nd, fun y hy => ok.pfx.bits y (h y hy), fun y hy => ok.pfx.len y (h y hy)⟩, fun kv hk => ?_⟩
  obtain ⟨y, hy, rfl⟩ := List.mem_map.mp hk
  obtain ⟨kv, hkv, ek⟩ := List.mem_map.mp ((inr_mem ok.keys y).mpr (h y hy))
  have a1 := valV_some ok.acc.nd (k := kv.1) (v := kv.2) hkv
  have e : gV kvs y = kv.2 := by
    unfold gV
    rw [← ek, a1]
    rfl
  show isTgt4 (gV kvs y)
  rw [e]
  exact ok.val kv hkv

def spNear : Sp := fun vs H Q _ => ∃ (p c d : Addr) (n z : Nat) (m : List V) (xs : List Str) (kvs : List (Key × V)), vs = [.ref p, .int z, .ref d] ∧ Pen H p c n m ∧ n + 2000 ≤ PB ∧ z ≤ 32 ∧ H d = some (.dK kvs) ∧ RowsOk z isTgt4 xs kvs ∧ xs.length ≤ 60 ∧
  ∀ (d' : Addr) (xs' : List Str) (kvs' : List (Key × V)) (H' : Hp), But p H H' → H d' = none → H' d' = some (.dK kvs') → RowsOk z isTgt4 xs' kvs' → xs'.length ≤ xs.length + 4 → (∃ ex : List Str, ex.length ≤ 4 ∧ ∀ y ∈ xs', y ∈ xs ∨ y ∈ ex) → Pen H' p c (n + 600) m → Q (.ref d') H'
abbrev sNr : Stmt := top 38
section
variable {P : Program} {w : World} {K : PySem.W.Frag} {mg : Str → Option Value} {base : Heap}
abbrev NNr : List Str := ["pen", "size", "lines", "found", "prefix"]
theorem scNr : FnScope NNr ["pen", "size", "lines"] (defScope sNr) := ⟨rfl, rfl, rfl, by decide +kernel, rfl, by decide +kernel, by decide +kernel⟩
set_option maxHeartbeats 8000000 in
theorem ok_Nr {f fDr fX : Addr} {fd fdDr fdX : FuncData} {k : Nat} (F : Fun K "_law_near" "_law_near" sNr f fd)
    (GDr : FnOk P w K mg base CX0 k fDr fdDr ["pen", "below"] spDraw)
    (FDr : Fun K "_law_draw" "_law_draw" sDr fDr fdDr) (bDr : Binds K fdDr ["pen", "below"] []) (gDr : mg "_law_draw" = some (.ref fDr))
    (m_dict : mg "dict" = none)
    (GX : FnOk P w K mg base CX0 k fX fdX ["pen", "size", "most"] spPrefixes)
    (FX : Fun K "_law_prefixes" "_law_prefixes" sX fX fdX) (bX : Binds K fdX ["pen", "size", "most"] []) (gX : mg "_law_prefixes" = some (.ref fX))
    (m_list : mg "list" = none)
    : FnOk P w K mg base CX0 (k + 1) f fd ["pen", "size", "lines"] spNear := by
  refine F.ok scNr (fun vs H Q E h => ?_) (fun cdv A outer s H vs Q E hr h => ?_)
  · obtain ⟨p, c, d, n, z, m, xs, kvs, rfl, _⟩ := h
    rfl
  · obtain ⟨p, c, d, n, z, m, xs, kvs, rfl, hp, hn, hz, hd, ok, few, q⟩ := h
    have nd := scNr.nd
    have hu := hr.units
    have hu1 := hu_of hr
    have hr1 := hr
    refine ⟨_, pss_cons (ps_set (i := 3) nd rfl (.inl rfl) (pe_callTy (call_dictPn rfl) (by rfl) m_dict (by decide +kernel) (pa_cons (pe_lock (pe_lc (own := [("prefix", 4)]) (g := gName 4) rfl nd (pi_keys (pv 2)) (blkOk_by (N := NNr) (sc := defScope sNr) (by decide +kernel)) (fun _ _ _ _ _ => pg_name (i := 4) nd rfl (.inl rfl)) (fun _ _ _ _ _ => pts_one (pt_cmpR op_gt (pe_call GDr hr1 (by rfl) gDr FDr.kp bDr .nil pass0 (pa_cons (pv 0) (pa_cons pe_int pa_nil))) pe_int (nomark _))) (fun _ _ _ _ _ => (pe_tup (pa_cons (pv 4) (pa_cons (pe_dget hu1 (pv 2) (pv 4) (fun _ _ => rfl)) pa_nil)))))) pa_nil)))
      (pss_cons (ps_for PassesOwn.never rfl (pi_list (pe_op op_cat (pe_call GX hr1 (by rfl) gX FX.kp bX .nil pass0 (pa_cons (pv 0) (pa_cons (pv 1) (pa_cons pe_int pa_nil)))) (pe_slice sl_list (pe_callTy (call_list_dK rfl) (by rfl) m_list (by decide +kernel) (pa_cons (pv 2) pa_nil)) po_none (po_some (pe_call GDr hr1 (by rfl) gDr FDr.kp bDr .nil pass0 (pa_cons (pv 0) (pa_cons pe_int pa_nil))))))) (pg_name (i := 4) nd rfl (.inl rfl))
        (pss_one (ps_dput hu1 (pv 3) (pv 4) (pe_ix ix_list (pe_lst (pa_cons pe_str (pa_cons pe_str (pa_cons pe_str (pa_cons pe_str pa_nil))))) (pe_call GDr hr1 (by rfl) gDr FDr.kp bDr .nil pass0 (pa_cons (pv 0) (pa_cons pe_int pa_nil))) (fun _ _ => rfl)) rfl)))
      (pss_one (ps_ret (pv 3)))), ?_⟩
    have hnB : n + 2000 ≤ 1000000000000 := hn
    obtain ⟨dp, dc⟩ := pen_ne hp hd (fun _ q => nomatch q)
    have und := ok.pfx.nd
    refine at_seq (at_as (at_cb1 ?_))
    refine ⟨d, .dK kvs, hd, trivial, fun od => ⟨.ref d, rfl, d, od, rfl, .inl ⟨kvs, upd_same, fun D nD => ?_⟩⟩⟩
    obtain ⟨nDd, nD2⟩ := upd_free nD
    have hdf := upd_same (H := H) (a := d) (o := .frz od (.dK kvs))
    have pf : Pen (upd H d (.frz od (.dK kvs))) p c n m := hp.off dp dc
    have kl := keys_len ok.keys
    refine lc_it walk_keys (fun i H' => ∃ (ts : List Addr) (ys : List Str), But p (upd H d (.frz od (.dK kvs))) H' ∧ H' D = some (.lst (ts.map V.ref)) ∧ Paired (fun t u => H' t = some (.tup [.str u, gV kvs u]) ∧ H t = none ∧ t ≠ D) ts ys ∧ ys.Sublist (xs.take i) ∧ Pen H' p c (n + i) m) ⟨[], [], .of_same (same_upd nD), upd_same, .nil, .slnil, pf.keep (same_upd nD)⟩ (fun i H' _ h => by obtain ⟨_, _, h, _⟩ := h; exact h _ _ dp hdf) ?_ ?_
    · rintro i v H1 H2 hi ⟨ts, ys, b1, hD, hpr, sub, p1⟩ hy
      obtain ⟨rfl, u, hu, rfl⟩ := keysY ok.keys _ _ _ _ hy
      have hum := List.mem_of_getElem? hu
      refine ⟨rfl, .ref p, rfl, p, c, n + i, m, 4, rfl, p1, by show n + i ≤ 1000000000000; omega, by decide, by decide, fun dr H3 d0 d4 b3 p3 => ?_⟩
      refine ⟨_, _, rfl, rfl, _, rfl, ite2 (fun hdr => ?_) (fun hdr => ?_)⟩
      · refine ⟨.str u, rfl, .ref d, rfl, .str u, rfl, d, gV kvs u, rfl, .inl ⟨kvs, .inr u, .inr ⟨od, b3 _ _ dp (b1 _ _ dp hdf)⟩, rfl, (val_gV ok hum).symm⟩, by show 2 ≤ sizeLine; decide, fun T nT => ?_⟩
        have Dp := pf.ne_p nD
        have Dc := pf.ne_c nD
        have hD3 := b3 _ _ Dp hD
        have TD : T ≠ D := (ne_of_none hD3 nT).symm
        have tl : ts.length ≤ 60 := by rw [prd_len hpr]; exact Nat.le_trans sub.length_le (by rw [List.length_take]; omega)
        have nTH : H T = none := (upd_free ((b1.trans b3).free (p3.ne_p nT) nT)).2
        have hpr2 : Paired (fun t w => (upd (upd H3 T (.tup [V.str u, gV kvs u])) D (.lst (ts.map V.ref ++ [.ref T]))) t = some (.tup [.str w, gV kvs w]) ∧ H t = none ∧ t ≠ D) ts ys := hpr.mono fun t w h => ⟨by
          have e3 := b3 _ _ (hp.ne_p h.2.1) h.1
          rw [upd_ne h.2.2, upd_ne (ne_of_none e3 nT)]
          exact e3, h.2⟩
        refine ⟨_, hD3 ▸ upd_ne TD.symm, by rw [List.length_map]; exact big_lt (by omega), ts ++ [T], ys ++ [u], fun e o hep he => ?_, by rw [upd_same, List.map_append]; rfl, prd_snoc hpr2 ⟨by rw [upd_ne TD, upd_same], nTH, TD⟩, ?_, ?_⟩
        · have e3 := b3 _ _ hep (b1 _ _ hep he)
          rw [upd_ne (ne_of_none he nD), upd_ne (ne_of_none e3 nT)]
          exact e3
        · rw [List.take_add_one, hu]
          exact sub.append (List.Sublist.refl _)
        · exact ((p3.keep (same_upd nT)).mono (by omega)).off Dp Dc
      · have Dp := pf.ne_p nD
        refine ⟨ts, ys, b1.trans b3, b3 _ _ Dp hD, hpr.mono fun t w h => ⟨b3 _ _ (hp.ne_p h.2.1) h.1, h.2⟩, ?_, p3.mono (by omega)⟩
        rw [List.take_add_one]
        exact sub.trans (List.sublist_append_left _ _)
    · rintro H1 ⟨ts, ys, b1, hD, hpr, sub, p1⟩
      rw [List.take_of_length_le (by omega)] at sub
      have hd1 := b1 _ _ dp hdf
      have ynd := sub.nodup und
      have ysub : ∀ y ∈ ys, y ∈ xs := fun y hy => sub.subset hy
      refine ⟨hd1, D, ts, ys.map fun u => (.inr u, gV kvs u), rfl, SqL.of (by rw [upd_ne nDd]; exact hD), prd_map (R := fun p (kv : Key × V) => SqT K (upd H1 d (.dK kvs)) p [kV kv.1, kv.2]) _ (hpr.mono fun t u h => SqT.of (by rw [upd_ne (ne_of_none hd h.2.1).symm]; exact h.1)), fun G nG => ?_⟩
      rw [mergeK_map (fun u => gV kvs u) ynd]
      have okG := rows_map4 (ys := ys) ok ynd ysub
      have b2 : But p H (upd H1 d (.dK kvs)) := fun e o hep he => by
        by_cases hed : e = d
        · rw [hed, upd_same, ← hd, ← hed, he]
        · rw [upd_ne hed]
          exact b1 _ _ hep (by rw [upd_ne hed]; exact he)
      have p2 : Pen (upd H1 d (.dK kvs)) p c (n + kvs.length) m := p1.off dp dc
      have hd2 : (upd H1 d (.dK kvs)) d = some (.dK kvs) := upd_same
      revert nG b2 p2 hd2
      generalize upd H1 d (.dK kvs) = H2
      intro nG b2 p2 hd2
      have nG0 : H G = none := b2.free (p2.ne_p nG) nG
      have hG := upd_same (H := H2) (a := G) (o := .dK (ys.map fun u => ((.inr u : Key), gV kvs u)))
      have b3 := b2.trans (.of_same (same_upd (o := .dK (ys.map fun u => ((.inr u : Key), gV kvs u))) nG))
      have p3 := p2.keep (same_upd (o := .dK (ys.map fun u => ((.inr u : Key), gV kvs u))) nG)
      have hd3 := same_upd (o := .dK (ys.map fun u => ((.inr u : Key), gV kvs u))) nG _ _ hd2
      revert hG b3 p3 hd3
      generalize upd H2 G (.dK (ys.map fun u => ((.inr u : Key), gV kvs u))) = H3
      intro hG b3 p3 hd3
      clear hD hpr hd1 b1 nG b2 p2 hd2 p1 pf hdf nD nDd nD2
      generalize ys.map (fun u => ((.inr u : Key), gV kvs u)) = gk at hG okG
      obtain ⟨Gp, Gc⟩ := pen_ne p3 hG (fun _ q => nomatch q)
      have sub2 : ∀ y ∈ ys, y ∈ xs := ysub
      clear sub ysub ynd
      refine ⟨.ref p, rfl, .int z, rfl, p, c, n + kvs.length, z, 4, m, rfl, p3, by show n + kvs.length + 1000 ≤ 1000000000000; omega, hz, by decide, fun l px H4 b4 p4 nl hl hpx lpx => ?_⟩
      have lp := p4.ne_p (a := l)
      have hd4 := b4 _ _ dp hd3
      have hG4 := b4 _ _ Gp hG
      refine ⟨.ref d, rfl, d, kvs, rfl, hd4, fun A nA => ?_⟩
      rw [keys_strs ok.keys]
      have sA := same_upd (o := .lst (xs.map V.str)) nA
      have hA := upd_same (H := H4) (a := A) (o := .lst (xs.map V.str))
      have Ap := p4.ne_p nA
      have pA := p4.keep sA
      refine ⟨.ref p, rfl, p, c, _, m, 3, rfl, pA, by show n + kvs.length + 1 + 8 * 4 ≤ 1000000000000; omega, by decide, by decide, fun dr H5 d0 d3 b5 p5 => ⟨dr, rfl, A, _, rfl, SqL.of (b5 _ _ Ap hA), fun A2 nA2 => ?_⟩⟩
      obtain ⟨ms, em, mms, lms⟩ := cut_strs xs (some dr)
      rw [em]
      have lnp : l ≠ p := fun e => by
        rw [e] at nl
        obtain ⟨o, ho⟩ := p3.lst
        rw [nl] at ho
        cases ho
      have hl5 := b5 _ _ lnp (sA _ _ hl)
      have s6 := same_upd (o := .lst (ms.map V.str)) nA2
      refine ⟨l, A2, _, _, rfl, rfl, s6 _ _ hl5, upd_same, big_of (by rw [List.length_map, List.length_map]; omega), fun Lo nLo => ?_⟩
      rw [← List.map_append]
      have s7 := same_upd (o := .lst ((px ++ ms).map V.str)) nLo
      have hLo := upd_same (H := upd H5 A2 (.lst (ms.map V.str))) (a := Lo) (o := .lst ((px ++ ms).map V.str))
      have s67 := s6.trans s7
      have b6 : But p H (upd (upd H5 A2 (.lst (ms.map V.str))) Lo (.lst ((px ++ ms).map V.str))) := b3.trans (b4.trans ((But.of_same sA).trans (b5.trans (.of_same s67))))
      have p6 := p5.keep s67
      have hG6 := s67 _ _ (b5 _ _ Gp (sA _ _ hG4))
      have Lp := p6.ne_p (a := Lo)
      have LoG : Lo ≠ G := ne_of hLo hG6 (fun q => nomatch q)
      have LoP : Lo ≠ p := fun e => by
        obtain ⟨o, ho⟩ := (p5.keep s6).lst
        rw [e, ho] at nLo
        cases nLo
      clear lp Lp
      revert hLo b6 p6 hG6
      generalize upd (upd H5 A2 (.lst (ms.map V.str))) Lo (.lst ((px ++ ms).map V.str)) = H6
      intro hLo b6 p6 hG6
      clear s67 s7 s6 nLo nA2 nA sA hA hl5 hl nl b5 b4 p5 p4 pA hd4 hG4 hd3 b3 p3 hG
      have all : ∀ y ∈ px ++ ms, isBits y = true ∧ y.length ≤ z ∧ (y ∈ xs ∨ y ∈ px) := fun y hy => (List.mem_append.mp hy).elim (fun h => ⟨hpx.bits y h, hpx.len y h, .inr h⟩) fun h => ⟨ok.pfx.bits y (mms y h), ok.pfx.len y (mms y h), .inl (mms y h)⟩
      refine ⟨Lo, rfl, ⟨_, SqL.of hLo⟩, for_list (K := K) (a := Lo) (xs := (px ++ ms).map V.str) (fun i σ H' => (∃ x4, σ = [some (.ref p), some (.int z), some (.ref d), some (.ref G), x4]) ∧ (∃ xs' kvs', H' G = some (.dK kvs') ∧ RowsOk z isTgt4 xs' kvs' ∧ ∀ y ∈ xs', y ∈ xs ∨ y ∈ px) ∧ (∀ b o, b ≠ p → b ≠ G → H6 b = some o → H' b = some o) ∧ Pen H' p c (n + kvs.length + 40 + i) m) ⟨⟨_, rfl⟩, ⟨ys, gk, hG6, okG, fun y hy => .inl (sub2 y hy)⟩, fun _ _ _ _ h => h, p6.mono (by omega)⟩ (fun _ _ _ _ h => SqL.of (h.2.2.1 _ _ LoP LoG hLo)) ?_ ?_⟩
      · rintro i v σ H7 hv ⟨⟨x4, rfl⟩, ⟨xs', kvs', hG7, ok7, sub7⟩, k7, p7⟩
        rw [List.getElem?_map] at hv
        obtain ⟨u, hu, rfl⟩ := Option.map_eq_some_iff.mp hv
        obtain ⟨ub, ul, um⟩ := all u (List.mem_of_getElem? hu)
        have il : i < (px ++ ms).length := (List.getElem?_eq_some_iff.mp hu).1
        rw [List.length_append] at il
        refine ⟨by show 4 ≤ sizeLine; decide, fun U nU => ?_⟩
        have sU := same_upd (o := .lst [.str "a", .str "ab", .str "b", .str "any"]) nU
        have hU := upd_same (H := H7) (a := U) (o := .lst [.str "a", .str "ab", .str "b", .str "any"])
        have Up := p7.ne_p nU
        have UG : G ≠ U := ne_of_none hG7 nU
        refine ⟨.ref p, rfl, p, c, _, m, 4, rfl, p7.keep sU, by show n + kvs.length + 40 + i ≤ 1000000000000; omega, by decide, by decide, fun dr2 H8 e0 e4 b8 p8 => ?_⟩
        obtain ⟨y, hy, ty, _⟩ := used_tgt (i := dr2.toNat) (by omega)
        have hG8 := b8 _ _ Gp (sU _ _ hG7)
        obtain ⟨xs2, ok2, mem2, len2⟩ := ok7.put ub ul ty
        have sl : xs'.length ≤ xs.length + px.length := by
          have := nd_len (m := xs ++ px) ok7.pfx.nd fun y hy => List.mem_append.mpr (sub7 y hy)
          rwa [List.length_append] at this
        refine ⟨U, used, dr2, .str y, rfl, rfl, SqL.of (b8 _ _ Up hU), at_of (j := dr2.toNat) (by omega) hy, .ref G, rfl, .str u, rfl, G, _, rfl, DPut.k (k := .inr u) hG8 (by rw [← keys_len ok7.keys]; exact big_lt (by omega)), ⟨_, rfl⟩, ⟨xs2, _, upd_same, ok2, fun y hy => ?_⟩, fun b o hbp hbG e => ?_, ?_⟩
        · rcases (mem2 y).mp hy with rfl | h
          · exact um
          · exact sub7 y h
        · rw [upd_ne hbG]
          exact b8 _ _ hbp (sU _ _ (k7 _ _ hbp hbG e))
        · exact (pen_put p8 hG8 (fun _ q => nomatch q)).mono (by omega)
      · rintro σ H7 ⟨⟨x4, rfl⟩, ⟨xs', kvs', hG7, ok7, sub7⟩, k7, p7⟩
        rw [List.length_map, List.length_append] at p7
        have sl : xs'.length ≤ xs.length + px.length := by
          have := nd_len (m := xs ++ px) ok7.pfx.nd fun y hy => List.mem_append.mpr (sub7 y hy)
          rwa [List.length_append] at this
        refine ⟨.ref G, rfl, q G xs' kvs' H7 (fun b o hbp e => ?_) nG0 hG7 ok7 (by omega) ⟨px, by omega, sub7⟩ (p7.mono (by omega))⟩
        exact k7 _ _ hbp (ne_of_none e nG0) (b6 _ _ hbp e)
end

def spTwo : Sp := fun vs H Q _ => ∃ (p c : Addr) (n z most : Nat) (m : List V), vs = [.ref p, .int z, .int most] ∧ Pen H p c n m ∧ n + 4000 ≤ PB ∧ z ≤ 32 ∧ most ≤ 20 ∧
  ∀ (t a b : Addr) (xs zs : List Str) (ks ls : List (Key × V)) (H' : Hp), But p H H' → H t = none → H a = none → H b = none → H' t = some (.tup [.ref a, .ref b]) → H' a = some (.dK ks) → H' b = some (.dK ls) → RowsOk z isTgt4 xs ks → RowsOk z isTgt4 zs ls → xs.length ≤ most → zs.length ≤ most + 4 → Pen H' p c (n + 1200) m → Q (.ref t) H'
abbrev sTw : Stmt := top 39
section
variable {P : Program} {w : World} {K : PySem.W.Frag} {mg : Str → Option Value} {base : Heap}
abbrev NTw : List Str := ["pen", "size", "most", "one"]
theorem scTw : FnScope NTw ["pen", "size", "most"] (defScope sTw) := ⟨rfl, rfl, rfl, by decide +kernel, rfl, by decide +kernel, by decide +kernel⟩
set_option maxHeartbeats 8000000 in
theorem ok_Tw {f fY fNr fDr : Addr} {fd fdY fdNr fdDr : FuncData} {k : Nat} (F : Fun K "_law_two" "_law_two" sTw f fd)
    (GY : FnOk P w K mg base CX0 k fY fdY ["pen", "size", "most"] (spLinesM isTgt4))
    (FY : Fun K "_law_lines" "_law_lines" sY fY fdY) (bY : Binds K fdY ["pen", "size", "most"] []) (gY : mg "_law_lines" = some (.ref fY))
    (GNr : FnOk P w K mg base CX0 k fNr fdNr ["pen", "size", "lines"] spNear)
    (FNr : Fun K "_law_near" "_law_near" sNr fNr fdNr) (bNr : Binds K fdNr ["pen", "size", "lines"] []) (gNr : mg "_law_near" = some (.ref fNr))
    (GDr : FnOk P w K mg base CX0 k fDr fdDr ["pen", "below"] spDraw)
    (FDr : Fun K "_law_draw" "_law_draw" sDr fDr fdDr) (bDr : Binds K fdDr ["pen", "below"] []) (gDr : mg "_law_draw" = some (.ref fDr))
    : FnOk P w K mg base CX0 (k + 1) f fd ["pen", "size", "most"] spTwo := by
  refine F.ok scTw (fun vs H Q E h => ?_) (fun cdv A outer s H vs Q E hr h => ?_)
  · obtain ⟨p, c, n, z, most, m, rfl, _⟩ := h
    rfl
  · obtain ⟨p, c, n, z, most, m, rfl, hp, hn, hz, hm, q⟩ := h
    have nd := scTw.nd
    have hu := hr.units
    have hu1 := hu_of hr
    have hr1 := hr
    refine ⟨_, pss_cons (ps_set (i := 3) nd rfl (.inl rfl) (pe_call GY hr1 (by rfl) gY FY.kp bY .nil pass0 (pa_cons (pv 0) (pa_cons (pv 1) (pa_cons (pv 2) pa_nil)))))
      (pss_one (ps_ret (pe_tup (pa_cons (pv 3) (pa_cons (pe_ifExp (pt_cmpR op_gt (pe_call GDr hr1 (by rfl) gDr FDr.kp bDr .nil pass0 (pa_cons (pv 0) (pa_cons pe_int pa_nil))) pe_int (nomark _)) (pe_call GNr hr1 (by rfl) gNr FNr.kp bNr .nil pass0 (pa_cons (pv 0) (pa_cons (pv 1) (pa_cons (pv 3) pa_nil)))) (pe_call GY hr1 (by rfl) gY FY.kp bY .nil pass0 (pa_cons (pv 0) (pa_cons (pv 1) (pa_cons (pv 2) pa_nil))))) pa_nil))))), ?_⟩
    have hnB : n + 4000 ≤ 1000000000000 := hn
    refine ⟨.ref p, rfl, .int z, rfl, .int most, rfl, p, c, n, z, most, m, rfl, hp, by show n + 1000 ≤ 1000000000000; omega, hz, hm, fun a xs ks H1 b1 na ha ok1 l1 p1 => ?_⟩
    obtain ⟨ap, _⟩ := pen_ne p1 ha (fun _ q => nomatch q)
    refine ⟨.ref a, rfl, .ref p, rfl, p, c, _, m, 3, rfl, p1, by show n + 200 ≤ 1000000000000; omega, by decide, by decide, fun dr H2 d0 d3 b2 p2 => ?_⟩
    have ha2 := b2 _ _ ap ha
    have b12 := b1.trans b2
    refine ⟨_, _, rfl, rfl, _, rfl, ite2 (fun hdr => ?_) (fun hdr => ?_)⟩
    · refine ⟨.ref p, rfl, .int z, rfl, .ref a, rfl, p, c, a, _, z, m, xs, ks, rfl, p2, by show n + 200 + 1 + 2000 ≤ 1000000000000; omega, hz, ha2, ok1, by omega, fun b zs ls H3 b3 nb hb ok2 l2 _ p3 => ?_⟩
      have ha3 := b3 _ _ ap ha2
      refine ⟨by show 2 ≤ sizeLine; decide, fun t nt => ?_⟩
      have s4 := same_upd (o := .tup [.ref a, .ref b]) nt
      refine q t a b xs zs ks ls _ (b12.trans (b3.trans (.of_same s4))) ((b12.trans b3).free (p3.ne_p nt) nt) na (b12.free (p2.ne_p nb) nb) upd_same (s4 _ _ ha3) (s4 _ _ hb) ok1 ok2 l1 (by omega) ((p3.keep s4).mono (by omega))
    · refine ⟨.ref p, rfl, .int z, rfl, .int most, rfl, p, c, _, z, most, m, rfl, p2, by show n + 200 + 1 + 1000 ≤ 1000000000000; omega, hz, hm, fun b zs ls H3 b3 nb hb ok2 l2 p3 => ?_⟩
      have ha3 := b3 _ _ ap ha2
      refine ⟨by show 2 ≤ sizeLine; decide, fun t nt => ?_⟩
      have s4 := same_upd (o := .tup [.ref a, .ref b]) nt
      refine q t a b xs zs ks ls _ (b12.trans (b3.trans (.of_same s4))) ((b12.trans b3).free (p3.ne_p nt) nt) na (b12.free (p2.ne_p nb) nb) upd_same (s4 _ _ ha3) (s4 _ _ hb) ok1 ok2 l1 (by omega) ((p3.keep s4).mono (by omega))
end
/-! ### the tree that prefixes span -/
def preK (p : Str) (k : Nat) : Str := cutS p none (some (k : Int))
def nodesOf (p : Str) (n : Nat) : List Str := (List.range n).flatMap fun k => [preK p k ++ "0", preK p k ++ "1"]
def InCl (ps : List Str) (q : Str) : Prop := q = "" ∨ ∃ p ∈ ps, ∃ k, k < p.length ∧ (q = preK p k ++ "0" ∨ q = preK p k ++ "1")
theorem mem_nodes {p q : Str} {n : Nat} : q ∈ nodesOf p n ↔ ∃ k, k < n ∧ (q = preK p k ++ "0" ∨ q = preK p k ++ "1") := by
  unfold nodesOf
  rw [List.mem_flatMap]
  constructor
  · rintro ⟨k, hk, h⟩
    simp only [List.mem_cons, List.not_mem_nil, or_false] at h
    exact ⟨k, List.mem_range.mp hk, h⟩
  · rintro ⟨k, hk, h⟩
    exact ⟨k, List.mem_range.mpr hk, by simp only [List.mem_cons, List.not_mem_nil, or_false]; exact h⟩
theorem nodes_succ (p : Str) (n : Nat) : nodesOf p (n + 1) = nodesOf p n ++ [preK p n ++ "0", preK p n ++ "1"] := by
  unfold nodesOf
  rw [List.range_succ, List.flatMap_append, List.flatMap_cons, List.flatMap_nil, List.append_nil]
theorem nodes_len (p : Str) : ∀ n, (nodesOf p n).length = 2 * n
  | 0 => rfl
  | n + 1 => by
    rw [nodes_succ, List.length_append, nodes_len p n]
    show 2 * n + 2 = _
    omega
def allN (ps : List Str) : List Str := "" :: ps.flatMap fun p => nodesOf p p.length
theorem mem_all {ps : List Str} {q : Str} : q ∈ allN ps ↔ InCl ps q := by
  unfold allN InCl
  rw [List.mem_cons, List.mem_flatMap]
  exact or_congr Iff.rfl ⟨fun ⟨p, hp, h⟩ => ⟨p, hp, mem_nodes.mp h⟩, fun ⟨p, hp, h⟩ => ⟨p, hp, mem_nodes.mpr h⟩⟩
theorem all_len {m : Nat} : ∀ {ps : List Str}, (∀ p ∈ ps, p.length ≤ m) → (allN ps).length ≤ 1 + 2 * (ps.length * m)
  | [], _ => by show 1 ≤ _; omega
  | p :: ps, h => by
    have ih := all_len fun q hq => h q (List.mem_cons_of_mem _ hq)
    unfold allN at ih ⊢
    rw [List.length_cons] at ih
    rw [List.length_cons, List.flatMap_cons, List.length_append, nodes_len, List.length_cons]
    have e : (ps.length + 1) * m = ps.length * m + m := by rw [Nat.add_mul, Nat.one_mul]
    have := h p List.mem_cons_self
    omega
theorem preK_len {p : Str} {k : Nat} (h : k ≤ p.length) : (preK p k).length = k := by
  unfold preK
  rw [← sg_len, sg_take, List.length_take, sg_len]
  omega
theorem node_ok {p q : Str} {k m : Nat} (hb : isBits p = true) (hm : p.length ≤ m) (hk : k < p.length) (h : q = preK p k ++ "0" ∨ q = preK p k ++ "1") : isBits q = true ∧ q.length = k + 1 := by
  have b := preBits (pre_take p k) hb
  have l := preK_len (Nat.le_of_lt hk)
  rcases h with rfl | rfl
  · exact ⟨bits_app b (by decide +kernel), by rw [strLen_append, l]; rfl⟩
  · exact ⟨bits_app b (by decide +kernel), by rw [strLen_append, l]; rfl⟩
theorem cl_ok {ps : List Str} {m : Nat} {q : Str} (h : ∀ p ∈ ps, isBits p = true ∧ p.length ≤ m) (hq : InCl ps q) : isBits q = true ∧ q.length ≤ m := by
  rcases hq with rfl | ⟨p, hp, k, hk, hq⟩
  · exact ⟨by decide +kernel, Nat.zero_le _⟩
  · obtain ⟨b, l⟩ := node_ok (h p hp).1 (h p hp).2 hk hq
    exact ⟨b, by have := (h p hp).2; omega⟩
def spClosed (K : PySem.W.Frag) : Sp := fun vs H Q _ => ∃ (a : Addr) (ps : List Str) (m : Nat), vs = [.ref a] ∧ SqL K H a (ps.map V.str) ∧ (∀ p ∈ ps, isBits p = true ∧ p.length ≤ m) ∧ m ≤ 32 ∧ ps.length * m ≤ 1900 ∧ ps.length ≤ 400 ∧
  ∀ (l : Addr) (ns : List Str) (H' : Hp), Same H H' → H l = none → H' l = some (.lst (ns.map V.str)) → ns.Nodup → sortedS ns = true → (∀ q, q ∈ ns ↔ InCl ps q) → ns.length ≤ 3900 → Q (.ref l) H'
theorem sg_preK (p : Str) (k : Nat) : sg (preK p k) = (sg p).take k := sg_take p k
theorem preK_preK {p : Str} {j k : Nat} (h : k ≤ j) : preK (preK p j) k = preK p k := str_ext (by
  show sg _ = sg _
  rw [sg_preK, sg_preK, sg_preK, List.take_take, Nat.min_eq_left h])
theorem preK_app {p b : Str} {j k : Nat} (hj : j ≤ p.length) (h : k ≤ j) : preK (preK p j ++ b) k = preK p k := str_ext (by
  show sg _ = sg _
  rw [sg_preK, sg_app, List.take_append_of_le_length (by rw [sg_len, preK_len hj]; exact h), sg_preK, List.take_take, Nat.min_eq_left h, sg_preK])
theorem preK_zero (p : Str) : preK p 0 = "" := str_ext (by
  show sg _ = sg _
  rw [sg_preK, List.take_zero, sg_empty])
theorem preK_all (p : Str) : preK p p.length = p := str_ext (by
  show sg _ = sg _
  rw [sg_preK, ← sg_len, List.take_length])
/-- the last bit -/
theorem preK_succ {p : Str} {k : Nat} (hb : isBits p = true) (h : k < p.length) : preK p (k + 1) = preK p k ++ "0" ∨ preK p (k + 1) = preK p k ++ "1" := by
  have hl : k < (sg p).length := by rw [sg_len]; exact h
  have e : sg (preK p (k + 1)) = (sg p).take k ++ [(sg p)[k]] := by rw [sg_preK, List.take_add_one, List.getElem?_eq_getElem hl]; rfl
  rcases bits_iff.mp hb _ (List.getElem_mem hl) with q | q
  · refine .inl (str_ext ?_)
    show sg _ = sg _
    rw [e, q, sg_app, sg_preK, show sg "0" = [48] by decide +kernel]
  · refine .inr (str_ext ?_)
    show sg _ = sg _
    rw [e, q, sg_app, sg_preK, show sg "1" = [49] by decide +kernel]
theorem app_ne {x : Str} : x ++ "0" ≠ x ++ "1" := fun h => by
  have e := congrArg sg h
  rw [sg_app, sg_app, show sg "0" = [48] by decide +kernel, show sg "1" = [49] by decide +kernel] at e
  exact absurd (List.append_cancel_left e) (by decide)
theorem init_preK {p : Str} {k : Nat} (h : k < p.length) : cutS (preK p (k + 1)) none (some (-1)) = preK p k := str_ext (by
  show sg _ = sg _
  have l : (preK p (k + 1)).length = k + 1 := preK_len h
  rw [sg_cut, HT.sIx_none, List.drop_zero, l, sg_preK, sg_preK, List.take_take]
  congr 1
  unfold HT.sIx
  simp only []
  split <;> omega)
theorem last_preK {p : Str} {k : Nat} (h : k < p.length) : ∃ c, atI (preK p (k + 1)).cps.toList (-1) = some c ∧ (∀ b : Str, preK p (k + 1) = preK p k ++ b → b.length = 1 → (⟨#[c]⟩ : Str) = b) := by
  have hl : k < (sg p).length := by rw [sg_len]; exact h
  have l : (sg (preK p (k + 1))).length = k + 1 := by rw [sg_len]; exact preK_len h
  refine ⟨(sg p)[k], ?_, fun b e hb => ?_⟩
  · show atI (sg (preK p (k + 1))) (-1) = _
    unfold atI ixN
    rw [l, if_neg (by decide : ¬ (0 : Int) ≤ -1), if_pos (by omega)]
    have e : ((-1 : Int) + ((k + 1 : Nat) : Int)).toNat = k := by omega
    show (sg (preK p (k + 1)))[((-1 : Int) + ((k + 1 : Nat) : Int)).toNat]? = _
    rw [e, sg_preK, List.getElem?_take_of_lt (by omega), List.getElem?_eq_getElem hl]
  · have e2 := congrArg sg e
    rw [sg_app, sg_preK, sg_preK, List.take_add_one, List.getElem?_eq_getElem hl] at e2
    have e3 := List.append_cancel_left e2
    exact str_ext e3
/-- the keys of a dict, all texts -/
structure KeysAt (H : Hp) (D : Addr) (fs : List Str) : Prop where
  ex : ∃ kvs : List (Key × V), H D = some (.dK kvs) ∧ kvs.map (·.1) = fs.map Sum.inr
  nd : fs.Nodup
theorem KeysAt.put {H : Hp} {D : Addr} {fs : List Str} {kvs : List (Key × V)} (hk : kvs.map (·.1) = fs.map Sum.inr) (nd : fs.Nodup) (y : Str) (v : V) : ∃ gs, KeysAt (upd H D (.dK (putK kvs (.inr y) v))) D gs ∧ ∀ q, q ∈ gs ↔ q = y ∨ q ∈ fs := by
  obtain ⟨gs, e⟩ := keyStrs (kvs := putK kvs (.inr y) v) fun j hj => by
    rcases keys_putK.mp hj with h | h
    · exact ⟨y, h⟩
    · rw [hk] at h
      obtain ⟨z, _, rfl⟩ := List.mem_map.mp h
      exact ⟨z, rfl⟩
  refine ⟨gs, ⟨⟨_, upd_same, e⟩, nd_keys e (nd_putK (keys_nd hk nd))⟩, fun q => ?_⟩
  rw [← inr_mem e, keys_putK, inr_mem hk]
  exact ⟨fun h => h.imp Sum.inr.inj id, fun h => h.imp (congrArg Sum.inr) id⟩
def spSib : Sp := fun vs H Q _ => ∃ (p : Str) (k : Nat), vs = [.str (preK p (k + 1))] ∧ isBits p = true ∧ k < p.length ∧ p.length ≤ 900 ∧ ∀ y, ((preK p (k + 1) = preK p k ++ "0" ∧ y = preK p k ++ "1") ∨ (preK p (k + 1) = preK p k ++ "1" ∧ y = preK p k ++ "0")) → Q (.str y) H
theorem seq_keep {K : PySem.W.Frag} {H H1 H' : Hp} {D a : Addr} {xs : List V} (h : SqL K H a xs) (nD : H D = none) (s : Same H H1) (k : ∀ b o, b ≠ D → H1 b = some o → H' b = some o) : SqL K H' a xs := by
  rcases h with (h | ⟨o, h⟩) | h
  · exact .inl (.inl (k _ _ (ne_of_none h nD) (s _ _ h)))
  · exact .inl (.inr ⟨o, k _ _ (ne_of_none h nD) (s _ _ h)⟩)
  · exact .inr h
theorem cl_nil {q : Str} : q ∈ [("" : Str)] ↔ InCl [] q := by
  rw [List.mem_singleton]
  exact ⟨.inl, fun h => h.elim id fun ⟨_, hp, _⟩ => absurd hp List.not_mem_nil⟩
theorem cl_snoc {ps : List Str} {p q : Str} : InCl (ps ++ [p]) q ↔ InCl ps q ∨ ∃ k, k < p.length ∧ (q = preK p k ++ "0" ∨ q = preK p k ++ "1") := by
  unfold InCl
  constructor
  · rintro (h | ⟨r, hr, k, hk, h⟩)
    · exact .inl (.inl h)
    · rcases List.mem_append.mp hr with hr | hr
      · exact .inl (.inr ⟨r, hr, k, hk, h⟩)
      · rw [List.mem_singleton.mp hr] at hk h
        exact .inr ⟨k, hk, h⟩
  · rintro ((h | ⟨r, hr, k, hk, h⟩) | ⟨k, hk, h⟩)
    · exact .inl h
    · exact .inr ⟨r, List.mem_append.mpr (.inl hr), k, hk, h⟩
    · exact .inr ⟨p, List.mem_append.mpr (.inr List.mem_cons_self), k, hk, h⟩
/-- what the walk up from a prefix finds is all below -/
theorem cl_down {ps : List Str} {p : Str} {j k : Nat} (hj : j ≤ p.length) (h : InCl ps (preK p j)) (hk : k < j) {q : Str} (hq : q = preK p k ++ "0" ∨ q = preK p k ++ "1") : InCl ps q := by
  have lj := preK_len hj
  rcases h with h | ⟨r, hr, k', hk', h⟩
  · rw [h] at lj
    have z : ("" : Str).length = 0 := by decide +kernel
    omega
  · have lr := preK_len (Nat.le_of_lt hk')
    have l0 : ("0" : Str).length = 1 := by decide +kernel
    have l1 : ("1" : Str).length = 1 := by decide +kernel
    have ej : j = k' + 1 := by
      rcases h with h | h <;> rw [h, strLen_append, lr] at lj <;> omega
    have e : preK p k = preK r k := by
      rw [← preK_preK (j := j) (p := p) (Nat.le_of_lt hk)]
      rcases h with h | h <;> rw [h, preK_app (Nat.le_of_lt hk') (by omega)]
    rw [e] at hq
    exact .inr ⟨r, hr, k, by omega, hq⟩
theorem lead_same {xs ys : List Str} {kvs kvs' : List (Key × V)} (h : Sorted xs kvs kvs' ys) {y : Str} {r : Option Str} (hr : IsLong xs y r) : leadV kvs' r = leadV kvs r := by
  cases r with
  | none => rfl
  | some z =>
    show (valV kvs' (.inr z)).getD .non = (valV kvs (.inr z)).getD .non
    rw [h.val z hr.1]
theorem lead_ok {w : Nat} {xs : List Str} {kvs : List (Key × V)} (ok : RowsOk w isTgtV xs kvs) {y : Str} {r : Option Str} (hr : IsLong xs y r) : leadV kvs r = .non ∨ ∃ t, leadV kvs r = .str t ∧ Sm 8 t := by
  cases r with
  | none => exact .inl rfl
  | some z =>
    have hz : (Sum.inr z : Key) ∈ kvs.map (·.1) := (inr_mem ok.keys z).mpr hr.1
    obtain ⟨v, hv⟩ := Option.isSome_iff_exists.mp (valV_mem.mpr hz)
    have ev : leadV kvs (some z) = v := by
      show (valV kvs (.inr z)).getD .non = v
      rw [hv]
      rfl
    have hm : (Sum.inr z, v) ∈ kvs := by
      unfold valV at hv
      obtain ⟨p, hp, e⟩ := Option.map_eq_some_iff.mp hv
      have h1 := List.mem_of_find?_eq_some hp
      have h2 : p.1 = Sum.inr z := by
        have q := List.find?_some hp
        exact of_decide_eq_true q
      rw [← h2, ← e]
      exact h1
    obtain ⟨t, e, s⟩ := tgt_sm (ok.val _ hm)
    exact .inr ⟨t, ev.trans e, s⟩
theorem scal_lead {v : V} (h : v = .non ∨ ∃ t, v = .str t ∧ Sm 8 t) : scal v v = true := by
  rcases h with rfl | ⟨t, rfl, _⟩ <;> rfl
/-! ### leaves and merged targets -/
def padW (w : Nat) (x : Str) : Str := x ++ Txt.mul "0" ((w - x.length : Nat) : Int)
theorem padW_len {w : Nat} {x : Str} (h : x.length ≤ w) : (padW w x).length = w := by
  unfold padW
  rw [strLen_append, (zeros_bits _).2]
  omega
theorem padW_bits {w : Nat} {x : Str} (h : isBits x = true) : isBits (padW w x) = true := bits_app h (zeros_bits _).1
def endsOf (ns : List Str) : List Str := ns.filter fun q => !decide (q ++ "0" ∈ ns)
theorem ends_mem {ns : List Str} {e : Str} (h : e ∈ endsOf ns) : e ∈ ns ∧ e ++ "0" ∉ ns := by
  obtain ⟨h1, h2⟩ := List.mem_filter.mp h
  refine ⟨h1, fun q => ?_⟩
  rw [decide_eq_true q] at h2
  exact absurd h2 (by decide)
/-- a row that begins an address behind a leaf begins the leaf -/
theorem leaf_pre {ps ns : List Str} {w : Nat} {x e : Str} (mem : ∀ q, q ∈ ns ↔ InCl ps q) (he : e ∈ endsOf ns) (hx : x ∈ ps) : Pre x (padW w e) ↔ Pre x e := by
  constructor
  · intro h
    have hx0 : ¬ e.length < x.length := fun hl => by
      have hpre : preK x e.length = e := str_ext (by
        show sg _ = sg _
        rw [sg_preK]
        obtain ⟨t, ht⟩ := h
        have e2 : sg (padW w e) = sg e ++ sg (Txt.mul "0" ((w - e.length : Nat) : Int)) := sg_app _ _
        rw [e2] at ht
        have e3 := congrArg (List.take e.length) ht
        rw [List.take_append_of_le_length (by rw [sg_len]; omega), List.take_append_of_le_length (by rw [sg_len]; exact Nat.le_refl _), List.take_of_length_le (l := sg e) (by rw [sg_len]; exact Nat.le_refl _)] at e3
        exact e3)
      exact (ends_mem he).2 ((mem _).mpr (.inr ⟨x, hx, e.length, hl, .inl (by rw [hpre])⟩))
    have e2 : sg (padW w e) = sg e ++ sg (Txt.mul "0" ((w - e.length : Nat) : Int)) := sg_app _ _
    have h' : sg x <+: sg e ++ sg (Txt.mul "0" ((w - e.length : Nat) : Int)) := by rw [← e2]; exact h
    exact List.prefix_of_prefix_length_le h' (List.prefix_append _ _) (by rw [sg_len, sg_len]; omega)
  · intro h
    exact List.IsPrefix.trans h (by
      show sg e <+: sg (padW w e)
      rw [show sg (padW w e) = sg e ++ _ from sg_app _ _]
      exact List.prefix_append _ _)
theorem leaf_long {ps ns xs : List Str} {w : Nat} {e : Str} (mem : ∀ q, q ∈ ns ↔ InCl ps q) (he : e ∈ endsOf ns) (hx : ∀ x ∈ xs, x ∈ ps) {r : Option Str} : IsLong xs (padW w e) r ↔ IsLong xs e r := by
  have key : ∀ x ∈ xs, (Pre x (padW w e) ↔ Pre x e) := fun x h => leaf_pre mem he (hx x h)
  cases r with
  | none => exact ⟨fun h x hm q => h x hm ((key x hm).mpr q), fun h x hm q => h x hm ((key x hm).mp q)⟩
  | some y => exact ⟨fun ⟨h1, h2, h3⟩ => ⟨h1, (key y h1).mp h2, fun z hz q => h3 z hz ((key z hz).mpr q)⟩, fun ⟨h1, h2, h3⟩ => ⟨h1, (key y h1).mpr h2, fun z hz q => h3 z hz ((key z hz).mp q)⟩⟩
/-- where a spot leads -/
noncomputable def ld (xs : List Str) (ks : List (Key × V)) (y : Str) : V := open Classical in if h : ∃ r, IsLong xs y r then leadV ks h.choose else .non
theorem ld_is {xs : List Str} {ks : List (Key × V)} {y : Str} {r : Option Str} (h : IsLong xs y r) : ld xs ks y = leadV ks r := by
  have ex : ∃ r, IsLong xs y r := ⟨r, h⟩
  unfold ld
  rw [dif_pos ex, IsLong.uniq (fun _ => Iff.rfl) ex.choose_spec h]
def mrg (t u v : V) : List V := if u = v ∨ v = t then [u] else if u = t then [v] else [u, v]
theorem mrg_comm (t u v : V) : (mrg t u v).length = (mrg t v u).length := by
  unfold mrg
  by_cases h1 : u = v
  · subst h1
    rfl
  · by_cases h2 : v = t
    · subst h2
      rw [if_pos (.inr rfl), if_neg (fun h => h.elim (fun e => h1 e.symm) (fun e => h1 e)), if_pos rfl]
    · by_cases h3 : u = t
      · subst h3
        rw [if_neg (fun h => h.elim h1 h2), if_pos rfl, if_pos (.inr rfl)]
      · rw [if_neg (fun h => h.elim h1 h2), if_neg h3, if_neg (fun h => h.elim (fun e => h1 e.symm) h3), if_neg h2]
        rfl
def tv (v : V) : Prop := v = .non ∨ ∃ t, v = .str t
theorem tv_scal {u v : V} (h : tv u) (h' : tv v) : scal u v = true := by
  rcases h with rfl | ⟨_, rfl⟩ <;> rcases h' with rfl | ⟨_, rfl⟩ <;> rfl
/-- a dict of lists by texts, in their order -/
def LV (H : Hp) (f : Str → List V) (kvs : List (Key × V)) (es : List Str) : Prop := Paired (fun (kv : Key × V) e => kv.1 = .inr e ∧ ∃ l, kv.2 = .ref l ∧ H l = some (.lst (f e))) kvs es
theorem LV.keys {H : Hp} {f : Str → List V} : ∀ {kvs : List (Key × V)} {es : List Str}, LV H f kvs es → kvs.map (·.1) = es.map Sum.inr
  | _, _, .nil => rfl
  | _, _, .cons h t => by rw [List.map_cons, List.map_cons, h.1, LV.keys t]
theorem LV.keep {H H' : Hp} {f : Str → List V} {kvs : List (Key × V)} {es : List Str} (h : LV H f kvs es) (k : ∀ l xs, H l = some (.lst xs) → H' l = some (.lst xs)) : LV H' f kvs es := h.mono fun _ _ ⟨h1, l, h2, h3⟩ => ⟨h1, l, h2, k _ _ h3⟩
theorem LV.snoc {H : Hp} {f : Str → List V} {kvs : List (Key × V)} {es : List Str} (h : LV H f kvs es) {e : Str} {l : Addr} (hl : H l = some (.lst (f e))) : LV H f (kvs ++ [(.inr e, .ref l)]) (es ++ [e]) := prd_snoc h ⟨rfl, l, rfl, hl⟩
theorem lead_tv {w : Nat} {xs : List Str} {ks : List (Key × V)} {y : Str} {r : Option Str} (ok : RowsOk w isTgtV xs ks) (h : IsLong xs y r) : tv (leadV ks r) := by
  rcases lead_ok ok h with h | ⟨t, h, _⟩
  · exact .inl h
  · exact .inr ⟨t, h⟩
/-! ### the runs that prefixes cut -/
/-- the number that bits stand for -/
def nv : List Nat → Nat
  | [] => 0
  | c :: l => (c - 48) * 2 ^ l.length + nv l
def bts (l : List Nat) : Prop := ∀ c ∈ l, c = 48 ∨ c = 49
theorem bts_of {x : Str} (h : isBits x = true) : bts (sg x) := bits_iff.mp h
theorem nv_app (l m : List Nat) : nv (l ++ m) = nv l * 2 ^ m.length + nv m := by
  induction l with
  | nil => rw [List.nil_append]; show nv m = 0 * _ + nv m; rw [Nat.zero_mul, Nat.zero_add]
  | cons c l ih =>
    rw [List.cons_append]
    show (c - 48) * 2 ^ (l ++ m).length + nv (l ++ m) = ((c - 48) * 2 ^ l.length + nv l) * 2 ^ m.length + nv m
    rw [ih, List.length_append, Nat.pow_add, Nat.add_mul, Nat.mul_assoc, Nat.add_assoc]
theorem nv_lt : ∀ {l : List Nat}, bts l → nv l < 2 ^ l.length
  | [], _ => by show 0 < 1; decide
  | c :: l, h => by
    have h1 := nv_lt (l := l) fun d hd => h d (List.mem_cons_of_mem _ hd)
    show (c - 48) * 2 ^ l.length + nv l < 2 ^ (l.length + 1)
    rw [Nat.pow_succ]
    rcases h c List.mem_cons_self with rfl | rfl <;> omega
theorem nv_zeros (n : Nat) : nv (List.replicate n 48) = 0 := by
  induction n with
  | zero => rfl
  | succ n ih =>
    rw [List.replicate_succ]
    show (48 - 48) * _ + nv _ = 0
    rw [ih, Nat.sub_self, Nat.zero_mul]
theorem nv_ones (n : Nat) : nv (List.replicate n 49) + 1 = 2 ^ n := by
  induction n with
  | zero => rfl
  | succ n ih =>
    rw [List.replicate_succ]
    show (49 - 48) * 2 ^ (List.replicate n 49).length + nv (List.replicate n 49) + 1 = _
    rw [List.length_replicate, Nat.pow_succ]
    omega
theorem nv_inj : ∀ {l m : List Nat}, bts l → bts m → l.length = m.length → nv l = nv m → l = m
  | [], [], _, _, _, _ => rfl
  | [], _ :: _, _, _, h, _ => by cases h
  | _ :: _, [], _, _, h, _ => by cases h
  | c :: l, d :: m, hl, hm, h, e => by
    have bl : bts l := fun x hx => hl x (List.mem_cons_of_mem _ hx)
    have bm : bts m := fun x hx => hm x (List.mem_cons_of_mem _ hx)
    have h1 := nv_lt bl
    have h2 := nv_lt bm
    have hlen : l.length = m.length := Nat.succ.inj h
    have e' : (c - 48) * 2 ^ l.length + nv l = (d - 48) * 2 ^ m.length + nv m := e
    rw [← hlen] at e' h2
    have hc : c = d ∧ nv l = nv m := by
      rcases hl c List.mem_cons_self with rfl | rfl <;> rcases hm d List.mem_cons_self with rfl | rfl <;> refine ⟨?_, ?_⟩ <;> omega
    rw [hc.1, nv_inj bl bm hlen hc.2]
/-- the order of texts of the same length is that of the numbers -/
theorem nv_le : ∀ {l m : List Nat}, bts l → bts m → l.length = m.length → (l ≤ m ↔ nv l ≤ nv m)
  | [], [], _, _, _ => by simp [nv]
  | [], _ :: _, _, _, h => by cases h
  | _ :: _, [], _, _, h => by cases h
  | c :: l, d :: m, hl, hm, h => by
    have bl : bts l := fun x hx => hl x (List.mem_cons_of_mem _ hx)
    have bm : bts m := fun x hx => hm x (List.mem_cons_of_mem _ hx)
    have h1 := nv_lt bl
    have h2 := nv_lt bm
    have hlen : l.length = m.length := Nat.succ.inj h
    have ih := nv_le bl bm hlen
    rw [List.cons_le_cons_iff]
    show _ ↔ (c - 48) * 2 ^ l.length + nv l ≤ (d - 48) * 2 ^ m.length + nv m
    rw [ih, ← hlen]
    rw [← hlen] at h2
    rcases hl c List.mem_cons_self with rfl | rfl <;> rcases hm d List.mem_cons_self with rfl | rfl <;> omega
/-- a prefix, by numbers -/
theorem pre_nv {x y : List Nat} (hx : bts x) (hy : bts y) (h : x.length ≤ y.length) : x <+: y ↔ nv x * 2 ^ (y.length - x.length) ≤ nv y ∧ nv y < (nv x + 1) * 2 ^ (y.length - x.length) := by
  have ey : y = y.take x.length ++ y.drop x.length := (List.take_append_drop _ _).symm
  have lt : (y.take x.length).length = x.length := by rw [List.length_take]; omega
  have bt : bts (y.take x.length) := fun c hc => hy c (List.mem_of_mem_take hc)
  have bd : bts (y.drop x.length) := fun c hc => hy c (List.mem_of_mem_drop hc)
  have hd := nv_lt bd
  have e : nv y = nv (y.take x.length) * 2 ^ (y.length - x.length) + nv (y.drop x.length) := by
    conv => lhs; rw [ey]
    rw [nv_app, List.length_drop]
  rw [List.length_drop] at hd
  constructor
  · intro hp
    have e2 : y.take x.length = x := (List.prefix_iff_eq_take.mp hp).symm
    rw [e, e2, Nat.add_mul, Nat.one_mul]
    omega
  · rintro ⟨h1, h2⟩
    rw [e] at h1 h2
    have e3 : nv (y.take x.length) = nv x := by
      have p : 0 < 2 ^ (y.length - x.length) := Nat.pos_of_ne_zero (by simp)
      refine Nat.le_antisymm ?_ ?_
      · refine Nat.le_of_lt_succ (Nat.lt_of_mul_lt_mul_right (a := 2 ^ (y.length - x.length)) ?_)
        show nv (y.take x.length) * _ < (nv x + 1) * _
        omega
      · refine Nat.le_of_lt_succ (Nat.lt_of_mul_lt_mul_right (a := 2 ^ (y.length - x.length)) ?_)
        rw [Nat.succ_mul]
        omega
    rw [← nv_inj bt hx lt e3]
    exact List.take_prefix _ _
theorem nv_pad {w : Nat} {x : Str} (_h : x.length ≤ w) : nv (sg (padW w x)) = nv (sg x) * 2 ^ (w - x.length) := by
  have e : sg (padW w x) = sg x ++ List.replicate (w - x.length) 48 := by
    unfold padW
    rw [sg_app, show ("0" : Str) = ⟨#[48]⟩ by decide +kernel, sg_mul]
  rw [e, nv_app, nv_zeros, List.length_replicate, Nat.add_zero]
/-- x.rstrip(signs) on lists -/
theorem rstrip_list (x y : Str) : sg (Txt.rstripChars x y) = ((sg x).reverse.dropWhile y.cps.contains).reverse := by
  show sg (Txt.stripBy _ false true x) = _
  rw [PyProof.Rows.stripBy_eq]
  show sg (PySem.Builtin.Str.strSub x 0 _) = _
  rw [show sg (PySem.Builtin.Str.strSub x 0 _) = _ from PySem.StrLaws.strSub_toList _ _ _]
  rw [List.drop_zero, Nat.sub_zero]
  have e : (sg x).reverse = (sg x).reverse.takeWhile y.cps.contains ++ (sg x).reverse.dropWhile y.cps.contains := List.takeWhile_append_dropWhile.symm
  have e2 : sg x = ((sg x).reverse.dropWhile y.cps.contains).reverse ++ ((sg x).reverse.takeWhile y.cps.contains).reverse := by
    have := congrArg List.reverse e
    rw [List.reverse_reverse, List.reverse_append] at this
    exact this
  have el : ((sg x).reverse.dropWhile y.cps.contains).reverse.length = x.length - ((sg x).reverse.takeWhile y.cps.contains).length := by
    have := congrArg List.length e
    rw [List.length_reverse, List.length_append, sg_len] at this
    rw [List.length_reverse]
    omega
  show (sg x).take (x.length - (((sg x).drop 0).reverse.takeWhile y.cps.contains).length) = _
  rw [List.drop_zero, ← el]
  exact (congrArg (List.take ((sg x).reverse.dropWhile y.cps.contains).reverse.length) e2).trans List.take_left
theorem one_has (c : Nat) : (("1" : Str)).cps.contains c = true ↔ c = 49 := by
  rw [show ("1" : Str) = ⟨#[49]⟩ by decide +kernel]
  simp
theorem drop_head {p : Nat → Bool} : ∀ {l : List Nat} {c : Nat} {r : List Nat}, l.dropWhile p = c :: r → p c = false
  | a :: l, c, r, h => by
    rw [List.dropWhile_cons] at h
    by_cases ha : p a = true
    · rw [if_pos ha] at h
      exact drop_head h
    · rw [if_neg ha] at h
      cases h
      exact Bool.eq_false_iff.mpr ha
/-- bits end in ones, and before them stands a zero, or nothing -/
theorem ones_split {x : Str} (hb : isBits x = true) : ∃ k, sg x = sg (Txt.rstripChars x "1") ++ List.replicate k 49 ∧ (Txt.rstripChars x "1" ≠ "" → ∃ t, sg (Txt.rstripChars x "1") = t ++ [48]) := by
  have bx := bts_of hb
  rw [rstrip_list]
  have e : (sg x).reverse = (sg x).reverse.takeWhile ("1" : Str).cps.contains ++ (sg x).reverse.dropWhile ("1" : Str).cps.contains := List.takeWhile_append_dropWhile.symm
  have e2 : sg x = ((sg x).reverse.dropWhile ("1" : Str).cps.contains).reverse ++ ((sg x).reverse.takeWhile ("1" : Str).cps.contains).reverse := by
    have := congrArg List.reverse e
    rw [List.reverse_reverse, List.reverse_append] at this
    exact this
  have h1 : ∀ c ∈ ((sg x).reverse.takeWhile ("1" : Str).cps.contains).reverse, c = 49 := fun c hc => (one_has c).mp (by
    have := List.all_takeWhile (p := ("1" : Str).cps.contains) (l := (sg x).reverse)
    exact List.all_eq_true.mp this c (List.mem_reverse.mp hc))
  refine ⟨((sg x).reverse.takeWhile ("1" : Str).cps.contains).reverse.length, ?_, fun hne => ?_⟩
  · rw [← List.eq_replicate_of_mem h1]
    exact e2
  · cases hd : (sg x).reverse.dropWhile ("1" : Str).cps.contains with
    | nil =>
      exact absurd (str_ext (by
        show sg _ = sg ""
        rw [rstrip_list, hd, sg_empty]
        rfl)) hne
    | cons c r =>
      refine ⟨r.reverse, ?_⟩
      have hc : (("1" : Str)).cps.contains c = false := by
        exact drop_head hd
      have hm : c ∈ sg x := by
        have : c ∈ (sg x).reverse.dropWhile ("1" : Str).cps.contains := by rw [hd]; exact List.mem_cons_self
        exact List.mem_reverse.mp ((List.dropWhile_sublist _).subset this)
      have h48 : c = 48 := by
        rcases bx c hm with h | h
        · exact h
        · rw [(one_has c).mpr h] at hc
          cases hc
      rw [h48, List.reverse_cons]
/-- the first address behind all that begin with x, padded: none where x is ones alone -/
def behind (x : Str) : Str := cutS (Txt.rstripChars x "1") none (some (-1)) ++ "1"
def startsOf (w : Nat) (x : Str) : List Str := padW w x :: (if Txt.rstripChars x "1" = "" then [] else [padW w (behind x)])
def startsL (w : Nat) (xs : List Str) : List Str := padW w "" :: xs.flatMap (startsOf w)
theorem sg_butlast {z : Str} {t : List Nat} {c : Nat} (h : sg z = t ++ [c]) : sg (cutS z none (some (-1))) = t := by
  rw [sg_cut]
  have hl : z.length = t.length + 1 := by rw [← sg_len, h, List.length_append]; rfl
  have h1 : HT.sIx z.length z.length (some (-1)) = t.length := by
    unfold HT.sIx
    simp only []
    rw [hl]
    split <;> omega
  rw [h1, show HT.sIx z.length 0 none = 0 from rfl, List.drop_zero, Nat.sub_zero, h]
  exact List.take_left
/-- the numbers of the starts of a prefix -/
theorem starts_nv {w : Nat} {x : Str} (hb : isBits x = true) (hl : x.length ≤ w) :
    (Txt.rstripChars x "1" = "" → (nv (sg x) + 1) * 2 ^ (w - x.length) = 2 ^ w) ∧
    (Txt.rstripChars x "1" ≠ "" → isBits (behind x) = true ∧ (behind x).length ≤ w ∧ nv (sg (padW w (behind x))) = (nv (sg x) + 1) * 2 ^ (w - x.length)) := by
  obtain ⟨k, hk, ht⟩ := ones_split hb
  have lx : x.length = (Txt.rstripChars x "1").length + k := by rw [← sg_len, hk, List.length_append, List.length_replicate, sg_len]
  have n1 := nv_ones k
  have nx : nv (sg x) + 1 = (nv (sg (Txt.rstripChars x "1")) + 1) * 2 ^ k := by
    rw [hk, nv_app, List.length_replicate, Nat.add_mul, Nat.one_mul]
    omega
  refine ⟨fun e => ?_, fun e => ?_⟩
  · rw [nx, e, sg_empty]
    show (0 + 1) * 2 ^ k * _ = _
    rw [Nat.zero_add, Nat.one_mul, ← Nat.pow_add]
    congr 1
    rw [e, show ("" : Str).length = 0 by decide +kernel, Nat.zero_add] at lx
    omega
  · obtain ⟨t, h48⟩ := ht e
    have hc := sg_butlast h48
    have sb : sg (behind x) = t ++ [49] := by
      unfold behind
      rw [sg_app, hc, show ("1" : Str) = ⟨#[49]⟩ by decide +kernel]
    have lb : (behind x).length = (Txt.rstripChars x "1").length := by
      rw [← sg_len, sb, ← sg_len, h48, List.length_append, List.length_append]
      rfl
    have nb : nv (sg (behind x)) = nv (sg (Txt.rstripChars x "1")) + 1 := by
      rw [sb, h48, nv_app, nv_app]
      rfl
    have hbb : isBits (behind x) = true := bits_iff.mpr fun c hcm => by
      rw [sb] at hcm
      rcases List.mem_append.mp hcm with h | h
      · exact bits_iff.mp hb c (by rw [hk, h48]; exact List.mem_append_left _ (List.mem_append_left _ h))
      · exact .inr (List.mem_singleton.mp h)
    refine ⟨hbb, by omega, ?_⟩
    rw [nv_pad (by omega), nb, nx, Nat.mul_assoc, ← Nat.pow_add]
    congr 2
    omega
theorem max_of {α : Type} (f : α → Nat) : ∀ (l : List α), l ≠ [] → ∃ s ∈ l, ∀ t ∈ l, f t ≤ f s
  | [], h => absurd rfl h
  | [a], _ => ⟨a, List.mem_cons_self, fun t ht => by rw [List.mem_singleton.mp ht]; exact Nat.le_refl _⟩
  | a :: b :: l, _ => by
    obtain ⟨s, hs, hm⟩ := max_of f (b :: l) (List.cons_ne_nil _ _)
    by_cases h : f a ≤ f s
    · exact ⟨s, List.mem_cons_of_mem _ hs, fun t ht => (List.mem_cons.mp ht).elim (fun e => by rw [e]; exact h) (hm t)⟩
    · exact ⟨a, List.mem_cons_self, fun t ht => (List.mem_cons.mp ht).elim (fun e => by rw [e]; exact Nat.le_refl _) fun q => Nat.le_trans (hm t q) (by omega)⟩
theorem starts_ok {w : Nat} {xs : List Str} (hb : ∀ x ∈ xs, isBits x = true ∧ x.length ≤ w) {s : Str} (hs : s ∈ startsL w xs) : isBits s = true ∧ s.length = w := by
  rcases List.mem_cons.mp hs with rfl | hs
  · exact ⟨padW_bits (by decide +kernel), padW_len (Nat.zero_le _)⟩
  · obtain ⟨x, hx, h⟩ := List.mem_flatMap.mp hs
    obtain ⟨b, l⟩ := hb x hx
    rcases List.mem_cons.mp h with rfl | h
    · exact ⟨padW_bits b, padW_len l⟩
    · by_cases e : Txt.rstripChars x "1" = ""
      · rw [if_pos e] at h
        exact absurd h List.not_mem_nil
      · rw [if_neg e] at h
        rw [List.mem_singleton.mp h]
        obtain ⟨b2, l2, _⟩ := (starts_nv b l).2 e
        exact ⟨padW_bits b2, padW_len l2⟩
/-- below each address stands a start that begins with the same prefixes -/
theorem run_at {w : Nat} {xs : List Str} (hb : ∀ x ∈ xs, isBits x = true ∧ x.length ≤ w) {y : Str} (yb : isBits y = true) (yl : y.length = w) : ∃ s ∈ startsL w xs, LeS s y ∧ ∀ x ∈ xs, (Pre x s ↔ Pre x y) := by
  have hne : (startsL w xs).filter (fun s => decide (nv (sg s) ≤ nv (sg y))) ≠ [] := by
    intro h
    have : padW w "" ∈ (startsL w xs).filter (fun s => decide (nv (sg s) ≤ nv (sg y))) := List.mem_filter.mpr ⟨List.mem_cons_self, decide_eq_true (by rw [nv_pad (Nat.zero_le _), sg_empty]; show 0 * _ ≤ _; rw [Nat.zero_mul]; exact Nat.zero_le _)⟩
    rw [h] at this
    exact absurd this List.not_mem_nil
  obtain ⟨s, hs, mx⟩ := max_of (fun s => nv (sg s)) _ hne
  obtain ⟨hs, hle⟩ := List.mem_filter.mp hs
  have hle : nv (sg s) ≤ nv (sg y) := of_decide_eq_true hle
  obtain ⟨sb, sl⟩ := starts_ok hb hs
  have big : ∀ t ∈ startsL w xs, nv (sg t) ≤ nv (sg y) → nv (sg t) ≤ nv (sg s) := fun t ht h => mx t (List.mem_filter.mpr ⟨ht, decide_eq_true h⟩)
  refine ⟨s, hs, (nv_le (bts_of sb) (bts_of yb) (by rw [sg_len, sg_len, sl, yl])).mpr hle, fun x hx => ?_⟩
  obtain ⟨xb, xl⟩ := hb x hx
  have p1 := pre_nv (bts_of xb) (bts_of sb) (by rw [sg_len, sg_len, sl]; exact xl)
  have p2 := pre_nv (bts_of xb) (bts_of yb) (by rw [sg_len, sg_len, yl]; exact xl)
  rw [sg_len, sg_len, sl] at p1
  rw [sg_len, sg_len, yl] at p2
  have m1 : padW w x ∈ startsL w xs := List.mem_cons_of_mem _ (List.mem_flatMap.mpr ⟨x, hx, List.mem_cons_self⟩)
  obtain ⟨q1, q2⟩ := starts_nv xb xl
  have ylt := nv_lt (bts_of yb)
  rw [sg_len, yl] at ylt
  show sg x <+: sg s ↔ sg x <+: sg y
  rw [p1, p2]
  constructor
  · rintro ⟨h1, h2⟩
    refine ⟨by omega, ?_⟩
    by_cases e : Txt.rstripChars x "1" = ""
    · rw [q1 e]
      exact ylt
    · obtain ⟨_, _, hn⟩ := q2 e
      refine Nat.lt_of_not_le fun hc => ?_
      have m2 : padW w (behind x) ∈ startsL w xs := List.mem_cons_of_mem _ (List.mem_flatMap.mpr ⟨x, hx, List.mem_cons_of_mem _ (by rw [if_neg e]; exact List.mem_cons_self)⟩)
      have := big _ m2 (by rw [hn]; exact hc)
      rw [hn] at this
      omega
  · rintro ⟨h1, h2⟩
    have := big _ m1 (by rw [nv_pad xl]; exact h1)
    rw [nv_pad xl] at this
    exact ⟨this, by omega⟩
/-- where an address leads, so leads the start below it -/
theorem run_long {w : Nat} {xs zs : List Str} (hb : ∀ x ∈ xs, isBits x = true ∧ x.length ≤ w) (hz : ∀ x ∈ zs, x ∈ xs) {s y : Str} (h : ∀ x ∈ xs, (Pre x s ↔ Pre x y)) {r : Option Str} : IsLong zs s r ↔ IsLong zs y r := by
  cases r with
  | none => exact ⟨fun q x hx p => q x hx ((h x (hz x hx)).mpr p), fun q x hx p => q x hx ((h x (hz x hx)).mp p)⟩
  | some z => exact ⟨fun ⟨a, b, c⟩ => ⟨a, (h z (hz z a)).mp b, fun u hu p => c u hu ((h u (hz u hu)).mpr p)⟩, fun ⟨a, b, c⟩ => ⟨a, (h z (hz z a)).mpr b, fun u hu p => c u hu ((h u (hz u hu)).mp p)⟩⟩
/-! ### the ends of a closure, and the first address of a kind -/
theorem app_ne_empty (x : Str) (c : Nat) : x ++ (⟨#[c]⟩ : Str) ≠ "" := fun h => by
  have := congrArg sg h
  rw [sg_app, sg_empty] at this
  exact absurd (congrArg List.length this) (by rw [List.length_append]; exact Nat.succ_ne_zero _)
theorem zero_s : ("0" : Str) = ⟨#[48]⟩ := by decide +kernel
theorem one_s : ("1" : Str) = ⟨#[49]⟩ := by decide +kernel
theorem app_inj {x y : Str} {c d : Nat} (h : x ++ (⟨#[c]⟩ : Str) = y ++ (⟨#[d]⟩ : Str)) : x = y ∧ c = d := by
  have e := congrArg sg h
  rw [sg_app, sg_app] at e
  obtain ⟨h1, h2⟩ := List.append_inj' e rfl
  exact ⟨str_ext h1, by cases h2; rfl⟩
/-- in a closure a node has both children or none -/
theorem cl_twin {ps : List Str} {e : Str} : InCl ps (e ++ "0") ↔ InCl ps (e ++ "1") := by
  rw [zero_s, one_s]
  have key : ∀ c, c = 48 ∨ c = 49 → (InCl ps (e ++ (⟨#[c]⟩ : Str)) ↔ ∃ p ∈ ps, ∃ k, k < p.length ∧ e = preK p k) := fun c hc => by
    unfold InCl
    rw [zero_s, one_s]
    constructor
    · rintro (h | ⟨p, hp, k, hk, h | h⟩)
      · exact absurd h (app_ne_empty _ _)
      · exact ⟨p, hp, k, hk, (app_inj h).1⟩
      · exact ⟨p, hp, k, hk, (app_inj h).1⟩
    · rintro ⟨p, hp, k, hk, rfl⟩
      rcases hc with rfl | rfl
      · exact .inr ⟨p, hp, k, hk, .inl rfl⟩
      · exact .inr ⟨p, hp, k, hk, .inr rfl⟩
  rw [key 48 (.inl rfl), key 49 (.inr rfl)]
theorem preK_step {y : Str} {k : Nat} (yb : isBits y = true) (h : k < y.length) : preK y (k + 1) = preK y k ++ "0" ∨ preK y (k + 1) = preK y k ++ "1" := by
  have hk : k < (sg y).length := by rw [sg_len]; exact h
  have e : sg (preK y (k + 1)) = sg (preK y k) ++ [(sg y)[k]] := by
    rw [sg_preK, sg_preK, List.take_add_one, List.getElem?_eq_getElem hk]
    rfl
  rcases bits_iff.mp yb _ (List.getElem_mem hk) with h | h
  · refine .inl (str_ext ?_)
    show sg _ = sg _
    rw [e, h, zero_s, sg_app]
  · refine .inr (str_ext ?_)
    show sg _ = sg _
    rw [e, h, one_s, sg_app]
/-- each address begins with an end -/
theorem end_at {ps ns : List Str} {w : Nat} (mem : ∀ q, q ∈ ns ↔ InCl ps q) (hb : ∀ x ∈ ps, isBits x = true ∧ x.length ≤ w) {y : Str} (yb : isBits y = true) (yl : y.length = w) : ∃ e ∈ endsOf ns, Pre e y ∧ e.length ≤ w := by
  have h0 : 0 ∈ (List.range (w + 1)).filter fun k => decide (preK y k ∈ ns) := List.mem_filter.mpr ⟨List.mem_range.mpr (Nat.succ_pos _), decide_eq_true ((mem _).mpr (.inl (str_ext (by
    show sg _ = sg _
    rw [sg_preK, sg_empty]
    rfl))))⟩
  obtain ⟨k, hk, mx⟩ := max_of id _ (List.ne_nil_of_mem h0)
  obtain ⟨hk1, hk2⟩ := List.mem_filter.mp hk
  have hk1 : k < w + 1 := List.mem_range.mp hk1
  have hk2 : preK y k ∈ ns := of_decide_eq_true hk2
  have kl : (preK y k).length = k := preK_len (by omega)
  refine ⟨preK y k, List.mem_filter.mpr ⟨hk2, ?_⟩, ?_, by omega⟩
  · rw [Bool.not_eq_true', decide_eq_false_iff_not]
    intro hc
    have c0 := (mem _).mp hc
    have c1 := cl_twin.mp c0
    have l1 := (cl_ok hb c0).2
    rw [strLen_append, kl, show ("0" : Str).length = 1 by decide +kernel] at l1
    have : preK y (k + 1) ∈ ns := by
      rcases preK_step yb (show k < y.length by omega) with h | h
      · rw [h]; exact (mem _).mpr c0
      · rw [h]; exact (mem _).mpr c1
    have := mx (k + 1) (List.mem_filter.mpr ⟨List.mem_range.mpr (by omega), decide_eq_true this⟩)
    exact absurd this (Nat.not_succ_le_self k)
  · show sg (preK y k) <+: sg y
    rw [sg_preK]
    exact List.take_prefix _ _
/-- a row that begins an address behind an end begins the end -/
theorem leaf_at {ps ns : List Str} {x e y : Str} (mem : ∀ q, q ∈ ns ↔ InCl ps q) (he : e ∈ endsOf ns) (hx : x ∈ ps) (hy : Pre e y) : Pre x y ↔ Pre x e := by
  constructor
  · intro h
    have hx0 : ¬ e.length < x.length := fun hl => by
      have hp : sg e <+: sg x := List.prefix_of_prefix_length_le hy h (by rw [sg_len, sg_len]; omega)
      have hpre : preK x e.length = e := str_ext (by
        show sg _ = sg _
        rw [sg_preK, List.prefix_iff_eq_take.mp hp, sg_len])
      exact (ends_mem he).2 ((mem _).mpr (.inr ⟨x, hx, e.length, hl, .inl (by rw [hpre])⟩))
    exact List.prefix_of_prefix_length_le h hy (by rw [sg_len, sg_len]; omega)
  · exact fun h => List.IsPrefix.trans h hy
theorem leaf_at_long {ps ns xs : List Str} {e y : Str} (mem : ∀ q, q ∈ ns ↔ InCl ps q) (he : e ∈ endsOf ns) (hx : ∀ x ∈ xs, x ∈ ps) (hy : Pre e y) {r : Option Str} : IsLong xs y r ↔ IsLong xs e r := by
  have key : ∀ x ∈ xs, (Pre x y ↔ Pre x e) := fun x h => leaf_at mem he (hx x h) hy
  cases r with
  | none => exact ⟨fun h x hm q => h x hm ((key x hm).mpr q), fun h x hm q => h x hm ((key x hm).mp q)⟩
  | some z => exact ⟨fun ⟨h1, h2, h3⟩ => ⟨h1, (key z h1).mp h2, fun u hu q => h3 u hu ((key u hu).mpr q)⟩, fun ⟨h1, h2, h3⟩ => ⟨h1, (key z h1).mpr h2, fun u hu q => h3 u hu ((key u hu).mp q)⟩⟩
/-- no end begins another one -/
theorem ends_apart {ps ns : List Str} {e f : Str} (mem : ∀ q, q ∈ ns ↔ InCl ps q) (he : e ∈ endsOf ns) (hf : f ∈ endsOf ns) (h : Pre e f) : e = f := by
  obtain ⟨hfn, _⟩ := ends_mem hf
  rcases (mem _).mp hfn with rfl | ⟨p, hp, k, hk, hq⟩
  · exact str_ext (by
      have := List.IsPrefix.length_le h
      rw [sg_empty] at this
      have e0 : sg e = [] := List.eq_nil_of_length_eq_zero (by simpa using this)
      show sg e = sg ""
      rw [e0]
      exact sg_empty.symm)
  · have lf : f.length = k + 1 := by
      rcases hq with rfl | rfl
      · rw [strLen_append, preK_len (Nat.le_of_lt hk)]; rfl
      · rw [strLen_append, preK_len (Nat.le_of_lt hk)]; rfl
    have le := pre_len h
    by_cases hl : e.length = k + 1
    · exact str_ext (by
        have := List.prefix_iff_eq_take.mp h
        show sg e = sg f
        rw [show sg e = _ from this, sg_len, hl, ← lf, ← sg_len, List.take_length])
    · exfalso
      have pk : Pre (preK p k) f := by
        rcases hq with rfl | rfl
        · show sg _ <+: sg _; rw [sg_app]; exact List.prefix_append _ _
        · show sg _ <+: sg _; rw [sg_app]; exact List.prefix_append _ _
      have ek : Pre e (preK p k) := List.prefix_of_prefix_length_le h pk (by rw [sg_len, sg_len, preK_len (Nat.le_of_lt hk)]; omega)
      have ep : sg e <+: sg p := List.IsPrefix.trans ek (by rw [sg_preK]; exact List.take_prefix _ _)
      have hpre : preK p e.length = e := str_ext (by
        show sg _ = sg _
        rw [sg_preK, List.prefix_iff_eq_take.mp ep, sg_len])
      exact (ends_mem he).2 ((mem _).mpr (.inr ⟨p, hp, e.length, by omega, .inl (by rw [hpre])⟩))
theorem le_more : ∀ {l m : List Nat} (r s : List Nat), l ≤ m → ¬ l <+: m → l ++ r ≤ m ++ s
  | [], m, _, _, _, h => absurd (List.nil_prefix) h
  | _ :: _, [], _, _, h, _ => absurd h (by simp)
  | a :: l, b :: m, r, s, h, hp => by
    rw [List.cons_append, List.cons_append, List.cons_le_cons_iff]
    rcases List.cons_le_cons_iff.mp h with h2 | ⟨e, h2⟩
    · exact .inl h2
    · subst e
      exact .inr ⟨rfl, le_more r s h2 fun q => hp (List.cons_prefix_cons.mpr ⟨rfl, q⟩)⟩
/-- the order of ends is that of their first addresses -/
theorem ends_le {ps ns : List Str} {w : Nat} {e f : Str} (mem : ∀ q, q ∈ ns ↔ InCl ps q) (he : e ∈ endsOf ns) (hf : f ∈ endsOf ns) (h : LeS e f) : LeS (padW w e) (padW w f) := by
  by_cases hp : Pre e f
  · rw [ends_apart mem he hf hp]
    exact List.le_refl _
  · show sg (padW w e) ≤ sg (padW w f)
    unfold padW
    rw [sg_app, sg_app]
    exact le_more _ _ h hp
/-- an end's first address lies below all that begin with it -/
theorem pad_le {w : Nat} {e y : Str} (eb : isBits e = true) (yb : isBits y = true) (el : e.length ≤ w) (yl : y.length = w) (h : Pre e y) : LeS (padW w e) y := by
  have p := (pre_nv (bts_of eb) (bts_of yb) (by rw [sg_len, sg_len]; omega)).mp h
  rw [sg_len, sg_len, yl] at p
  exact (nv_le (bts_of (padW_bits eb)) (bts_of yb) (by rw [sg_len, sg_len, padW_len el, yl])).mpr (by rw [nv_pad el]; exact p.1)
/-- the least address of a kind -/
def Least (w : Nat) (D : Str → Prop) (s : Str) : Prop := isBits s = true ∧ s.length = w ∧ D s ∧ ∀ y, isBits y = true → y.length = w → D y → LeS s y
theorem Least.uniq {w : Nat} {D : Str → Prop} {s t : Str} (h : Least w D s) (h' : Least w D t) : s = t := leS_anti (h.2.2.2 t h'.1 h'.2.1 h'.2.2.1) (h'.2.2.2 s h.1 h.2.1 h.2.2.1)
/-- the first start of a kind is the least address of it -/
theorem start_least {w : Nat} {ps ys : List Str} (hb : ∀ x ∈ ps, isBits x = true ∧ x.length ≤ w) (up : sortedS ys = true) (mem : ∀ u, u ∈ ys ↔ u ∈ startsL w ps) {D : Str → Prop} (hD : ∀ s y, (∀ x ∈ ps, (Pre x s ↔ Pre x y)) → D y → D s) {i : Nat} {s : Str} (hi : ys[i]? = some s) (hs : D s) (hf : ∀ j z, j < i → ys[j]? = some z → ¬ D z) : Least w D s := by
  obtain ⟨sb, sl⟩ := starts_ok hb ((mem s).mp (List.mem_of_getElem? hi))
  refine ⟨sb, sl, hs, fun y yb yl hy => ?_⟩
  obtain ⟨t, ht, hle, hpre⟩ := run_at hb yb yl
  have hDt := hD t y hpre hy
  obtain ⟨j, hj⟩ := List.mem_iff_getElem?.mp ((mem t).mpr ht)
  have hij : ¬ j < i := fun q => hf j t q hj hDt
  have pw := up_pw up
  have : LeS s t := by
    rcases Nat.lt_or_eq_of_le (Nat.le_of_not_lt hij) with q | q
    · obtain ⟨h1, e1⟩ := List.getElem?_eq_some_iff.mp hi
      obtain ⟨h2, e2⟩ := List.getElem?_eq_some_iff.mp hj
      have := List.pairwise_iff_getElem.mp pw i j h1 h2 q
      rw [e1, e2] at this
      exact this
    · subst q
      rw [hi] at hj
      cases hj
      exact List.le_refl _
  exact leS_trans this hle
/-- the first end of a kind, padded, is the least address of it -/
theorem end_least {w : Nat} {ps ns : List Str} (hb : ∀ x ∈ ps, isBits x = true ∧ x.length ≤ w) (up : sortedS ns = true) (mem : ∀ q, q ∈ ns ↔ InCl ps q) {D : Str → Prop} (hD : ∀ e y, e ∈ endsOf ns → Pre e y → (D y ↔ D e)) {i : Nat} {e : Str} (hi : (endsOf ns)[i]? = some e) (hs : D e) (hf : ∀ j z, j < i → (endsOf ns)[j]? = some z → ¬ D z) : Least w D (padW w e) := by
  have he := List.mem_of_getElem? hi
  obtain ⟨eb, el⟩ := cl_ok hb ((mem e).mp (ends_mem he).1)
  have pe : Pre e (padW w e) := by
    show sg e <+: sg (padW w e)
    unfold padW
    rw [sg_app]
    exact List.prefix_append _ _
  refine ⟨padW_bits eb, padW_len el, (hD e _ he pe).mpr hs, fun y yb yl hy => ?_⟩
  obtain ⟨f, hf1, hpre, fl⟩ := end_at mem hb yb yl
  obtain ⟨fb, _⟩ := cl_ok hb ((mem f).mp (ends_mem hf1).1)
  have hDf := (hD f y hf1 hpre).mp hy
  obtain ⟨j, hj⟩ := List.mem_iff_getElem?.mp hf1
  have hij : ¬ j < i := fun q => hf j f q hj hDf
  have pw : (endsOf ns).Pairwise LeS := (up_pw up).filter _
  have : LeS e f := by
    rcases Nat.lt_or_eq_of_le (Nat.le_of_not_lt hij) with q | q
    · obtain ⟨h1, e1⟩ := List.getElem?_eq_some_iff.mp hi
      obtain ⟨h2, e2⟩ := List.getElem?_eq_some_iff.mp hj
      have := List.pairwise_iff_getElem.mp pw i j h1 h2 q
      rw [e1, e2] at this
      exact this
    · subst q
      rw [hi] at hj
      cases hj
      exact List.le_refl _
  exact leS_trans (ends_le mem he hf1 this) (pad_le fb yb fl yl hpre)
/-! ### the longest runs of one value -/
/-- the longest runs of one value that cover the numbers below n -/
inductive Rn {α : Type} (f : Nat → α) : Nat → List (Nat × Nat × α) → Prop
  | nil : Rn f 0 []
  | snoc {n m : Nat} {l : List (Nat × Nat × α)} {v : α} : Rn f n l → n < m → (∀ j, n ≤ j → j < m → f j = v) → (∀ t, l.getLast? = some t → t.2.2 ≠ v) → Rn f m (l ++ [(n, m, v)])
theorem Rn.last {α : Type} {f : Nat → α} {n : Nat} {l : List (Nat × Nat × α)} (h : Rn f n l) (p : 0 < n) : ∃ l' t, l = l' ++ [t] ∧ t.2.1 = n ∧ t.2.2 = f (n - 1) ∧ t.1 < n := by
  cases h with
  | nil => exact absurd p (Nat.lt_irrefl 0)
  | snoc h lt hv ne => exact ⟨_, _, rfl, rfl, (hv _ (by omega) (by omega)).symm, lt⟩
theorem Rn.zero {α : Type} {f : Nat → α} {l : List (Nat × Nat × α)} (h : Rn f 0 l) : l = [] := by
  generalize e : 0 = n at h
  cases h with
  | nil => rfl
  | snoc h lt hv ne => omega
theorem Rn.uniq {α : Type} {f : Nat → α} {n : Nat} {l : List (Nat × Nat × α)} (h : Rn f n l) : ∀ {l' : List (Nat × Nat × α)}, Rn f n l' → l = l' := by
  induction h with
  | nil => exact fun h' => h'.zero.symm
  | @snoc a m l v h lt hv ne ih =>
    intro l' h'
    cases h' with
    | nil => exact absurd lt (Nat.not_lt_zero _)
    | @snoc a' _ l2 v2 h2 lt2 hv2 ne2 =>
      have ev : v = v2 := by rw [← hv (m - 1) (by omega) (by omega), ← hv2 (m - 1) (by omega) (by omega)]
      subst ev
      have ea : a = a' := by
        rcases Nat.lt_trichotomy a a' with q | q | q
        · obtain ⟨l3, t, rfl, _, et, _⟩ := h2.last (by omega)
          exact absurd (et.trans (hv (a' - 1) (by omega) (by omega))) (ne2 t (by rw [List.getLast?_concat]))
        · exact q
        · obtain ⟨l3, t, rfl, _, et, _⟩ := h.last (by omega)
          exact absurd (et.trans (hv2 (a - 1) (by omega) (by omega))) (ne t (by rw [List.getLast?_concat]))
      subst ea
      rw [ih h2]
theorem Rn.grow {α : Type} {f : Nat → α} {n m a b : Nat} {v : α} {l : List (Nat × Nat × α)} (h : Rn f n (l ++ [(a, b, v)])) (lt : n ≤ m) (hv : ∀ j, n ≤ j → j < m → f j = v) : Rn f m (l ++ [(a, m, v)]) := by
  generalize e : l ++ [(a, b, v)] = l0 at h
  cases h with
  | nil => simp at e
  | @snoc a' m' l' v' h lt2 hv2 ne =>
    obtain ⟨e1, e2⟩ := List.append_inj' e rfl
    cases e2
    subst e1
    refine .snoc h (by omega) (fun j h1 h2 => ?_) ne
    by_cases hj : j < n
    · exact hv2 j h1 hj
    · exact hv j (by omega) h2
/-- one tile more -/
theorem Rn.step {α : Type} {f : Nat → α} {n m : Nat} {v : α} {l : List (Nat × Nat × α)} (h : Rn f n l) (lt : n < m) (hv : ∀ j, n ≤ j → j < m → f j = v) :
    (∀ l' t, l = l' ++ [t] → t.2.2 = v → Rn f m (l' ++ [(t.1, m, v)])) ∧ ((∀ t, l.getLast? = some t → t.2.2 ≠ v) → Rn f m (l ++ [(n, m, v)])) := by
  refine ⟨fun l' t e hv2 => ?_, fun ne => .snoc h lt hv ne⟩
  obtain ⟨a, b, v'⟩ := t
  have hv2 : v' = v := hv2
  subst hv2 e
  exact h.grow (Nat.le_of_lt lt) hv
/-- each run ends where the next one begins -/
theorem Rn.ends {α : Type} {f : Nat → α} {n : Nat} {l : List (Nat × Nat × α)} (h : Rn f n l) (p : 0 < n) : l.map (·.2.1) = l.tail.map (·.1) ++ [n] := by
  induction h with
  | nil => exact absurd p (Nat.lt_irrefl 0)
  | @snoc a m l v h lt hv ne ih =>
    by_cases ha : a = 0
    · subst ha
      rw [h.zero]
      rfl
    · obtain ⟨l', t, rfl, _⟩ := h.last (Nat.pos_of_ne_zero ha)
      have ih := ih (Nat.pos_of_ne_zero ha)
      have et : (l' ++ [t] ++ [(a, m, v)]).tail = (l' ++ [t]).tail ++ [(a, m, v)] := by
        cases l' <;> rfl
      rw [et, List.map_append, ih, List.map_append]
      simp
theorem Rn.mem {α : Type} {f : Nat → α} {n : Nat} {l : List (Nat × Nat × α)} (h : Rn f n l) : ∀ t ∈ l, t.1 < t.2.1 ∧ t.2.1 ≤ n ∧ ∀ j, t.1 ≤ j → j < t.2.1 → f j = t.2.2 := by
  induction h with
  | nil => exact fun _ h => absurd h List.not_mem_nil
  | @snoc a m l v h lt hv ne ih =>
    intro t ht
    rcases List.mem_append.mp ht with ht | ht
    · obtain ⟨h1, h2, h3⟩ := ih t ht
      exact ⟨h1, by omega, h3⟩
    · rw [List.mem_singleton.mp ht]
      exact ⟨lt, Nat.le_refl _, hv⟩
/-- one run holds a number -/
theorem Rn.at {α : Type} {f : Nat → α} {n : Nat} {l : List (Nat × Nat × α)} (h : Rn f n l) {j : Nat} (hj : j < n) : ∃ t, l.filter (fun t => decide (t.1 ≤ j) && decide (j < t.2.1)) = [t] ∧ t.2.2 = f j := by
  induction h with
  | nil => exact absurd hj (Nat.not_lt_zero _)
  | @snoc a m l v h lt hv ne ih =>
    rw [List.filter_append]
    by_cases hja : j < a
    · obtain ⟨t, e1, e2⟩ := ih hja
      refine ⟨t, ?_, e2⟩
      rw [e1, List.filter_cons_of_neg (by simp; omega)]
      rfl
    · refine ⟨(a, m, v), ?_, (hv j (by omega) hj).symm⟩
      rw [List.filter_eq_nil_iff.mpr fun t ht => by
        obtain ⟨_, h2, _⟩ := h.mem t ht
        simp
        omega, List.filter_cons_of_pos (by simp; omega)]
      rfl
/-- intervals that lie one behind the other and leave nothing out, from n to N -/
inductive Tile : Nat → List (Nat × Nat) → Nat → Prop
  | nil {n : Nat} : Tile n [] n
  | cons {n b N : Nat} {l : List (Nat × Nat)} : n < b → Tile b l N → Tile n ((n, b) :: l) N
theorem tile_of {N : Nat} : ∀ {l : List (Nat × Nat)} {n : Nat}, n ≤ N → (∀ t ∈ l, t.1 < t.2 ∧ n ≤ t.1 ∧ t.2 ≤ N) → l.Pairwise (fun s t => s.2 ≤ t.1) → (∀ x, n ≤ x → x < N → ∃ t ∈ l, t.1 ≤ x ∧ x < t.2) → Tile n l N
  | [], n, h, _, _, c => by
    have : n = N := by
      refine Nat.le_antisymm h (Nat.le_of_not_lt fun q => ?_)
      obtain ⟨t, ht, _⟩ := c n (Nat.le_refl _) q
      exact absurd ht List.not_mem_nil
    subst this
    exact .nil
  | (a, b) :: l, n, h, hl, hp, c => by
    obtain ⟨h1, h2, h3⟩ := hl (a, b) List.mem_cons_self
    obtain ⟨p1, p2⟩ := List.pairwise_cons.mp hp
    have h1 : a < b := h1
    have h2 : n ≤ a := h2
    have h3 : b ≤ N := h3
    have ea : a = n := by
      obtain ⟨t, ht, q1, q2⟩ := c n (Nat.le_refl _) (by omega)
      rcases List.mem_cons.mp ht with rfl | ht
      · exact Nat.le_antisymm q1 h2
      · have : b ≤ t.1 := p1 t ht
        omega
    subst ea
    refine .cons h1 (tile_of h3 (fun t ht => ⟨(hl t (List.mem_cons_of_mem _ ht)).1, p1 t ht, (hl t (List.mem_cons_of_mem _ ht)).2.2⟩) p2 fun x hx1 hx2 => ?_)
    obtain ⟨t, ht, q1, q2⟩ := c x (by omega) hx2
    rcases List.mem_cons.mp ht with rfl | ht
    · have : x < b := q2
      omega
    · exact ⟨t, ht, q1, q2⟩
theorem Tile.get {N : Nat} : ∀ {l : List (Nat × Nat)} {n : Nat}, Tile n l N → ∀ {i : Nat} {t : Nat × Nat}, l[i]? = some t → t.1 < t.2 ∧ (i = 0 → t.1 = n) ∧ (∀ s, l[i + 1]? = some s → s.1 = t.2) ∧ (l[i + 1]? = none → t.2 = N)
  | _, _, .nil, i, t, h => by simp at h
  | _, _, .cons (l := l) lt hl, 0, t, h => by
    cases h
    refine ⟨lt, fun _ => rfl, fun s hs => ?_, fun hn => ?_⟩
    · have hs : l[0]? = some s := hs
      exact (hl.get hs).2.1 rfl
    · have hn : l[0]? = none := hn
      cases hl with
      | nil => rfl
      | cons => simp at hn
  | _, _, .cons (l := l) lt hl, i + 1, t, h => by
    have h : l[i]? = some t := h
    obtain ⟨h1, _, h3, h4⟩ := hl.get h
    exact ⟨h1, fun q => absurd q (Nat.succ_ne_zero _), h3, h4⟩
/-! ### runs by numbers -/
theorem zero_has2 (c : Nat) : (("0" : Str)).cps.contains c = true ↔ c = 48 := by
  rw [show ("0" : Str) = ⟨#[48]⟩ by decide +kernel]
  simp
/-- bits end in zeros, and before them stands a one, or nothing -/
theorem zeros_split {x : Str} (hb : isBits x = true) : ∃ k, sg x = sg (Txt.rstripChars x "0") ++ List.replicate k 48 ∧ (Txt.rstripChars x "0" ≠ "" → ∃ t, sg (Txt.rstripChars x "0") = t ++ [49]) := by
  have bx := bts_of hb
  rw [rstrip_list]
  have e : (sg x).reverse = (sg x).reverse.takeWhile ("0" : Str).cps.contains ++ (sg x).reverse.dropWhile ("0" : Str).cps.contains := List.takeWhile_append_dropWhile.symm
  have e2 : sg x = ((sg x).reverse.dropWhile ("0" : Str).cps.contains).reverse ++ ((sg x).reverse.takeWhile ("0" : Str).cps.contains).reverse := by
    have := congrArg List.reverse e
    rw [List.reverse_reverse, List.reverse_append] at this
    exact this
  have h1 : ∀ c ∈ ((sg x).reverse.takeWhile ("0" : Str).cps.contains).reverse, c = 48 := fun c hc => (zero_has2 c).mp (by
    have := List.all_takeWhile (p := ("0" : Str).cps.contains) (l := (sg x).reverse)
    exact List.all_eq_true.mp this c (List.mem_reverse.mp hc))
  refine ⟨((sg x).reverse.takeWhile ("0" : Str).cps.contains).reverse.length, ?_, fun hne => ?_⟩
  · rw [← List.eq_replicate_of_mem h1]
    exact e2
  · cases hd : (sg x).reverse.dropWhile ("0" : Str).cps.contains with
    | nil =>
      exact absurd (str_ext (by
        show sg _ = sg ""
        rw [rstrip_list, hd, sg_empty]
        rfl)) hne
    | cons c r =>
      refine ⟨r.reverse, ?_⟩
      have hc : (("0" : Str)).cps.contains c = false := by
        exact drop_head hd
      have hm : c ∈ sg x := by
        have : c ∈ (sg x).reverse.dropWhile ("0" : Str).cps.contains := by rw [hd]; exact List.mem_cons_self
        exact List.mem_reverse.mp ((List.dropWhile_sublist _).subset this)
      have h49 : c = 49 := by
        rcases bx c hm with h | h
        · rw [(zero_has2 c).mpr h] at hc
          cases hc
        · exact h
      rw [h49, List.reverse_cons]
/-- below each address stands a start, the greatest one, that begins with the same prefixes -/
theorem run_atM {w : Nat} {xs : List Str} (hb : ∀ x ∈ xs, isBits x = true ∧ x.length ≤ w) {y : Str} (yb : isBits y = true) (yl : y.length = w) : ∃ s ∈ startsL w xs, LeS s y ∧ (∀ t ∈ startsL w xs, nv (sg t) ≤ nv (sg y) → nv (sg t) ≤ nv (sg s)) ∧ ∀ x ∈ xs, (Pre x s ↔ Pre x y) := by
  have hne : (startsL w xs).filter (fun s => decide (nv (sg s) ≤ nv (sg y))) ≠ [] := by
    intro h
    have : padW w "" ∈ (startsL w xs).filter (fun s => decide (nv (sg s) ≤ nv (sg y))) := List.mem_filter.mpr ⟨List.mem_cons_self, decide_eq_true (by rw [nv_pad (Nat.zero_le _), sg_empty]; show 0 * _ ≤ _; rw [Nat.zero_mul]; exact Nat.zero_le _)⟩
    rw [h] at this
    exact absurd this List.not_mem_nil
  obtain ⟨s, hs, mx⟩ := max_of (fun s => nv (sg s)) _ hne
  obtain ⟨hs, hle⟩ := List.mem_filter.mp hs
  have hle : nv (sg s) ≤ nv (sg y) := of_decide_eq_true hle
  obtain ⟨sb, sl⟩ := starts_ok hb hs
  have big : ∀ t ∈ startsL w xs, nv (sg t) ≤ nv (sg y) → nv (sg t) ≤ nv (sg s) := fun t ht h => mx t (List.mem_filter.mpr ⟨ht, decide_eq_true h⟩)
  refine ⟨s, hs, (nv_le (bts_of sb) (bts_of yb) (by rw [sg_len, sg_len, sl, yl])).mpr hle, big, fun x hx => ?_⟩
  obtain ⟨xb, xl⟩ := hb x hx
  have p1 := pre_nv (bts_of xb) (bts_of sb) (by rw [sg_len, sg_len, sl]; exact xl)
  have p2 := pre_nv (bts_of xb) (bts_of yb) (by rw [sg_len, sg_len, yl]; exact xl)
  rw [sg_len, sg_len, sl] at p1
  rw [sg_len, sg_len, yl] at p2
  have m1 : padW w x ∈ startsL w xs := List.mem_cons_of_mem _ (List.mem_flatMap.mpr ⟨x, hx, List.mem_cons_self⟩)
  obtain ⟨q1, q2⟩ := starts_nv xb xl
  have ylt := nv_lt (bts_of yb)
  rw [sg_len, yl] at ylt
  show sg x <+: sg s ↔ sg x <+: sg y
  rw [p1, p2]
  constructor
  · rintro ⟨h1, h2⟩
    refine ⟨by omega, ?_⟩
    by_cases e : Txt.rstripChars x "1" = ""
    · rw [q1 e]
      exact ylt
    · obtain ⟨_, _, hn⟩ := q2 e
      refine Nat.lt_of_not_le fun hc => ?_
      have m2 : padW w (behind x) ∈ startsL w xs := List.mem_cons_of_mem _ (List.mem_flatMap.mpr ⟨x, hx, List.mem_cons_of_mem _ (by rw [if_neg e]; exact List.mem_cons_self)⟩)
      have := big _ m2 (by rw [hn]; exact hc)
      rw [hn] at this
      omega
  · rintro ⟨h1, h2⟩
    have := big _ m1 (by rw [nv_pad xl]; exact h1)
    rw [nv_pad xl] at this
    exact ⟨this, by omega⟩
theorem nv_onto : ∀ (w n : Nat), n < 2 ^ w → ∃ l, bts l ∧ l.length = w ∧ nv l = n
  | 0, n, h => ⟨[], fun _ q => absurd q List.not_mem_nil, rfl, by rw [Nat.pow_zero] at h; show 0 = n; omega⟩
  | w + 1, n, h => by
    rw [Nat.pow_succ] at h
    by_cases hn : n < 2 ^ w
    · obtain ⟨l, h1, h2, h3⟩ := nv_onto w n hn
      refine ⟨48 :: l, fun c hc => ?_, by rw [List.length_cons, h2], ?_⟩
      · rcases List.mem_cons.mp hc with e | e
        · exact .inl e
        · exact h1 c e
      · show (48 - 48) * _ + nv l = n
        omega
    · obtain ⟨l, h1, h2, h3⟩ := nv_onto w (n - 2 ^ w) (by omega)
      refine ⟨49 :: l, fun c hc => ?_, by rw [List.length_cons, h2], ?_⟩
      · rcases List.mem_cons.mp hc with e | e
        · exact .inr e
        · exact h1 c e
      · show (49 - 48) * 2 ^ l.length + nv l = n
        rw [h2, h3]
        omega
theorem adr_ex {w n : Nat} (h : n < 2 ^ w) : ∃ y : Str, isBits y = true ∧ y.length = w ∧ nv (sg y) = n := by
  obtain ⟨l, h1, h2, h3⟩ := nv_onto w n h
  have e : sg (⟨l.toArray⟩ : Str) = l := by show l.toArray.toList = l; simp
  exact ⟨⟨l.toArray⟩, bits_iff.mpr fun c hc => h1 c (by rw [← e]; exact hc), by rw [← sg_len, e, h2], by rw [e, h3]⟩
/-- the address of a number -/
noncomputable def adr (w n : Nat) : Str := open Classical in if h : ∃ y : Str, isBits y = true ∧ y.length = w ∧ nv (sg y) = n then h.choose else ""
theorem adr_ok {w n : Nat} (h : n < 2 ^ w) : isBits (adr w n) = true ∧ (adr w n).length = w ∧ nv (sg (adr w n)) = n := by
  have ex := adr_ex h
  unfold adr
  rw [dif_pos ex]
  exact ex.choose_spec
theorem adr_uniq {x y : Str} (xb : isBits x = true) (yb : isBits y = true) (l : x.length = y.length) (h : nv (sg x) = nv (sg y)) : x = y :=
  str_ext (nv_inj (bts_of xb) (bts_of yb) (by rw [sg_len, sg_len]; exact l) h)
theorem adr_lt {w : Nat} {y : Str} (yb : isBits y = true) (yl : y.length = w) : nv (sg y) < 2 ^ w := by
  have := nv_lt (bts_of yb)
  rwa [sg_len, yl] at this
theorem adr_nv {w n : Nat} {y : Str} (yb : isBits y = true) (yl : y.length = w) (h : nv (sg y) = n) : y = adr w n := by
  obtain ⟨h1, h2, h3⟩ := adr_ok (w := w) (n := n) (by rw [← h]; exact adr_lt yb yl)
  exact adr_uniq yb h1 (by rw [yl, h2]) (by rw [h, h3])
theorem ljust_list {x : Str} {w c : Nat} (h : x.length ≤ w) : sg (Txt.ljustF x (w : Int) c) = sg x ++ List.replicate (w - x.length) c := by
  unfold Txt.ljustF
  by_cases e : (w : Int) ≤ x.length
  · rw [if_pos e, show w - x.length = 0 by omega, List.replicate_zero, List.append_nil]
  · rw [if_neg e]
    show (PySem.Builtin.Str.padded x 0 ((w : Int).toNat - x.length) c).cps.toList = _
    rw [padded_list, List.replicate_zero, List.nil_append, Int.toNat_natCast]
/-- the address before one -/
def beforeA (w : Nat) (y : Str) : Str := Txt.ljustF (cutS (Txt.rstripChars y "0") none (some (-1)) ++ "0") (w : Int) (("1" : Str).cps.getD 0 0)
theorem before_ok {w : Nat} {y : Str} (yb : isBits y = true) (yl : y.length = w) (p : 0 < nv (sg y)) : isBits (beforeA w y) = true ∧ (beforeA w y).length = w ∧ nv (sg (beforeA w y)) + 1 = nv (sg y) := by
  obtain ⟨k, hk, ht⟩ := zeros_split yb
  have ne : Txt.rstripChars y "0" ≠ "" := fun e => by
    rw [hk, e, sg_empty, List.nil_append, nv_zeros] at p
    exact absurd p (Nat.lt_irrefl 0)
  obtain ⟨t, h49⟩ := ht ne
  have hc := sg_butlast h49
  have ls : (Txt.rstripChars y "0").length = t.length + 1 := by rw [← sg_len, h49, List.length_append]; rfl
  have ly : w = t.length + 1 + k := by rw [← yl, ← sg_len, hk, List.length_append, List.length_replicate, sg_len, ls]
  have sz : sg (cutS (Txt.rstripChars y "0") none (some (-1)) ++ "0") = t ++ [48] := by
    rw [sg_app, hc, show ("0" : Str) = ⟨#[48]⟩ by decide +kernel]
  have lz : (cutS (Txt.rstripChars y "0") none (some (-1)) ++ "0" : Str).length = t.length + 1 := by rw [← sg_len, sz, List.length_append]; rfl
  have one : ("1" : Str).cps.getD 0 0 = 49 := by decide +kernel
  have e : sg (beforeA w y) = t ++ [48] ++ List.replicate k 49 := by
    unfold beforeA
    rw [ljust_list (by rw [lz]; omega), sz, lz, one, show w - (t.length + 1) = k by omega]
  refine ⟨bits_iff.mpr fun c hc => ?_, ?_, ?_⟩
  · rw [e] at hc
    rcases List.mem_append.mp hc with h | h
    · rcases List.mem_append.mp h with h | h
      · exact bits_iff.mp yb c (by rw [hk, h49]; exact List.mem_append_left _ (List.mem_append_left _ h))
      · exact .inl (List.mem_singleton.mp h)
    · exact .inr (List.eq_of_mem_replicate h)
  · rw [← sg_len, e, List.length_append, List.length_append, List.length_replicate, ly]
    rfl
  · have n1 := nv_ones k
    rw [e, hk, h49, nv_app, nv_app, nv_app, nv_app, nv_zeros, List.length_replicate, List.length_replicate]
    show (nv t * 2 ^ 1 + 0) * 2 ^ k + nv (List.replicate k 49) + 1 = (nv t * 2 ^ 1 + 1) * 2 ^ k + 0
    rw [Nat.add_zero (nv t * 2 ^ 1), Nat.add_mul (nv t * 2 ^ 1) 1, Nat.one_mul]
    omega
/-- an end's last address -/
def padO (w : Nat) (x : Str) : Str := x ++ Txt.mul "1" ((w - x.length : Nat) : Int)
theorem padO_ok {w : Nat} {x : Str} (xb : isBits x = true) (xl : x.length ≤ w) : isBits (padO w x) = true ∧ (padO w x).length = w ∧ nv (sg (padO w x)) + 1 = (nv (sg x) + 1) * 2 ^ (w - x.length) := by
  have e : sg (padO w x) = sg x ++ List.replicate (w - x.length) 49 := by
    unfold padO
    rw [sg_app, show ("1" : Str) = ⟨#[49]⟩ by decide +kernel, sg_mul]
  refine ⟨bits_iff.mpr fun c hc => ?_, ?_, ?_⟩
  · rw [e] at hc
    rcases List.mem_append.mp hc with h | h
    · exact bits_iff.mp xb c h
    · exact .inr (List.eq_of_mem_replicate h)
  · rw [← sg_len, e, List.length_append, List.length_replicate, sg_len]
    omega
  · have := nv_ones (w - x.length)
    rw [e, nv_app, List.length_replicate, Nat.add_mul, Nat.one_mul]
    omega
theorem padW_end {w : Nat} {x : Str} (xl : x.length ≤ w) : nv (sg (padW w x)) = nv (sg x) * 2 ^ (w - x.length) := nv_pad xl
/-- cuts of the numbers below N, between which a value stays -/
structure Cuts {α : Type} (F : Str → α) (w : Nat) (c : Nat → Nat) (n : Nat) : Prop where
  first : c 0 = 0
  last : c n = 2 ^ w
  up : ∀ i, i < n → c i < c (i + 1)
  top : ∀ i, i ≤ n → c i ≤ 2 ^ w
  same : ∀ i, i < n → ∀ j, c i ≤ j → j < c (i + 1) → F (adr w j) = F (adr w (c i))
noncomputable def startC (w : Nat) (ys : List Str) (i : Nat) : Nat := (ys[i]?.map fun s => nv (sg s)).getD (2 ^ w)
theorem start_cuts {α : Type} {F : Str → α} {w : Nat} {ps ys : List Str} (hb : ∀ x ∈ ps, isBits x = true ∧ x.length ≤ w) (up : sortedS ys = true) (nd : ys.Nodup) (mem : ∀ u, u ∈ ys ↔ u ∈ startsL w ps)
    (hF : ∀ s y, (∀ x ∈ ps, (Pre x s ↔ Pre x y)) → F s = F y) : Cuts F w (startC w ys) ys.length := by
  have ok : ∀ s ∈ ys, isBits s = true ∧ s.length = w := fun s hs => starts_ok hb ((mem s).mp hs)
  have pw : ys.Pairwise (fun s t => nv (sg s) < nv (sg t)) := by
    have p2 := (up_pw up).and nd
    refine p2.imp_of_mem fun {s t} hs ht h => ?_
    obtain ⟨sb, sl⟩ := ok s hs
    obtain ⟨tb, tl⟩ := ok t ht
    have := (nv_le (bts_of sb) (bts_of tb) (by rw [sg_len, sg_len, sl, tl])).mp h.1
    exact Nat.lt_of_le_of_ne this fun e => h.2 (adr_uniq sb tb (by rw [sl, tl]) e)
  have le : ∀ {i j : Nat} {s t : Str}, ys[i]? = some s → ys[j]? = some t → i ≤ j → nv (sg s) ≤ nv (sg t) := fun {i j s t} hi hj h => by
    rcases Nat.lt_or_eq_of_le h with q | q
    · obtain ⟨h1, e1⟩ := List.getElem?_eq_some_iff.mp hi
      obtain ⟨h2, e2⟩ := List.getElem?_eq_some_iff.mp hj
      have := List.pairwise_iff_getElem.mp pw i j h1 h2 q
      rw [e1, e2] at this
      exact Nat.le_of_lt this
    · subst q
      rw [hi] at hj
      cases hj
      exact Nat.le_refl _
  have at_ : ∀ {i : Nat} {s : Str}, ys[i]? = some s → startC w ys i = nv (sg s) := fun h => by unfold startC; rw [h]; rfl
  have end_ : ∀ {i : Nat}, ys[i]? = none → startC w ys i = 2 ^ w := fun h => by unfold startC; rw [h]; rfl
  refine ⟨?_, end_ (List.getElem?_eq_none (Nat.le_refl _)), fun i hi => ?_, fun i hi => ?_, fun i hi j h1 h2 => ?_⟩
  · obtain ⟨j, hj⟩ := List.mem_iff_getElem?.mp ((mem (padW w "")).mpr List.mem_cons_self)
    have h0 : 0 < ys.length := Nat.lt_of_le_of_lt (Nat.zero_le _) (List.getElem?_eq_some_iff.mp hj).1
    have := le (List.getElem?_eq_getElem h0) hj (Nat.zero_le _)
    rw [at_ (List.getElem?_eq_getElem h0)]
    rw [nv_pad (Nat.zero_le _), sg_empty] at this
    have e : nv [] * 2 ^ (w - ("" : Str).length) = 0 := Nat.zero_mul _
    omega
  · have h1 : ys[i]? = some ys[i] := List.getElem?_eq_getElem hi
    rw [at_ h1]
    obtain ⟨sb, sl⟩ := ok _ (List.getElem_mem hi)
    cases h2 : ys[i + 1]? with
    | none =>
      rw [end_ h2]
      exact adr_lt sb sl
    | some t =>
      rw [at_ h2]
      obtain ⟨h3, e3⟩ := List.getElem?_eq_some_iff.mp h2
      have := List.pairwise_iff_getElem.mp pw i (i + 1) hi h3 (Nat.lt_succ_self _)
      rw [e3] at this
      exact this
  · cases h2 : ys[i]? with
    | none => rw [end_ h2]; exact Nat.le_refl _
    | some t =>
      rw [at_ h2]
      obtain ⟨sb, sl⟩ := ok t (List.mem_of_getElem? h2)
      exact Nat.le_of_lt (adr_lt sb sl)
  · have hs : ys[i]? = some ys[i] := List.getElem?_eq_getElem hi
    rw [at_ hs] at h1 ⊢
    obtain ⟨sb, sl⟩ := ok _ (List.getElem_mem hi)
    have hj : j < 2 ^ w := by
      cases h3 : ys[i + 1]? with
      | none => rw [end_ h3] at h2; exact h2
      | some t =>
        rw [at_ h3] at h2
        obtain ⟨tb, tl⟩ := ok t (List.mem_of_getElem? h3)
        exact Nat.lt_trans h2 (adr_lt tb tl)
    obtain ⟨jb, jl, jn⟩ := adr_ok hj
    obtain ⟨s, hsm, sle, big, hpre⟩ := run_atM hb jb jl
    obtain ⟨k, hk⟩ := List.mem_iff_getElem?.mp ((mem s).mpr hsm)
    obtain ⟨s2b, s2l⟩ := ok s (List.mem_of_getElem? hk)
    have b1 := big _ ((mem _).mp (List.getElem_mem hi)) (by rw [jn]; exact h1)
    have b2 := (nv_le (bts_of s2b) (bts_of jb) (by rw [sg_len, sg_len, s2l, jl])).mp sle
    have hki : ¬ i + 1 ≤ k := fun q => by
      obtain ⟨h4, e4⟩ := List.getElem?_eq_some_iff.mp hk
      have h5 : i + 1 < ys.length := by omega
      rw [at_ (List.getElem?_eq_getElem h5)] at h2
      have := le (List.getElem?_eq_getElem h5) hk q
      omega
    have b3 := le hk hs (by omega)
    have es : s = ys[i] := adr_uniq s2b sb (by rw [s2l, sl]) (by omega)
    rw [← adr_nv sb sl rfl, ← es]
    exact (hF _ _ hpre).symm
noncomputable def leafC (w : Nat) (es : List Str) (i : Nat) : Nat := (es[i]?.map fun e => nv (sg (padW w e))).getD (2 ^ w)
theorem pre_range {w : Nat} {e y : Str} (eb : isBits e = true) (yb : isBits y = true) (el : e.length ≤ w) (yl : y.length = w) : Pre e y ↔ nv (sg e) * 2 ^ (w - e.length) ≤ nv (sg y) ∧ nv (sg y) < (nv (sg e) + 1) * 2 ^ (w - e.length) := by
  have p := pre_nv (bts_of eb) (bts_of yb) (by rw [sg_len, sg_len]; omega)
  rw [sg_len, sg_len, yl] at p
  exact p
theorem leaf_tiles {w : Nat} {ps ns : List Str} (hb : ∀ x ∈ ps, isBits x = true ∧ x.length ≤ w) (up : sortedS ns = true) (nd : ns.Nodup) (mem : ∀ q, q ∈ ns ↔ InCl ps q) :
    Tile 0 ((endsOf ns).map fun e => (nv (sg e) * 2 ^ (w - e.length), (nv (sg e) + 1) * 2 ^ (w - e.length))) (2 ^ w) := by
  have ok : ∀ e ∈ endsOf ns, isBits e = true ∧ e.length ≤ w := fun e he => cl_ok hb ((mem e).mp (ends_mem he).1)
  refine tile_of (Nat.zero_le _) (fun t ht => ?_) ?_ fun x _ hx => ?_
  · obtain ⟨e, he, rfl⟩ := List.mem_map.mp ht
    obtain ⟨eb, el⟩ := ok e he
    refine ⟨?_, Nat.zero_le _, ?_⟩
    · show nv (sg e) * 2 ^ (w - e.length) < (nv (sg e) + 1) * 2 ^ (w - e.length)
      have : 0 < 2 ^ (w - e.length) := Nat.pow_pos (by decide)
      rw [Nat.add_mul, Nat.one_mul]
      omega
    · show (nv (sg e) + 1) * 2 ^ (w - e.length) ≤ 2 ^ w
      have h1 := nv_lt (bts_of eb)
      rw [sg_len] at h1
      have := Nat.mul_le_mul_right (2 ^ (w - e.length)) (show nv (sg e) + 1 ≤ 2 ^ e.length from h1)
      rw [← Nat.pow_add, show e.length + (w - e.length) = w by omega] at this
      exact this
  · rw [List.pairwise_map]
    have p2 : (endsOf ns).Pairwise (fun s t => LeS s t ∧ s ≠ t) := ((up_pw up).filter _).and (nd.filter _)
    refine p2.imp_of_mem fun {e f} he hf h => Nat.le_of_not_lt fun hlt => ?_
    obtain ⟨eb, el⟩ := ok e he
    obtain ⟨fb, fl⟩ := ok f hf
    have h1 := ends_le (w := w) mem he hf h.1
    have h2 := (nv_le (bts_of (padW_bits eb)) (bts_of (padW_bits fb)) (by rw [sg_len, sg_len, padW_len el, padW_len fl])).mp h1
    rw [nv_pad el, nv_pad fl] at h2
    have pe : Pre e (padW w f) := (pre_range eb (padW_bits fb) el (padW_len fl)).mpr (by rw [nv_pad fl]; exact ⟨h2, hlt⟩)
    have pf : Pre f (padW w f) := by
      show sg f <+: sg (padW w f)
      unfold padW
      rw [sg_app]
      exact List.prefix_append _ _
    rcases Nat.le_total e.length f.length with hl | hl
    · exact h.2 (ends_apart mem he hf (List.prefix_of_prefix_length_le pe pf (by rw [sg_len, sg_len]; exact hl)))
    · exact h.2 (ends_apart mem hf he (List.prefix_of_prefix_length_le pf pe (by rw [sg_len, sg_len]; exact hl))).symm
  · obtain ⟨yb, yl, yn⟩ := adr_ok hx
    obtain ⟨e, he, hp, el⟩ := end_at mem hb yb yl
    obtain ⟨eb, _⟩ := ok e he
    have := (pre_range eb yb el yl).mp hp
    rw [yn] at this
    exact ⟨_, List.mem_map.mpr ⟨e, he, rfl⟩, this⟩
theorem leaf_cuts {α : Type} {F : Str → α} {w : Nat} {ps ns : List Str} (hb : ∀ x ∈ ps, isBits x = true ∧ x.length ≤ w) (up : sortedS ns = true) (nd : ns.Nodup) (mem : ∀ q, q ∈ ns ↔ InCl ps q)
    (hF : ∀ s y, (∀ x ∈ ps, (Pre x s ↔ Pre x y)) → F s = F y) : Cuts F w (leafC w (endsOf ns)) (endsOf ns).length ∧
      ∀ i e, (endsOf ns)[i]? = some e → leafC w (endsOf ns) i = nv (sg (padW w e)) ∧ leafC w (endsOf ns) (i + 1) = nv (sg (padO w e)) + 1 ∧ F e = F (adr w (leafC w (endsOf ns) i)) := by
  have ok : ∀ e ∈ endsOf ns, isBits e = true ∧ e.length ≤ w := fun e he => cl_ok hb ((mem e).mp (ends_mem he).1)
  have T := leaf_tiles hb up nd mem
  have at_ : ∀ {i : Nat} {s : Str}, (endsOf ns)[i]? = some s → leafC w (endsOf ns) i = nv (sg (padW w s)) := fun h => by unfold leafC; rw [h]; rfl
  have end_ : ∀ {i : Nat}, (endsOf ns)[i]? = none → leafC w (endsOf ns) i = 2 ^ w := fun h => by unfold leafC; rw [h]; rfl
  have get : ∀ {i : Nat} {e : Str}, (endsOf ns)[i]? = some e → (i = 0 → leafC w (endsOf ns) i = 0) ∧ leafC w (endsOf ns) (i + 1) = (nv (sg e) + 1) * 2 ^ (w - e.length) := fun {i e} h => by
    have hm : ((endsOf ns).map fun e => (nv (sg e) * 2 ^ (w - e.length), (nv (sg e) + 1) * 2 ^ (w - e.length)))[i]? = some (nv (sg e) * 2 ^ (w - e.length), (nv (sg e) + 1) * 2 ^ (w - e.length)) := by rw [List.getElem?_map, h]; rfl
    obtain ⟨_, h0, h1, h2⟩ := T.get hm
    obtain ⟨eb, el⟩ := ok e (List.mem_of_getElem? h)
    refine ⟨fun q => by rw [at_ h, nv_pad el]; exact h0 q, ?_⟩
    cases h3 : (endsOf ns)[i + 1]? with
    | none =>
      rw [end_ h3]
      exact (h2 (by rw [List.getElem?_map, h3]; rfl)).symm
    | some f =>
      obtain ⟨fb, fl⟩ := ok f (List.mem_of_getElem? h3)
      rw [at_ h3, nv_pad fl]
      exact h1 (nv (sg f) * 2 ^ (w - f.length), (nv (sg f) + 1) * 2 ^ (w - f.length)) (by rw [List.getElem?_map, h3]; rfl)
  have Fe : ∀ {i : Nat} {e : Str}, (endsOf ns)[i]? = some e → ∀ j, leafC w (endsOf ns) i ≤ j → j < leafC w (endsOf ns) (i + 1) → F e = F (adr w j) := fun {i e} h j h1 h2 => by
    have he := List.mem_of_getElem? h
    obtain ⟨eb, el⟩ := ok e he
    obtain ⟨_, g2⟩ := get h
    rw [at_ h, nv_pad el] at h1
    rw [g2] at h2
    have hj : j < 2 ^ w := by
      refine Nat.lt_of_lt_of_le h2 ?_
      have h1 := nv_lt (bts_of eb)
      rw [sg_len] at h1
      have := Nat.mul_le_mul_right (2 ^ (w - e.length)) (show nv (sg e) + 1 ≤ 2 ^ e.length from h1)
      rw [← Nat.pow_add, show e.length + (w - e.length) = w by omega] at this
      exact this
    obtain ⟨yb, yl, yn⟩ := adr_ok hj
    have hp : Pre e (adr w j) := (pre_range eb yb el yl).mpr (by rw [yn]; exact ⟨h1, h2⟩)
    exact hF _ _ fun x hx => (leaf_at mem he hx hp).symm
  have up_ : ∀ i, i < (endsOf ns).length → leafC w (endsOf ns) i < leafC w (endsOf ns) (i + 1) := fun i hi => by
    have h : (endsOf ns)[i]? = some (endsOf ns)[i] := List.getElem?_eq_getElem hi
    obtain ⟨eb, el⟩ := ok _ (List.getElem_mem hi)
    rw [(get h).2, at_ h, nv_pad el]
    have : 0 < 2 ^ (w - (endsOf ns)[i].length) := Nat.pow_pos (by decide)
    rw [Nat.add_mul, Nat.one_mul]
    omega
  refine ⟨⟨?_, end_ (List.getElem?_eq_none (Nat.le_refl _)), up_, fun i hi => ?_, fun i hi j h1 h2 => ?_⟩, fun i e h => ?_⟩
  · cases h : (endsOf ns)[0]? with
    | none =>
      have h2 : endsOf ns = [] := by
        cases hn : endsOf ns with
        | nil => rfl
        | cons a l => rw [hn] at h; cases h
      rw [h2] at T
      generalize hN : 2 ^ w = N at T
      cases T
      rw [end_ h, hN]
    | some e => exact (get h).1 rfl
  · cases h2 : (endsOf ns)[i]? with
    | none => rw [end_ h2]; exact Nat.le_refl _
    | some t =>
      rw [at_ h2]
      obtain ⟨sb, sl⟩ := ok t (List.mem_of_getElem? h2)
      exact Nat.le_of_lt (adr_lt (padW_bits sb) (padW_len sl))
  · have h : (endsOf ns)[i]? = some (endsOf ns)[i] := List.getElem?_eq_getElem hi
    rw [← Fe h j h1 h2, Fe h _ (Nat.le_refl _) (up_ i hi)]
  · obtain ⟨eb, el⟩ := ok e (List.mem_of_getElem? h)
    have hi := (List.getElem?_eq_some_iff.mp h).1
    refine ⟨at_ h, by rw [(get h).2, (padO_ok eb el).2.2], Fe h _ (Nat.le_refl _) (up_ i hi)⟩
theorem ld_congr {xs : List Str} {ks : List (Key × V)} {s y : Str} (h : ∀ r, IsLong xs s r ↔ IsLong xs y r) : ld xs ks s = ld xs ks y := by
  by_cases hx : ∃ r, IsLong xs y r
  · obtain ⟨r, hr⟩ := hx
    rw [ld_is hr, ld_is ((h r).mpr hr)]
  · unfold ld
    rw [dif_neg hx, dif_neg fun ⟨r, hr⟩ => hx ⟨r, (h r).mp hr⟩]
/-- one turn of a loop over cuts -/
theorem Cuts.step {α : Type} {F : Str → α} {w n i : Nat} {c : Nat → Nat} (C : Cuts F w c n) (hi : i < n) {l : List (Nat × Nat × α)} (h : Rn (fun j => F (adr w j)) (c i) l) :
    (∀ l' t, l = l' ++ [t] → t.2.2 = F (adr w (c i)) → Rn (fun j => F (adr w j)) (c (i + 1)) (l' ++ [(t.1, c (i + 1), F (adr w (c i)))])) ∧ ((∀ t, l.getLast? = some t → t.2.2 ≠ F (adr w (c i))) → Rn (fun j => F (adr w j)) (c (i + 1)) (l ++ [(c i, c (i + 1), F (adr w (c i)))])) :=
  h.step (C.up i hi) fun j h1 h2 => C.same i hi j h1 h2
def spStarts (K : PySem.W.Frag) : Sp := fun vs H Q _ => ∃ (w : Nat) (a : Addr) (xs : List Str), vs = [.int w, .ref a] ∧ SqL K H a (xs.map V.str) ∧ w ≤ 32 ∧ (∀ x ∈ xs, isBits x = true ∧ x.length ≤ w) ∧ xs.length ≤ 400 ∧
  ∀ (l : Addr) (ys : List Str) (H' : Hp), Same H H' → H l = none → H' l = some (.lst (ys.map V.str)) → ys.Nodup → sortedS ys = true → (∀ y, y ∈ ys ↔ y ∈ startsL w xs) → Q (.ref l) H'

theorem putK_keys {kvs : List (Key × V)} {k0 : Key} {v : V} (hm : k0 ∈ kvs.map (·.1)) : (putK kvs k0 v).map (·.1) = kvs.map (·.1) := by
  unfold putK
  rw [if_pos (by obtain ⟨p, hp, e⟩ := List.mem_map.mp hm; exact List.any_eq_true.mpr ⟨p, hp, decide_eq_true e⟩), List.map_map]
  refine List.map_congr_left fun p _ => ?_
  show (if p.1 = k0 then (p.1, v) else p).1 = p.1
  split <;> rfl
theorem padW_empty (w : Nat) : padW w "" = Txt.mul "0" (w : Int) := by
  unfold padW
  apply str_ext
  show sg _ = sg _
  rw [sg_app, sg_empty, List.nil_append]
  rfl
/-- the starts that are found so far: keys of the dict at D -/
structure StAt (w : Nat) (H : Hp) (D : Addr) (us : List Str) (n : Nat) (ks : List Str) (kvs : List (Key × V)) : Prop where
  at_ : H D = some (.dK kvs)
  keys : kvs.map (·.1) = ks.map Sum.inr
  nd : ks.Nodup
  mem : ∀ y, y ∈ ks ↔ y ∈ us
  len : ks.length ≤ n
theorem StAt.put {w : Nat} {H : Hp} {D : Addr} {us ks : List Str} {n : Nat} {kvs : List (Key × V)} (h : StAt w H D us n ks kvs) (y : Str) (v : V) (o : Hp) (ho : o D = some (.dK (putK kvs (.inr y) v))) : ∃ ks2, StAt w o D (us ++ [y]) (n + 1) ks2 (putK kvs (.inr y) v) := by
  by_cases hy : y ∈ ks
  · have hk : (Sum.inr y : Key) ∈ kvs.map (·.1) := by
      rw [h.keys]
      exact List.mem_map.mpr ⟨y, hy, rfl⟩
    refine ⟨ks, ho, ?_, h.nd, fun z => ?_, Nat.le_succ_of_le h.len⟩
    · rw [← h.keys]
      exact putK_keys hk
    · rw [List.mem_append, List.mem_singleton, h.mem]
      exact ⟨.inl, fun q => q.elim id fun e => e ▸ (h.mem y).mp hy⟩
  · have hk : (Sum.inr y : Key) ∉ kvs.map (·.1) := by
      rw [h.keys]
      intro hm
      obtain ⟨z, hz, e⟩ := List.mem_map.mp hm
      exact hy (Sum.inr.inj e ▸ hz)
    refine ⟨ks ++ [y], ho, ?_, ?_, fun z => ?_, ?_⟩
    · rw [putK_end hk, List.map_append, List.map_append, h.keys]
      rfl
    · exact List.nodup_append.mpr ⟨h.nd, List.nodup_cons.mpr ⟨List.not_mem_nil, List.nodup_nil⟩, fun a ha b hb e => hy (by rw [← List.mem_singleton.mp hb, ← e]; exact ha)⟩
    · rw [List.mem_append, List.mem_append, h.mem]
    · rw [List.length_append]
      exact Nat.succ_le_succ h.len
abbrev sRs : Stmt := top 10
section
variable {P : Program} {w : World} {K : PySem.W.Frag} {mg : Str → Option Value} {base : Heap}
abbrev NRs : List Str := ["width", "prefixes", "found", "prefix", "stem"]
theorem scRs : FnScope NRs ["width", "prefixes"] (defScope sRs) := ⟨rfl, rfl, rfl, by decide +kernel, rfl, by decide +kernel, by decide +kernel⟩
set_option maxHeartbeats 8000000 in
theorem ok_Rs {f : Addr} {fd : FuncData} {k : Nat} (F : Fun K "run_starts" "run_starts" sRs f fd)
    (m_sorted : mg "sorted" = none)
    : FnOk P w K mg base CX0 (k + 1) f fd ["width", "prefixes"] (spStarts K) := by
  refine F.ok scRs (fun vs H Q E h => ?_) (fun cdv A outer s H vs Q E hr h => ?_)
  · obtain ⟨w, a, xs, rfl, _⟩ := h
    rfl
  · obtain ⟨w, a, xs, rfl, hl, w32, hb, few, q⟩ := h
    have nd := scRs.nd
    have hu := hr.units
    have hu1 := hu_of hr
    have hr1 := hr
    refine ⟨_, pss_cons (ps_set (i := 2) nd rfl (.inl rfl) (pe_disp (pps_cons (pe_op op_mulS pe_str (pv 0)) pe_bl pps_nil) (by rfl) (by rfl) (fun z => by cases z) (by decide)))
      (pss_cons (ps_for PassesOwn.never rfl (pi_list (pv 1)) (pg_name (i := 3) nd rfl (.inl rfl))
        (pss_cons (ps_dput hu1 (pv 2) (pe_bm PySem.F.plainAttrs_str PySem.F.slot_str_ljust PySem.F.type_str_ljust mt_ljustF (pv 3) (pa_cons (pv 0) (pa_cons pe_str pa_nil))) pe_bl rfl)
        (pss_cons (ps_set (i := 4) nd rfl (.inl rfl) (pe_bm PySem.F.plainAttrs_str PySem.F.slot_str_rstrip PySem.F.type_str_rstrip mt_rstripChars (pv 3) (pa_cons pe_str pa_nil)))
        (pss_one (ps_if (pt_cmpR op_ne (pv 4) pe_str (nomark _))
          (pss_one (ps_dput hu1 (pv 2) (pe_bm PySem.F.plainAttrs_str PySem.F.slot_str_ljust PySem.F.type_str_ljust mt_ljustF (pe_op op_add_str (pe_slice sl_str (pv 4) po_none (po_some (pe_un un_neg pe_int))) pe_str) (pa_cons (pv 0) (pa_cons pe_str pa_nil))) pe_bl rfl)) pss_nil)))))
      (pss_one (ps_ret (pe_callB (cr_sortDk rfl hu) (by rfl) m_sorted (by decide +kernel) (pa_cons (pv 2) pa_nil))))), ?_⟩
    refine fun D nD => ⟨.int w, rfl, "0", (w : Int), rfl, rfl, mul_ok1 (by decide +kernel) (by omega), upd_same, [(.inr (Txt.mul "0" (w : Int)), .bl true)], rfl, (by show 1 ≤ 15; decide), ?_⟩
    rw [upd_upd]
    have s1 := same_upd (o := .dK (mergeK [] [((.inr (Txt.mul "0" (w : Int)) : Key), V.bl true)])) nD
    have st1 : StAt w (upd H D (.dK (mergeK [] [((.inr (Txt.mul "0" (w : Int)) : Key), V.bl true)]))) D [padW w ""] 1 [padW w ""] [(.inr (padW w ""), .bl true)] := by
      rw [padW_empty]
      exact ⟨upd_same, rfl, List.nodup_cons.mpr ⟨List.not_mem_nil, List.nodup_nil⟩, fun _ => Iff.rfl, Nat.le_refl _⟩
    revert s1 st1
    generalize upd H D (.dK (mergeK [] [((.inr (Txt.mul "0" (w : Int)) : Key), V.bl true)])) = H1
    intro s1 st1
    refine ⟨.ref a, rfl, a, rfl, ⟨_, s1.seq hl⟩, for_list (K := K) (a := a) (xs := xs.map V.str) (fun i σ H' => (∃ x3 x4, σ = [some (.int w), some (.ref a), some (.ref D), x3, x4]) ∧ ∃ ks kvs, StAt w H' D (padW w "" :: (xs.take i).flatMap (startsOf w)) (1 + 2 * i) ks kvs ∧ Same H H') ⟨⟨_, _, rfl⟩, _, _, st1, s1⟩ (fun _ _ _ _ h => by obtain ⟨_, _, _, _, s⟩ := h; exact s.seq hl) ?_ ?_⟩
    · rintro i v σ H2 hv ⟨⟨x3, x4, rfl⟩, ks, kvs, st, s2⟩
      rw [List.getElem?_map] at hv
      obtain ⟨y, hyj, rfl⟩ := Option.map_eq_some_iff.mp hv
      obtain ⟨yb, yl⟩ := hb y (List.mem_of_getElem? hyj)
      have il : i < xs.length := (List.getElem?_eq_some_iff.mp hyj).1
      have kl : kvs.length = ks.length := by have := congrArg List.length st.keys; rwa [List.length_map, List.length_map] at this
      have kl2 := st.len
      have et : (xs.take (i + 1)).flatMap (startsOf w) = (xs.take i).flatMap (startsOf w) ++ startsOf w y := by
        rw [List.take_add_one, hyj, List.flatMap_append]
        show _ ++ List.flatMap (startsOf w) [y] = _
        rw [List.flatMap_cons, List.flatMap_nil, List.append_nil]
      refine ⟨.ref D, rfl, .str y, rfl, rfl, .int w, rfl, y, "0", w, rfl, rfl, pad_ok (by omega), by decide +kernel, D, _, rfl, DPut.k (k := .inr (Txt.ljustF y w (("0" : Str).cps.getD 0 0))) st.at_ (big_lt (by omega)), ?_⟩
      rw [show Txt.ljustF y w (("0" : Str).cps.getD 0 0) = padW w y from ljust_zero yl]
      obtain ⟨ks2, st2⟩ := st.put (padW w y) (.bl true) _ (upd_same (H := H2) (a := D))
      have kl4 := st2.len
      have kl3 : (putK kvs (.inr (padW w y)) (.bl true)).length = ks2.length := by have := congrArg List.length st2.keys; rwa [List.length_map, List.length_map] at this
      have sD : ∀ {G : Hp} {o : HO}, Same H G → Same H (upd G D o) := fun s b u e => by rw [upd_ne (ne_of_none e nD)]; exact s _ _ e
      have s3 : Same H (upd H2 D (.dK (putK kvs (.inr (padW w y)) (.bl true)))) := sD s2
      revert st2 s3
      generalize upd H2 D (.dK (putK kvs (.inr (padW w y)) (.bl true))) = H3
      intro st2 s3
      refine ⟨.str y, rfl, rfl, y, "1", rfl, rfl, big_of (by omega), ?_⟩
      have sp := rstrip_pre y "1"
      have sl := Nat.le_trans (pre_len sp) yl
      refine ⟨.str (Txt.rstripChars y "1"), rfl, rfl, _, rfl, ?_⟩
      by_cases es : Txt.rstripChars y "1" = ""
      · rw [decide_eq_true (congrArg V.str es)]
        refine iteF ⟨⟨_, _, rfl⟩, _, _, ⟨st2.at_, st2.keys, st2.nd, fun z => ?_, Nat.le_trans st2.len (by omega)⟩, s3⟩
        rw [st2.mem, et]
        unfold startsOf
        rw [if_pos es, List.cons_append]
      · rw [decide_eq_false (fun q => es (V.str.inj q))]
        have c1 := cut_pre (Txt.rstripChars y "1") (some (-1))
        have c2 := pre_len c1
        refine iteT ⟨.ref D, rfl, .str (Txt.rstripChars y "1"), rfl, 1, rfl, _, rfl, _, rfl, big_of (by omega), ?_⟩
        have c3 := cut_last es
        have e1 : (behind y).length ≤ w := by
          unfold behind
          rw [strLen_append, show ("1" : Str).length = 1 by decide +kernel]
          omega
        refine ⟨_, _, rfl, rfl, big_of (by rw [show ("1" : Str).length = 1 by decide +kernel]; omega), rfl, .int w, rfl, behind y, "0", w, rfl, rfl, pad_ok (by omega), by decide +kernel, D, _, rfl, DPut.k (k := .inr (Txt.ljustF (behind y) w (("0" : Str).cps.getD 0 0))) st2.at_ (big_lt (by omega)), ?_⟩
        rw [show Txt.ljustF (behind y) w (("0" : Str).cps.getD 0 0) = padW w (behind y) from ljust_zero e1]
        obtain ⟨ks3, st3⟩ := st2.put (padW w (behind y)) (.bl true) _ (upd_same (H := H3) (a := D))
        refine ⟨⟨_, _, rfl⟩, _, _, ⟨st3.at_, st3.keys, st3.nd, fun z => ?_, Nat.le_trans st3.len (by omega)⟩, sD s3⟩
        rw [st3.mem, et]
        show z ∈ (padW w "" :: (xs.take i).flatMap (startsOf w) ++ [padW w y]) ++ [padW w (behind y)] ↔ z ∈ padW w "" :: ((xs.take i).flatMap (startsOf w) ++ startsOf w y)
        rw [show startsOf w y = [padW w y] ++ [padW w (behind y)] by unfold startsOf; rw [if_neg es]; rfl, List.append_assoc, List.cons_append]
    · rintro σ H2 ⟨⟨x3, x4, rfl⟩, ks, kvs, st, s2⟩
      rw [List.length_map, List.take_length] at st
      have kl2 := st.len
      refine ⟨.ref D, rfl, D, kvs, ks, rfl, .inl st.at_, st.keys, by omega, fun ys p perm up np => ?_⟩
      refine q p ys _ (s2.trans (same_upd np)) ?_ upd_same (perm.nodup_iff.mpr st.nd) up fun y => perm.mem_iff.trans (st.mem y)
      exact same_free s2 np
end

def rLenSK (P : Program) (w : World) : List V → Hp → VK → Prop := fun xs H Q => ∃ (a : Addr) (S : Key → Bool) (n : Nat), xs = [.ref a] ∧ H a = some (SetK P w a S n) ∧ Q (.int (n : Nat)) H
theorem cr_lenSK {X : Cx} : CallR X (.builtin "len") (rLenSK X.prog X.w) := by
  intro pins s σ H xs us Q I r h
  obtain ⟨a, S, n, rfl, ha, q⟩ := h
  obtain ⟨o, es, ep, t, ho, hx, hd, _, _, few, fit, en⟩ := setK_get I ha
  rw [Vals.ref1 r]
  have few : es.size < 4096 := few
  exact call_len_set ho hx hd fit (by omega) ⟨.int n, H, I.tok _, ⟨_, by rw [en]⟩, q⟩
theorem gV_filt {w : Nat} {xs : List Str} {kvs : List (Key × V)} (ok : RowsOk w isTgtV xs kvs) (y u : Str) : gV (kvs.filter fun kv => decide (kv.1 ≠ .inr y)) u = if u = y then .non else gV kvs u := by
  have okf := ok.filt y
  by_cases e : u = y
  · rw [if_pos e]
    refine gV_no okf fun h => ?_
    have := (List.mem_filter.mp h).2
    rw [decide_eq_true_iff] at this
    exact this e
  · rw [if_neg e]
    by_cases hu : u ∈ xs
    · have h2 : u ∈ xs.filter fun z => decide (z ≠ y) := List.mem_filter.mpr ⟨hu, decide_eq_true e⟩
      obtain ⟨kv, hkv, ek⟩ := List.mem_map.mp ((inr_mem okf.keys u).mpr h2)
      have a1 := valV_some okf.acc.nd (k := kv.1) (v := kv.2) hkv
      have a2 := valV_some ok.acc.nd (k := kv.1) (v := kv.2) (List.mem_filter.mp hkv).1
      unfold gV
      rw [← ek, a1, a2]
    · rw [gV_no ok hu, gV_no okf fun h => hu (List.mem_filter.mp h).1]
theorem long_mem {xs ys : List Str} (m : ∀ x, x ∈ ys ↔ x ∈ xs) {y : Str} {r : Option Str} : IsLong ys y r ↔ IsLong xs y r := by
  cases r with
  | none => exact ⟨fun h x hx q => h x ((m x).mpr hx) q, fun h x hx q => h x ((m x).mp hx) q⟩
  | some z => exact ⟨fun ⟨a, b, c⟩ => ⟨(m z).mp a, b, fun u hu => c u ((m u).mpr hu)⟩, fun ⟨a, b, c⟩ => ⟨(m z).mpr a, b, fun u hu => c u ((m u).mp hu)⟩⟩
/-- what rows say decides where they lead -/
theorem ld_gV {w w2 : Nat} {xs zs : List Str} {ks ls : List (Key × V)} (h1 : RowsOk w isTgtV xs ks) (h2 : RowsOk w2 isTgtV zs ls) (h : ∀ u, gV ks u = gV ls u) (y : Str) : ld xs ks y = ld zs ls y := by
  have m : ∀ u, u ∈ zs ↔ u ∈ xs := fun u => by rw [gV_iff h1, gV_iff h2, h]
  by_cases hx : ∃ r, IsLong xs y r
  · obtain ⟨r, hr⟩ := hx
    rw [ld_is hr, ld_is ((long_mem m).mpr hr)]
    cases r with
    | none => rfl
    | some p => exact h p
  · unfold ld
    rw [dif_neg hx, dif_neg fun ⟨r, hr⟩ => hx ⟨r, (long_mem m).mp hr⟩]
theorem ld_tv {w : Nat} {xs : List Str} {ks : List (Key × V)} (ok : RowsOk w isTgtV xs ks) (y : Str) : tv (ld xs ks y) := by
  by_cases hx : ∃ r, IsLong xs y r
  · obtain ⟨r, hr⟩ := hx
    rw [ld_is hr]
    exact lead_tv ok hr
  · unfold ld
    rw [dif_neg hx]
    exact .inl rfl
/-- a list of all changes, in some order -/
structure PermSeq (ks ls : List (Key × V)) (cs : List (Str × V)) : Prop where
  nd : (cs.map (·.1)).Nodup
  mem : ∀ c, c ∈ cs ↔ gV ks c.1 ≠ gV ls c.1 ∧ c.2 = gV ls c.1
/-- what the rows say after some of the changes -/
def gA (ks ls : List (Key × V)) (cs : List (Str × V)) (j : Nat) (u : Str) : V := if u ∈ (cs.take j).map (·.1) then gV ls u else gV ks u
def SafeAt (w : Nat) (xs : List Str) (ks : List (Key × V)) (zs : List Str) (ls : List (Key × V)) (cs : List (Str × V)) (i : Nat) (c : Str × V) : Prop :=
  ∀ (xs' : List Str) (kvs' : List (Key × V)), RowsOk w isTgtV xs' kvs' → (∀ u, gV kvs' u = gA ks ls cs (i + 1) u) → ∀ y, isBits y = true → y.length = w → Pre c.1 y → ld xs' kvs' y = ld xs ks y ∨ ld xs' kvs' y = ld zs ls y
def SafeAll (w : Nat) (xs : List Str) (ks : List (Key × V)) (zs : List Str) (ls : List (Key × V)) (cs : List (Str × V)) : Prop :=
  ∀ i c, cs[i]? = some c → SafeAt w xs ks zs ls cs i c
theorem safe_congr {w w2 : Nat} {xs xs' zs zs' : List Str} {ks ks' ls ls' : List (Key × V)} {cs : List (Str × V)} (o1 : RowsOk w isTgtV xs ks) (o2 : RowsOk w isTgtV xs' ks') (o3 : RowsOk w2 isTgtV zs ls) (o4 : RowsOk w2 isTgtV zs' ls') (h1 : ∀ u, gV ks' u = gV ks u) (h2 : ∀ u, gV ls' u = gV ls u) : SafeAll w xs' ks' zs' ls' cs ↔ SafeAll w xs ks zs ls cs := by
  have e1 : ∀ y, ld xs' ks' y = ld xs ks y := ld_gV o2 o1 h1
  have e2 : ∀ y, ld zs' ls' y = ld zs ls y := ld_gV o4 o3 h2
  have e3 : ∀ j u, gA ks' ls' cs j u = gA ks ls cs j u := fun j u => by unfold gA; rw [h1, h2]
  unfold SafeAll SafeAt
  constructor
  · intro h i c hc xs2 kvs2 ok g y yb yl hp
    have := h i c hc xs2 kvs2 ok (fun u => (g u).trans (e3 _ _).symm) y yb yl hp
    rwa [e1, e2] at this
  · intro h i c hc xs2 kvs2 ok g y yb yl hp
    have := h i c hc xs2 kvs2 ok (fun u => (g u).trans (e3 _ _)) y yb yl hp
    rwa [← e1, ← e2] at this
theorem gA_zero (ks ls : List (Key × V)) (cs : List (Str × V)) (u : Str) : gA ks ls cs 0 u = gV ks u := by
  unfold gA
  rw [List.take_zero, List.map_nil, if_neg List.not_mem_nil]
theorem gA_succ {ks ls : List (Key × V)} {cs : List (Str × V)} (ps : PermSeq ks ls cs) {i : Nat} {c : Str × V} (h : cs[i]? = some c) (u : Str) : gA ks ls cs (i + 1) u = if u = c.1 then c.2 else gA ks ls cs i u := by
  have hm := (ps.mem c).mp (List.mem_of_getElem? h)
  unfold gA
  rw [List.take_add_one, h, List.map_append]
  show (if u ∈ _ ++ [c.1] then _ else _) = _
  by_cases e : u = c.1
  · rw [if_pos e, if_pos (List.mem_append_right _ (by rw [e]; exact List.mem_cons_self)), hm.2, e]
  · rw [if_neg e]
    by_cases h2 : u ∈ (cs.take i).map (·.1)
    · rw [if_pos h2, if_pos (List.mem_append_left _ h2)]
    · rw [if_neg h2, if_neg fun q => (List.mem_append.mp q).elim h2 fun q => e (List.mem_singleton.mp q)]
/-- a prefix not yet changed says what it said -/
theorem gA_at {ks ls : List (Key × V)} {cs : List (Str × V)} (ps : PermSeq ks ls cs) {i : Nat} {c : Str × V} (h : cs[i]? = some c) : gA ks ls cs i c.1 = gV ks c.1 := by
  unfold gA
  rw [if_neg fun q => ?_]
  obtain ⟨d, hd, e⟩ := List.mem_map.mp q
  obtain ⟨j, hj, ej⟩ := List.mem_take_iff_getElem.mp hd
  obtain ⟨hi, ei⟩ := List.getElem?_eq_some_iff.mp h
  have hjl : j < cs.length := by omega
  have nd := ps.nd
  have a1 : (cs.map (·.1))[j]'(by rw [List.length_map]; exact hjl) = (cs.map (·.1))[i]'(by rw [List.length_map]; exact hi) := by
    rw [List.getElem_map, List.getElem_map, ei, ej, e]
  have := (List.getElem_inj nd).mp a1
  omega
theorem IsSeq.perm {ks ls : List (Key × V)} {cs : List (Str × V)} {A B : List Str} (h : IsSeq ks ls cs A B) : PermSeq ks ls cs := ⟨h.nd, h.mem⟩
theorem PermSeq.of_perm {ks ls : List (Key × V)} {cs ds : List (Str × V)} (h : PermSeq ks ls cs) (p : ds.Perm cs) : PermSeq ks ls ds := ⟨(p.map _).nodup_iff.mpr h.nd, fun c => p.mem_iff.trans (h.mem c)⟩
theorem PermSeq.congr {ks ls ks' ls' : List (Key × V)} {cs : List (Str × V)} (h : PermSeq ks ls cs) (h1 : ∀ u, gV ks' u = gV ks u) (h2 : ∀ u, gV ls' u = gV ls u) : PermSeq ks' ls' cs := ⟨h.nd, fun c => by rw [h1, h2]; exact h.mem c⟩
def spAC (C : Addr) : Sp := fun vs H Q _ => ∃ (x e : Addr) (wd : Nat) (xs : List Str) (kvs : List (Key × V)) (y : Str) (v : V), vs = [.ref x, .str y, v] ∧ MapAt C H x e wd kvs ∧ RowsOk wd isTgtV xs kvs ∧ 1 ≤ wd ∧ wd ≤ 32 ∧ isBits y = true ∧ y.length ≤ wd ∧ (v = .non ∨ isTgtV v) ∧ (v = .non → y ∈ xs) ∧ xs.length < 60 ∧
  ∀ (x' e' : Addr) (xs' : List Str) (kvs' : List (Key × V)) (H' : Hp), Same H H' → MapAt C H' x' e' wd kvs' → RowsOk wd isTgtV xs' kvs' → (∀ u, gV kvs' u = if u = y then v else gV kvs u) → (∀ u ∈ xs', u = y ∨ u ∈ xs) → Q (.ref x') H'
theorem Sorted.rows {w : Nat} {vok : V → Prop} {xs ys : List Str} {kvs kvs' : List (Key × V)} (h : Sorted xs kvs kvs' ys) (ok : RowsOk w vok xs kvs) : RowsOk w vok ys kvs' := by
  have ynd : ys.Nodup := h.perm.nodup_iff.mpr ok.pfx.nd
  refine ⟨h.keys, ⟨ynd, fun x hx => ok.pfx.bits x (h.perm.mem_iff.mp hx), fun x hx => ok.pfx.len x (h.perm.mem_iff.mp hx)⟩, fun kv hk => ?_⟩
  have hm : kv.1 ∈ ys.map Sum.inr := by
    rw [← h.keys]
    exact List.mem_map.mpr ⟨kv, hk, rfl⟩
  obtain ⟨y, hy, e⟩ := List.mem_map.mp hm
  have hx := h.perm.mem_iff.mp hy
  have kn : (kvs'.map (·.1)).Nodup := by
    rw [h.keys]
    exact ynd.map Sum.inr (fun a b h e => h (Sum.inr.inj e))
  have v1 := valV_some kn (k := kv.1) (v := kv.2) hk
  rw [← e, h.val y hx] at v1
  unfold valV at v1
  obtain ⟨p, hp, ep⟩ := Option.map_eq_some_iff.mp v1
  rw [← ep]
  exact ok.val p (List.mem_of_find?_eq_some hp)
abbrev sAc : Stmt := top 14
section
variable {P : Program} {w : World} {K : PySem.W.Frag} {mg : Str → Option Value} {base : Heap}
abbrev NAc : List Str := ["table", "prefix", "target"]
theorem scAc : FnScope NAc ["table", "prefix", "target"] (defScope sAc) := ⟨rfl, rfl, rfl, by decide +kernel, rfl, by decide +kernel, by decide +kernel⟩
set_option maxHeartbeats 8000000 in
theorem ok_Ac {f fWr fVw CC : Addr} {fd fdWr fdVw : FuncData} {k : Nat} (F : Fun K "after_change" "after_change" sAc f fd)
    (clC : Cls K CC)
    (GWr : FnOk P w K mg base CX0 k fWr fdWr ["self", "prefix"] (spWithout CC isTgtV))
    (mtWr : Meth K CC "without" fWr) (bWr : Binds K fdWr ["self", "prefix"] [])
    (GVw : FnOk P w K mg base CX0 k fVw fdVw ["self", "prefix", "value"] (spWith CC isTgtV))
    (mtVw : Meth K CC "with_row" fVw) (bVw : Binds K fdVw ["self", "prefix", "value"] [])
    : FnOk P w K mg base CX0 (k + 1) f fd ["table", "prefix", "target"] (spAC CC) := by
  refine F.ok scAc (fun vs H Q E h => ?_) (fun cdv A outer s H vs Q E hr h => ?_)
  · obtain ⟨x, e, wd, xs, kvs, y, v, rfl, _⟩ := h
    rfl
  · obtain ⟨x, e, wd, xs, kvs, y, v, rfl, hx, ok, w1, w32, yb, yl, hv, hin, few, q⟩ := h
    have nd := scAc.nd
    have hu := hr.units
    have hu1 := hu_of hr
    have hr1 := hr
    refine ⟨_, pss_cons (ps_if (pt_cmpR op_isN (pv 2) pe_non (nomark _))
        (pss_one (ps_ret (pe_meth (pv 0) clC mtWr GWr hr1 bWr .nil pass0 (pa_cons (pv 1) pa_nil)))) pss_nil)
      (pss_one (ps_ret (pe_meth (pv 0) clC mtVw GVw hr1 bVw .nil pass0 (pa_cons (pv 1) (pa_cons (pv 2) pa_nil))))), ?_⟩
    obtain ⟨⟨dx, hx'⟩, _⟩ := id hx
    refine ⟨v, rfl, rfl, _, rfl, ?_⟩
    by_cases hn : v = .non
    · subst hn
      rw [decide_eq_true rfl]
      refine iteT ⟨.ref x, rfl, x, dx, _, rfl, hx', flds_no _ _ (by decide +kernel) (by decide +kernel), .str y, rfl, x, e, wd, xs, kvs, y, rfl, hx, ok, w1, w32, hin rfl, few, fun okf x2 e2 ys2 k2 H2 nx s hs hm => ?_⟩
      refine q x2 e2 ys2 k2 H2 s hm (hs.rows okf) (fun u => ?_) fun u hu => ?_
      · rw [gV_sorted okf (hs.rows okf) hs, gV_filt ok]
      · exact .inr (List.mem_filter.mp (hs.perm.mem_iff.mp hu)).1
    · have hv := hv.resolve_left hn
      rw [decide_eq_false hn]
      refine iteF ⟨.ref x, rfl, x, dx, _, rfl, hx', flds_no _ _ (by decide +kernel) (by decide +kernel), .str y, rfl, v, rfl, x, e, wd, xs, kvs, y, v, rfl, hx, ok, w1, w32, yb, yl, hv, few, fun xs2 ok2 mem2 len2 x2 e2 ys2 k2 H2 nx s hs hm => ?_⟩
      refine q x2 e2 ys2 k2 H2 s hm (hs.rows ok2) (fun u => ?_) fun u hu => ?_
      · rw [gV_sorted ok2 (hs.rows ok2) hs, gV_put]
      · exact (mem2 u).mp (hs.perm.mem_iff.mp hu)
end

def spIS (C : Addr) : Sp := fun vs H Q _ => ∃ (x y e e2 l : Addr) (wd w2 : Nat) (xs zs : List Str) (ks ls : List (Key × V)) (ts : List Addr) (cs : List (Str × V)), vs = [.ref x, .ref y, .ref l] ∧ MapAt C H x e wd ks ∧ MapAt C H y e2 w2 ls ∧ RowsOk wd isTgtV xs ks ∧ RowsOk w2 isTgtV zs ls ∧ xs.length ≤ 90 ∧ zs.length ≤ 90 ∧ H l = some (.lst (ts.map V.ref)) ∧ Paired (fun t c => H t = some (.tup [.str c.1, c.2])) ts cs ∧ PermSeq ks ls cs ∧ wd ≤ 32 ∧ w2 ≤ 32 ∧
  ∀ H', Same H H' → Q (.bl true) H'
/-! ### what two rules serve -/
theorem pe_orE {X : Cx} {e : Expr} {t1 t2 : TE} (h1 : PE X e t1) (h2 : PE X e t2) : PE X e (fun σ H Q => t1 σ H Q ∨ t2 σ H Q) :=
  ⟨fun pins s σ H Q I h => h.elim (fun q => h1.run pins s σ H Q I q) fun q => h2.run pins s σ H Q I q⟩
theorem opr_or {X : Cx} {f : Value → Value → Sem Value} {r1 r2 : R2} (h1 : OpR X f r1) (h2 : OpR X f r2) : OpR X f (fun x y H Q => r1 x y H Q ∨ r2 x y H Q) :=
  fun pins s σ H x y v u Q I rx ry h => h.elim (fun q => h1 pins s σ H x y v u Q I rx ry q) fun q => h2 pins s σ H x y v u Q I rx ry q
/-! ### a dict is none of the texts -/
section
open PySem.Builtin PySem.SeqAt
open AutoSeq1 (wpAny_loadPart')
open MeetsSeq MeetsSeq2 MeetsSeq3
theorem dict_ne_declines_str (l : Addr) (o : Obj) (b : Str) (u : Tok) :
    Meets (Builtin.«dict.__ne__» ⟨[.ref l, .str b u], []⟩) (fun _ R s => s.heap.get? l = some o ∧ o.cls = .type "dict" ∧ R (.ok (.ret .notImplemented)) s) :=
  .of_wp fun prog w A R s h => by obtain ⟨hp, g, d, tk, os⟩ := s; obtain ⟨hl, hc, h⟩ := h; have f1 := F.sub_str_dict; wp_walk using wpAny_loadPart' hl; exact ⟨_, rfl, h⟩
theorem dict_ne_declines_none (l : Addr) (o : Obj) :
    Meets (Builtin.«dict.__ne__» ⟨[.ref l, .none], []⟩) (fun _ R s => s.heap.get? l = some o ∧ o.cls = .type "dict" ∧ R (.ok (.ret .notImplemented)) s) :=
  .of_wp fun prog w A R s h => by obtain ⟨hp, g, d, tk, os⟩ := s; obtain ⟨hl, hc, h⟩ := h; have f1 := F.sub_NoneType_dict; wp_walk using wpAny_loadPart' hl; exact ⟨_, rfl, h⟩
theorem str_ne_declines_dict (b : Str) (u : Tok) (l : Addr) (c : Value) (es : Array DictEntry) (ep : Nat) (dd : Option Addr) (sl : Array (Option Value)) :
    Meets (Builtin.«str.__ne__» ⟨[.str b u, .ref l], []⟩) (fun _ R s => s.heap.get? l = some { cls := c, dict := dd, data := .dict es ep, slots := sl } ∧ R (.ok (.ret .notImplemented)) s) :=
  .of_wp fun prog w A R s h => by obtain ⟨hp, g, d, tk, os⟩ := s; obtain ⟨hl, h⟩ := h; wp_walk using wpAny_loadPart' hl, wpAny_load hl; exact ⟨_, rfl, h⟩
def rNeDict : R2 := fun x y H Q => ∃ (a : Addr) (kvs : List (Key × V)), x = .ref a ∧ Rd H a (.dK kvs) ∧ (y = .non ∨ ∃ s, y = .str s) ∧ Q (.bl true) H
theorem op_neDict {X : Cx} (hu : X.A.units < cLine) : OpR X (compareOp .NotEq) rNeDict := by
  intro pins s σ H x y v u Q I rx ry h
  obtain ⟨a, kvs, rfl, ha, hy, q⟩ := h
  cases (show v = Value.ref a from rx)
  obtain ⟨_, _, vs, rel, o, es, ep, ho, hc, hd, _, ps, _⟩ := dk_rd I.hok ha
  obtain ⟨cls, dd, data, sl⟩ := o
  have hc1 : cls = .type "dict" := hc.1
  have hd1 : data = .dict es ep := hd
  subst hc1 hd1
  show wpAny (model X.prog X.w) X.A (richCompare .NotEq (.ref a) u) (EP X pins σ Q) X.xe s
  have fin : EP X pins σ Q (.bool true) s := ⟨.bl true, H, I, rfl, q⟩
  rcases hy with rfl | ⟨z, rfl⟩
  · cases ry
    exact SeqAt.rc_ne_decline_or (k := false) ⟨_, ho, rfl⟩ rfl (by decide) F.sub_NoneType_dict F.slot_dict_ne F.slot_NoneType_ne_refl
      (fun _ hq => PySem.call_meets F.slot_dict_ne ⟨_, ho, rfl⟩ F.entry_dict_ne (F.args_dict_ne_2 _ _) (dict_ne_declines_none a _) ⟨ho, rfl, hq⟩)
      (fun _ hq => PySem.call_gives F.slot_NoneType_ne_refl rfl F.entry_NoneType_ne (F.args_NoneType_ne_2 _ _) (SeqAt.NoneType___ne___none_ref_0 a) hq)
      (fun _ hq => wpAny_of_eq (rfl : isSame (.ref a) .none = pure false) hq) (.inr hu) fin
  · obtain ⟨t, rfl⟩ := ry
    exact SeqAt.rc_ne_decline_or (k := false) ⟨_, ho, rfl⟩ (typeIs_str s z t) (by decide) F.sub_str_dict F.slot_dict_ne F.slot_str_ne_refl
      (fun _ hq => PySem.call_meets F.slot_dict_ne ⟨_, ho, rfl⟩ F.entry_dict_ne (F.args_dict_ne_2 _ _) (dict_ne_declines_str a _ z t) ⟨ho, rfl, hq⟩)
      (fun _ hq => PySem.call_meets F.slot_str_ne_refl (typeIs_str s z t) F.entry_str_ne (F.args_str_ne_2 _ _) (str_ne_declines_dict z t a (.type "dict") es ep dd sl) ⟨ho, hq⟩)
      (fun _ hq => wpAny_of_eq (rfl : isSame (.ref a) (.str z t) = pure false) hq) (.inr hu) fin
end

def isTupD : PyData → Bool
  | .tuple _ => true
  | _ => false
def isLstD : PyData → Bool
  | .list _ => true
  | _ => false
theorem TyD.of {K : PySem.W.Frag} {H : Hp} {N : Addr → Prop} {v : V} {d : PyData} (h : Dr K H N v d) : ∃ t : String, TyX K H v (.type t) ∧ PySem.W.kitOne K (.type t) (.type "str") = some (isStrV v) ∧ PySem.W.kitOne K (.type t) (.type "list") = some (isLstD d) ∧ PySem.W.kitOne K (.type t) (.type "tuple") = some (isTupD d) := by
  cases h with
  | non => exact ⟨_, .base .non, kitv (by decide +kernel), kitv (by decide +kernel), kitv (by decide +kernel)⟩
  | bl b => exact ⟨_, .base (.bl b), kitv (b := false) (by decide +kernel), kitv (b := false) (by decide +kernel), kitv (b := false) (by decide +kernel)⟩
  | int i => exact ⟨_, .base (.int i), kitv (b := false) (by decide +kernel), kitv (b := false) (by decide +kernel), kitv (b := false) (by decide +kernel)⟩
  | str x => exact ⟨_, .base (.str x), kitv (b := true) (by decide +kernel), kitv (b := false) (by decide +kernel), kitv (b := false) (by decide +kernel)⟩
  | lst _ h _ =>
    rcases h with (h | ⟨o, h⟩) | ⟨o, _, _, h, hc, _⟩
    · exact ⟨_, .base (.lst h), kitv (b := false) (by decide +kernel), kitv (b := true) (by decide +kernel), kitv (b := false) (by decide +kernel)⟩
    · exact ⟨_, .base (.frz h), kitv (b := false) (by decide +kernel), kitv (b := true) (by decide +kernel), kitv (b := false) (by decide +kernel)⟩
    · exact ⟨_, .kList h hc, kitv (b := false) (by decide +kernel), kitv (b := true) (by decide +kernel), kitv (b := false) (by decide +kernel)⟩
  | tup _ h _ =>
    rcases h with (h | ⟨o, h⟩) | ⟨o, _, _, h, hc, _⟩
    · exact ⟨_, .base (.tup h), kitv (b := false) (by decide +kernel), kitv (b := false) (by decide +kernel), kitv (b := true) (by decide +kernel)⟩
    · exact ⟨_, .fTuple h, kitv (b := false) (by decide +kernel), kitv (b := false) (by decide +kernel), kitv (b := true) (by decide +kernel)⟩
    · exact ⟨_, .kTuple h hc, kitv (b := false) (by decide +kernel), kitv (b := false) (by decide +kernel), kitv (b := true) (by decide +kernel)⟩
  | dic _ h _ =>
    rcases h with h | ⟨o, h⟩
    · exact ⟨_, .base (.dK h), kitv (b := false) (by decide +kernel), kitv (b := false) (by decide +kernel), kitv (b := false) (by decide +kernel)⟩
    · exact ⟨_, .fDict h, kitv (b := false) (by decide +kernel), kitv (b := false) (by decide +kernel), kitv (b := false) (by decide +kernel)⟩
mutual
theorem Dr.dp {K : PySem.W.Frag} {H : Hp} {N : Addr → Prop} : ∀ {v : V} {d : PyData}, Dr K H N v d → d.canLay0 = true → Dp K H v d
  | _, _, .non, _ => .non
  | _, _, .bl b, _ => .bl b
  | _, _, .int i, _ => .int i
  | _, _, .str x, _ => .str x
  | _, _, .lst _ h all, c => .lst h (all.dp (by simpa only [PyData.canLay0] using c))
  | _, _, .tup _ h all, c => .tup h (all.dp (by simpa only [PyData.canLay0] using c))
  | _, _, .dic _ _ _, c => by simp only [PyData.canLay0] at c; cases c
theorem DrAll.dp {K : PySem.W.Frag} {H : Hp} {N : Addr → Prop} : ∀ {vs : List V} {ds : List PyData}, DrAll K H N vs ds → PyData.canLayAll0 ds = true → DpAll K H vs ds
  | _, _, .nil, _ => .nil
  | _, _, .cons h t, c => by
    simp only [PyData.canLayAll0, Bool.and_eq_true] at c
    exact .cons (h.dp c.1) (t.dp c.2)
end
theorem DrAll.move2 {K : PySem.W.Frag} {H H' : Hp} {N : Addr → Prop} (k : ∀ a o, H a = some o → H' a = some o) {vs : List V} {ds : List PyData} (h : DrAll K H N vs ds) : DrAll K H' (fun _ => True) vs ds := h.move (fun a o _ e => k a o e) (fun _ _ => trivial)
theorem lay_sm1 {n : Nat} {x : Str} (h : Sm n x) : PyData.canLay0 (.str x) = true := by
  simp only [PyData.canLay0]
  unfold PyData.strOk
  rw [Array.all_eq_true']
  intro c hc
  have := h.ch c (Array.mem_toList_iff.mpr hc)
  exact decide_eq_true (by omega)
theorem shaped_str1 {n : Nat} {x : Str} (h : Sm n x) : SeqAt.shaped (.str x) = true := by
  unfold SeqAt.shaped
  rw [Bool.and_eq_true]
  exact ⟨lay_sm1 h, decide_eq_true (by simp only [PyData.depth]; decide)⟩
theorem shaped_lay {d : PyData} (h : SeqAt.shaped d = true) : d.canLay0 = true := by
  unfold SeqAt.shaped at h
  rw [Bool.and_eq_true] at h
  exact h.1
def vD : V → PyData
  | .str x => .str x
  | _ => .none
/-- one of the changes -/
def StepOk (cs : List (Str × V)) (x : PyData) : Prop := ∃ c ∈ cs, ∃ t, x = .tuple [.str c.1, t] ∧ PyData.eqv t (vD c.2) = true
def Nice (x : PyData) : Prop := ∀ p t, x = .tuple [.str p, t] → SeqAt.shaped t = true ∨ ∃ e, t = .dict e
/-- no list of all changes -/
def Spoilt (cs : List (Str × V)) (d : PyData) : Prop := (∀ ds, d ≠ .list ds) ∨ ∃ ds, d = .list ds ∧ (∀ x ∈ ds, Nice x) ∧ ds.length ≤ 1000 ∧ (ds.length ≠ cs.length ∨ (∃ x ∈ ds, ¬ StepOk cs x) ∨ ∃ c ∈ cs, ∀ x ∈ ds, ∀ t, x ≠ .tuple [.str c.1, t])
def spNS (K : PySem.W.Frag) (C : Addr) : Sp := fun vs H Q _ => ∃ (x y e e2 : Addr) (wd w2 : Nat) (xs zs : List Str) (ks ls : List (Key × V)) (cs : List (Str × V)) (v : V) (d : PyData) (N : Addr → Prop), vs = [.ref x, .ref y, v] ∧ MapAt C H x e wd ks ∧ MapAt C H y e2 w2 ls ∧ RowsOk wd isTgtV xs ks ∧ RowsOk w2 isTgtV zs ls ∧ xs.length ≤ 90 ∧ zs.length ≤ 90 ∧ Dr K H N v d ∧ Spoilt cs d ∧ PermSeq ks ls cs ∧
  ∀ H', Same H H' → Q (.bl false) H'
def spISx (K : PySem.W.Frag) (C : Addr) : Sp := fun vs H Q E => ∃ us, vs = us ∧ us.length = 3 ∧ (spIS C us H Q E ∨ spNS K C us H Q E)
abbrev sIS : Stmt := top 16
section
variable {P : Program} {w : World} {K : PySem.W.Frag} {mg : Str → Option Value} {base : Heap}
abbrev NIS : List Str := ["old", "new", "thing", "wanted", "met", "change", "prefix", "target"]
theorem scIS : FnScope NIS ["old", "new", "thing"] (defScope sIS) := ⟨rfl, rfl, rfl, by decide +kernel, rfl, by decide +kernel, by decide +kernel⟩
set_option maxHeartbeats 8000000 in
theorem ok_IS {f fWT : Addr} {fd fdWT : FuncData} {k : Nat} (F : Fun K "is_sequence" "is_sequence" sIS f fd)
    (GWT : FnOk P w K mg base CX0 k fWT fdWT ["old", "new"] (spWT CC))
    (FWT : Fun K "wanted_targets" "wanted_targets" sWT fWT fdWT) (bWT : Binds K fdWT ["old", "new"] []) (gWT : mg "wanted_targets" = some (.ref fWT))
    (m_len : mg "len" = none)
    (m_list : mg "list" = none)
    (m_isinstance : mg "isinstance" = none)
    (m_set : mg "set" = none)
    (m_tuple : mg "tuple" = none)
    (m_str : mg "str" = none)
    : FnOk P w K mg base CX0 (k + 1) f fd ["old", "new", "thing"] ((spISx K CC)) := by
  refine F.ok scIS (fun vs H Q E h => ?_) (fun cdv A outer s H vs Q E hr h => ?_)
  · obtain ⟨us, rfl, u3, _⟩ := h
    match vs, u3 with
    | [_, _, _], _ => rfl
  · obtain ⟨us, rfl, u3, hh⟩ := h
    have nd := scIS.nd
    have hu := hr.units
    have hu1 := hu_of hr
    have hr1 := hr
    rcases hh with hh | hh
    · obtain ⟨x, y, e, e2, l, wd, w2, xs, zs, ks, ls, ts, cs, rfl, hx, hy, ok1, ok2, few1, few2, hl, hp, ps, w32, v32, q⟩ := hh
      refine ⟨_, pss_cons (ps_set (i := 3) nd rfl (.inl rfl) (pe_call GWT hr1 (by rfl) gWT FWT.kp bWT .nil pass0 (pa_cons (pv 0) (pa_cons (pv 1) pa_nil))))
          (pss_cons (ps_if (PW.pt (pw_or (pt_not (pt_val (pe_callB call_isi (by rfl) m_isinstance (by decide +kernel) (pa_cons (pv 2) (pa_cons (pe_bltn (v := .ty "list") (by rfl) m_list (by decide +kernel) rfl) pa_nil))))) (pw_or1 (pt_cmpR op_ne (pe_callB call_len_seq (by rfl) m_len (by decide +kernel) (pa_cons (pv 2) pa_nil)) (pe_callB call_lenD (by rfl) m_len (by decide +kernel) (pa_cons (pv 3) pa_nil)) (nomark _)))))
            (pss_one (ps_ret pe_bl)) pss_nil)
          (pss_cons (ps_set (i := 4) nd rfl (.inl rfl) (pe_callTy0 cr_set0K (by rfl) m_set (by decide +kernel)))
          (pss_cons (ps_for PassesOwn.never rfl (pi_list (pv 2)) (pg_name (i := 5) nd rfl (.inl rfl))
            (pss_cons (ps_if (PW.pt (pw_or (pt_not (pt_val (pe_callB call_isi (by rfl) m_isinstance (by decide +kernel) (pa_cons (pv 5) (pa_cons (pe_bltn (v := .ty "tuple") (by rfl) m_tuple (by decide +kernel) rfl) pa_nil))))) (pw_or1 (pt_cmpR op_ne (pe_callB call_len_seq (by rfl) m_len (by decide +kernel) (pa_cons (pv 5) pa_nil)) pe_int (nomark _)))))
              (pss_one (ps_ret pe_bl)) pss_nil)
            (pss_cons (ps_asg (pv 5) (pg_tup rfl (pgs_cons (pg_name (i := 6) nd rfl (.inl rfl)) (pgs_cons (pg_name (i := 7) nd rfl (.inl rfl)) pgs_nil))))
            (pss_cons (ps_if (PW.pt (pw_or (pt_not (pt_val (pe_callB call_isi (by rfl) m_isinstance (by decide +kernel) (pa_cons (pv 6) (pa_cons (pe_bltn (v := .ty "str") (by rfl) m_str (by decide +kernel) rfl) pa_nil))))) (pw_or (pt_cmp (pc_dnotin hu1 (pv 6) (pv 3))) (pw_or1 (pt_cmpR op_ne (pv 7) (pe_dget hu1 (pv 3) (pv 6) (fun _ _ => rfl)) (nomark _))))))
              (pss_one (ps_ret pe_bl)) pss_nil)
            (pss_one (ps_expr (pe_saddK (pv 4) (pa_cons (pv 6) pa_nil))))))))
          (pss_one (ps_ret (pe_cmpR op_eq (pe_callB cr_lenSK (by rfl) m_len (by decide +kernel) (pa_cons (pv 4) pa_nil)) (pe_callB call_lenD (by rfl) m_len (by decide +kernel) (pa_cons (pv 3) pa_nil)) (nomark _))))))), ?_⟩
      refine ⟨.ref x, rfl, .ref y, rfl, x, y, e, e2, wd, w2, xs, zs, ks, ls, rfl, hx, hy, ok1, ok2, few1, few2, fun d us W H1 s1 nd1 hd wo => ?_⟩
      have hl1 := s1 _ _ hl
      have hp1 := hp.mono fun _ _ h => s1 _ _ h
      have pl := prd_len hp
      have pu : (cs.map (·.1)).Perm us := perm_of_mem ps.nd wo.nd fun u => by
        rw [wo.mem, List.mem_map]
        constructor
        · rintro ⟨c, hc, rfl⟩
          exact ((ps.mem c).mp hc).1
        · exact fun h => ⟨(u, gV ls u), (ps.mem _).mpr ⟨h, rfl⟩, rfl⟩
      have cl : cs.length = us.length := by have := pu.length_eq; rwa [List.length_map] at this
      have wl := keys_len wo.keys
      have wf := wo.few
      refine ⟨.ref l, rfl, .ref l, .ty "list", .type "list", .type "list", _, rfl, .ty _, .base (.lst hl1), kitv (b := true) (by decide +kernel), _, rfl, iteF ?_⟩
      refine ⟨.ref l, rfl, l, _, rfl, .inl (SqL.of hl1), .ref d, rfl, d, W, rfl, hd, rfl, _, rfl, ?_⟩
      rw [List.length_map, show ts.length = W.length by omega, decide_eq_true rfl]
      refine iteF ?_
      refine ⟨rfl, fun S nS => ?_⟩
      have s2 := same_upd (o := SetK P w S (fun _ => false) 0) nS
      have hd2 := s2 _ _ hd
      have hl2 := s2 _ _ hl1
      have hp2 := hp1.mono fun _ _ h => s2 _ _ h
      have hS2 := upd_same (H := H1) (a := S) (o := SetK P w S (fun _ => false) 0)
      have dS : d ≠ S := ne_of_none hd nS
      have lS : l ≠ S := ne_of_none hl1 nS
      have tS : ∀ t ∈ ts, t ≠ S := fun t ht e => by
        obtain ⟨j, hj⟩ := List.mem_iff_getElem?.mp ht
        obtain ⟨c, _, h⟩ := prd_get hp1 hj
        rw [e, nS] at h
        cases h
      have sH : Same H (upd H1 S (SetK P w S (fun _ => false) 0)) := s1.trans s2
      have nSH : H S = none := s1.free nS
      clear s2
      revert hd2 hl2 hp2 hS2 sH
      show _ → _ → _ → _ → _ → gName 4 _ _ (upd H1 S (SetK P w S (fun _ => false) 0)) _
      generalize upd H1 S (SetK P w S (fun _ => false) 0) = H2
      intro hd2 hl2 hp2 hS2 sH
      have wv : ∀ c ∈ cs, valV W (.inr c.1) = some c.2 := fun c hc => by
        obtain ⟨h1, h2⟩ := (ps.mem c).mp hc
        rw [wo.val c.1 ((wo.mem _).mpr h1), h2]
      have cl32 : ∀ c ∈ cs, c.1.length ≤ 1000 := fun c hc => by
        rcases gV_in ok1 ok2 ((ps.mem c).mp hc).1 with h | h
        · have := ok1.pfx.len _ h; omega
        · have := ok2.pfx.len _ h; omega
      refine ⟨.ref l, rfl, l, rfl, ⟨_, SqL.of hl2⟩, for_list (K := K) (a := l) (xs := ts.map V.ref) (fun i σ H' => (∃ x5 x6 x7, σ = [some (.ref x), some (.ref y), some (.ref l), some (.ref d), some (.ref S), x5, x6, x7]) ∧ (∃ Sf : Key → Bool, H' S = some (SetK P w S Sf i) ∧ ∀ k, Sf k = true ↔ ∃ c ∈ cs.take i, k = .inr c.1) ∧ ∀ b o, b ≠ S → H2 b = some o → H' b = some o) ⟨⟨_, _, _, rfl⟩, ⟨_, hS2, fun k => ⟨fun h => (by cases h), fun ⟨c, hc, _⟩ => (by rw [List.take_zero] at hc; cases hc)⟩⟩, fun _ _ _ h => h⟩ (fun _ _ _ _ h => SqL.of (h.2.2 _ _ lS hl2)) ?_ ?_⟩
      · rintro i v σ H3 hv ⟨⟨x5, x6, x7, rfl⟩, ⟨Sf, hS3, mem3⟩, keep⟩
        rw [List.getElem?_map] at hv
        obtain ⟨t, ht, rfl⟩ := Option.map_eq_some_iff.mp hv
        obtain ⟨c, hc, htc⟩ := prd_get hp2 ht
        have hcm := List.mem_of_getElem? hc
        have il := (List.getElem?_eq_some_iff.mp hc).1
        have ht3 := keep _ _ (tS t (List.mem_of_getElem? ht)) htc
        have hd3 := keep _ _ dS hd2
        refine ⟨.ref t, rfl, .ref t, .ty "tuple", .type "tuple", .type "tuple", _, rfl, .ty _, .base (.tup ht3), kitv (b := true) (by decide +kernel), _, rfl, iteF ?_⟩
        refine ⟨.ref t, rfl, t, _, rfl, .inr (SqT.of ht3), rfl, _, rfl, iteNS rfl ?_⟩
        refine ⟨.ref t, rfl, t, _, rfl, SqT.of ht3, rfl, _, _, rfl, _, _, rfl, rfl, ?_⟩
        obtain ⟨tt, ty, kt⟩ := TyS.of (K := K) (H := H3) (N := fun _ => True) (.str c.1)
        refine ⟨.str c.1, rfl, .str c.1, .ty "str", .type tt, .type "str", _, rfl, .ty _, ty, kt, _, rfl, iteF ?_⟩
        refine ⟨.str c.1, rfl, .ref d, rfl, d, _, rfl, DGet.k (k := .inr c.1) hd3, _, rfl, ?_⟩
        rw [wv c hcm]
        refine iteF ?_
        have sc : scal c.2 c.2 = true := by
          have := ((ps.mem c).mp hcm).2
          rw [this]
          exact gV_scal ok2 ok2 _
        refine ⟨c.2, rfl, .ref d, rfl, .str c.1, rfl, d, c.2, rfl, by rw [← wv c hcm]; exact DGet.k (k := .inr c.1) hd3, sc, _, rfl, iteNS rfl ?_⟩
        have nin : Sf (.inr c.1) = false := Bool.eq_false_iff.mpr fun h => by
          obtain ⟨c', hc', e⟩ := (mem3 _).mp h
          have e := Sum.inr.inj e
          obtain ⟨j, hj, ej⟩ := List.mem_take_iff_getElem.mp hc'
          have a1 : (cs.map (·.1))[j]'(by rw [List.length_map]; omega) = (cs.map (·.1))[i]'(by rw [List.length_map]; exact il) := by
            rw [List.getElem_map, List.getElem_map, (List.getElem?_eq_some_iff.mp hc).2, ej, e]
          have := (List.getElem_inj ps.nd).mp a1
          omega
        refine ⟨.ref S, rfl, ⟨S, Sf, i, rfl, hS3⟩, .str c.1, rfl, S, .inr c.1, Sf, i, rfl, rfl, hS3, (show i + 1 < 4096 by omega), ⟨_, _, _, rfl⟩, ⟨_, by rw [upd_same, nin]; rfl, fun k => ?_⟩, fun b o n h => by rw [upd_ne n]; exact keep b o n h⟩
        rw [Bool.or_eq_true, mem3, decide_eq_true_iff, List.take_add_one, hc]
        constructor
        · rintro (⟨c', h1, h2⟩ | rfl)
          · exact ⟨c', List.mem_append_left _ h1, h2⟩
          · exact ⟨c, List.mem_append_right _ List.mem_cons_self, rfl⟩
        · rintro ⟨c', h1, h2⟩
          rcases List.mem_append.mp h1 with h1 | h1
          · exact .inl ⟨c', h1, h2⟩
          · rw [List.mem_singleton.mp h1] at h2
            exact .inr h2
      · rintro σ H3 ⟨⟨x5, x6, x7, rfl⟩, ⟨Sf, hS3, mem3⟩, keep⟩
        rw [List.length_map] at hS3
        refine ⟨.ref S, rfl, S, Sf, _, rfl, hS3, .ref d, rfl, d, W, rfl, keep _ _ dS hd2, rfl, ?_⟩
        rw [show ts.length = W.length by omega, decide_eq_true rfl]
        exact q H3 fun b o h => keep b o (ne_of_none h nSH) (sH b o h)
    · obtain ⟨x, y, e, e2, wd, w2, xs, zs, ks, ls, cs, v, d, N, rfl, hx, hy, ok1, ok2, few1, few2, dr, sp, ps, q⟩ := hh
      refine ⟨_, pss_cons (ps_set (i := 3) nd rfl (.inl rfl) (pe_call GWT hr1 (by rfl) gWT FWT.kp bWT .nil pass0 (pa_cons (pv 0) (pa_cons (pv 1) pa_nil))))
          (pss_cons (ps_if (PW.pt (pw_or (pt_not (pt_val (pe_callB call_isi (by rfl) m_isinstance (by decide +kernel) (pa_cons (pv 2) (pa_cons (pe_bltn (v := .ty "list") (by rfl) m_list (by decide +kernel) rfl) pa_nil))))) (pw_or1 (pt_cmpR op_ne (pe_callB call_len_seq (by rfl) m_len (by decide +kernel) (pa_cons (pv 2) pa_nil)) (pe_callB call_lenD (by rfl) m_len (by decide +kernel) (pa_cons (pv 3) pa_nil)) (nomark _)))))
            (pss_one (ps_ret pe_bl)) pss_nil)
          (pss_cons (ps_set (i := 4) nd rfl (.inl rfl) (pe_callTy0 cr_set0K (by rfl) m_set (by decide +kernel)))
          (pss_cons (ps_for PassesOwn.never rfl (pi_list (pv 2)) (pg_name (i := 5) nd rfl (.inl rfl))
            (pss_cons (ps_if (PW.pt (pw_or (pt_not (pt_val (pe_callB call_isi (by rfl) m_isinstance (by decide +kernel) (pa_cons (pv 5) (pa_cons (pe_bltn (v := .ty "tuple") (by rfl) m_tuple (by decide +kernel) rfl) pa_nil))))) (pw_or1 (pt_cmpR op_ne (pe_callB call_len_seq (by rfl) m_len (by decide +kernel) (pa_cons (pv 5) pa_nil)) pe_int (nomark _)))))
              (pss_one (ps_ret pe_bl)) pss_nil)
            (pss_cons (ps_asg (pv 5) (pg_tup rfl (pgs_cons (pg_name (i := 6) nd rfl (.inl rfl)) (pgs_cons (pg_name (i := 7) nd rfl (.inl rfl)) pgs_nil))))
            (pss_cons (ps_if (PW.pt (pw_or (pt_not (pt_val (pe_callB call_isi (by rfl) m_isinstance (by decide +kernel) (pa_cons (pv 6) (pa_cons (pe_bltn (v := .ty "str") (by rfl) m_str (by decide +kernel) rfl) pa_nil))))) (pw_or (pt_cmp (pc_dnotin hu1 (pv 6) (pv 3))) (pw_or1 (pt_cmpR (opr_or (op_neD hu) (op_neDict (Nat.lt_of_le_of_lt (Nat.le_add_right _ _) hu))) (pv 7) (pe_dget hu1 (pv 3) (pv 6) (fun _ _ => rfl)) (nomark _))))))
              (pss_one (ps_ret pe_bl)) pss_nil)
            (pss_one (ps_expr (pe_saddK (pv 4) (pa_cons (pv 6) pa_nil))))))))
          (pss_one (ps_ret (pe_cmpR op_eq (pe_callB cr_lenSK (by rfl) m_len (by decide +kernel) (pa_cons (pv 4) pa_nil)) (pe_callB call_lenD (by rfl) m_len (by decide +kernel) (pa_cons (pv 3) pa_nil)) (nomark _))))))), ?_⟩
      refine ⟨.ref x, rfl, .ref y, rfl, x, y, e, e2, wd, w2, xs, zs, ks, ls, rfl, hx, hy, ok1, ok2, few1, few2, fun d0 us W H1 s1 nd1 hd wo => ?_⟩
      have drN := dr.move (H' := H1) (N' := fun _ => True) (fun a o _ q => s1 a o q) (fun _ _ => trivial)
      have pu : (cs.map (·.1)).Perm us := perm_of_mem ps.nd wo.nd fun u => by
        rw [wo.mem, List.mem_map]
        constructor
        · rintro ⟨c, hc, rfl⟩
          exact ((ps.mem c).mp hc).1
        · exact fun h => ⟨(u, gV ls u), (ps.mem _).mpr ⟨h, rfl⟩, rfl⟩
      have cl : cs.length = us.length := by have := pu.length_eq; rwa [List.length_map] at this
      have wl := keys_len wo.keys
      have wf := wo.few
      obtain ⟨t0, ty, _, ktl, _⟩ := TyD.of drN
      refine ⟨v, rfl, v, .ty "list", .type t0, .type "list", _, rfl, .ty _, ty, ktl, _, rfl, ?_⟩
      rcases sp with nl | ⟨ds, rfl, nice, dl, alt⟩
      · have : isLstD d = false := by
          cases d with
          | list ds => exact absurd rfl (nl ds)
          | _ => rfl
        rw [this]
        exact iteT (q _ s1)
      refine iteF ?_
      cases drN with
      | @lst a vs ds' na hs all => ?_
      have vl : vs.length = ds.length := all.len
      refine ⟨.ref a, rfl, a, _, rfl, .inl hs, .ref d0, rfl, d0, W, rfl, hd, rfl, _, rfl, ?_⟩
      by_cases hl : vs.length = W.length
      rotate_left
      · exact iteNT (fun q => hl (by have q' := V.int.inj q; omega)) (q _ s1)
      rw [show vs.length = W.length from hl, decide_eq_true rfl]
      refine iteF ?_
      refine ⟨rfl, fun S nS => ?_⟩
      generalize hh : upd H1 S _ = H2
      have s2 : Same H1 H2 := by rw [← hh]; exact same_upd nS
      have hS2 : H2 S = some (SetK P w S (fun _ => false) 0) := by rw [← hh]; exact upd_same
      clear hh
      have hd2 := s2 _ _ hd
      have sH := s1.trans s2
      have dS : d0 ≠ S := ne_of_none hd nS
      have nSH : H S = none := s1.free nS
      have nS2 : ∀ b o, H1 b = some o → b ≠ S := fun b o e => ne_of_none e nS
      have fin : ∀ H', (∀ b o, b ≠ S → H2 b = some o → H' b = some o) → Q (.bl false) H' := fun H' k => q H' fun b o e => k b o (ne_of_none e nSH) (sH _ _ e)
      have drI : ∀ H', (∀ b o, b ≠ S → H2 b = some o → H' b = some o) → DrAll K H' (fun _ => True) vs ds := fun H' k => DrAll.move2 (fun b o e => k b o (nS2 b o e) (s2 _ _ e)) all
      have sqI : ∀ H', (∀ b o, b ≠ S → H2 b = some o → H' b = some o) → SqL K H' a vs := fun H' k => by
        rcases hs with (h | ⟨o, h⟩) | h
        · exact .inl (.inl (k _ _ (nS2 _ _ h) (s2 _ _ h)))
        · exact .inl (.inr ⟨o, k _ _ (nS2 _ _ h) (s2 _ _ h)⟩)
        · exact .inr h
      refine ⟨.ref a, rfl, a, rfl, ⟨_, sqI H2 (fun _ _ _ h => h)⟩, for_list (K := K) (a := a) (xs := vs) (fun i σ H' => (∃ x5 x6 x7, σ = [some (.ref x), some (.ref y), some (.ref a), some (.ref d0), some (.ref S), x5, x6, x7]) ∧ (∃ (Sf : Key → Bool) (pre : List Str), H' S = some (SetK P w S Sf pre.length) ∧ pre.Nodup ∧ pre.length ≤ i ∧ (∀ k, Sf k = true ↔ ∃ u ∈ pre, k = .inr u) ∧ ∀ u ∈ pre, (∃ c ∈ cs, c.1 = u) ∧ ∃ z ∈ ds, ∃ t, z = .tuple [.str u, t]) ∧ (∀ z ∈ ds.take i, StepOk cs z) ∧ ∀ b o, b ≠ S → H2 b = some o → H' b = some o) ⟨⟨_, _, _, rfl⟩, ⟨_, [], hS2, List.nodup_nil, Nat.le_refl _, fun k => ⟨fun h => (by cases h), fun ⟨_, h, _⟩ => (by cases h)⟩, fun _ h => absurd h List.not_mem_nil⟩, fun _ h => absurd h List.not_mem_nil, fun _ _ _ h => h⟩ (fun _ _ _ _ h => sqI _ h.2.2.2) ?_ ?_⟩
      · rintro i v σ H3 hv ⟨⟨x5, x6, x7, rfl⟩, ⟨Sf, pre, hS3, pnd, pl, mem3, pin⟩, sok, keep⟩
        have il : i < vs.length := (List.getElem?_eq_some_iff.mp hv).1
        obtain ⟨z, hz, drz⟩ := DrAll.get (drI H3 keep) hv
        have zm := List.mem_of_getElem? hz
        have ez : ds.take (i + 1) = ds.take i ++ [z] := by rw [List.take_add_one, hz]; rfl
        have hd3 := keep _ _ dS hd2
        obtain ⟨t1, ty1, _, _, kt1⟩ := TyD.of drz
        refine ⟨v, rfl, v, .ty "tuple", .type t1, .type "tuple", _, rfl, .ty _, ty1, kt1, _, rfl, ?_⟩
        cases ht : isTupD z with
        | false => exact iteT (fin H3 keep)
        | true =>
        refine iteF ?_
        obtain ⟨ys, rfl⟩ : ∃ ys, z = .tuple ys := by
          cases z with
          | tuple ys => exact ⟨ys, rfl⟩
          | _ => cases ht
        cases drz with
        | @tup b us2 ys' nb hb all2 => ?_
        have ul : us2.length = ys.length := all2.len
        refine ⟨.ref b, rfl, b, _, rfl, .inr hb, rfl, _, rfl, ?_⟩
        by_cases h2 : us2.length = 2
        rotate_left
        · exact iteNT (fun q => h2 (by have q' := V.int.inj q; omega)) (fin H3 keep)
        obtain ⟨v1, v2, rfl⟩ : ∃ v1 v2, us2 = [v1, v2] := by
          match us2, h2 with
          | [v1, v2], _ => exact ⟨v1, v2, rfl⟩
        refine iteNS rfl ?_
        cases all2 with
        | @cons _ _ d1 ys1 dr1 tl => ?_
        cases tl with
        | @cons _ _ d2 ys2 dr2 tl2 => ?_
        cases tl2
        refine ⟨.ref b, rfl, b, _, rfl, hb, rfl, _, _, rfl, _, _, rfl, rfl, ?_⟩
        obtain ⟨t2, ty2, kt2, _, _⟩ := TyD.of dr1
        refine ⟨v1, rfl, v1, .ty "str", .type t2, .type "str", _, rfl, .ty _, ty2, kt2, _, rfl, ?_⟩
        cases hs1 : isStrV v1 with
        | false => exact iteT (fin H3 keep)
        | true =>
        obtain ⟨u, rfl⟩ : ∃ u, v1 = .str u := by
          cases v1 with
          | str u => exact ⟨u, rfl⟩
          | _ => cases hs1
        cases dr1
        refine iteF ⟨.str u, rfl, .ref d0, rfl, d0, _, rfl, DGet.k (k := .inr u) hd3, _, rfl, ?_⟩
        cases hw : valV W (.inr u) with
        | none => exact iteT (fin H3 keep)
        | some wv =>
        have um : u ∈ us := (inr_mem wo.keys u).mp (valV_mem.mp (by rw [hw]; rfl))
        have ew : wv = gV ls u := by
          have := wo.val u um
          rw [hw] at this
          exact Option.some.inj this
        have cm : (u, wv) ∈ cs := (ps.mem (u, wv)).mpr ⟨(wo.mem u).mp um, ew⟩
        have wor : wv = .non ∨ isTgtV wv := by rw [ew]; exact gV_or ok2 u
        have wflat : wv = .non ∨ ∃ s, wv = .str s := by
          rcases wor with h | h
          · exact .inl h
          · obtain ⟨s, e, _⟩ := tgt_sm h
            exact .inr ⟨s, e⟩
        have dpw : Dp K H3 wv (vD wv) ∧ SeqAt.shaped (vD wv) = true := by
          rcases wor with h | h
          · rw [h]; exact ⟨.non, rfl⟩
          · obtain ⟨s, e, sm⟩ := tgt_sm h
            rw [e]
            exact ⟨.str s, shaped_str1 sm⟩
        refine iteF ⟨v2, rfl, .ref d0, rfl, .str u, rfl, d0, wv, rfl, by rw [← hw]; exact DGet.k (k := .inr u) hd3, ?_⟩
        have next : PyData.eqv d2 (vD wv) = true → (∃ x5 x6 x7, [some (.ref x), some (.ref y), some (.ref a), some (.ref d0), some (.ref S), some (.ref b), some (.str u), some v2] = [some (.ref x), some (.ref y), some (.ref a), some (.ref d0), some (.ref S), x5, x6, x7]) := fun _ => ⟨_, _, _, rfl⟩
        have so : PyData.eqv d2 (vD wv) = true → ∀ z ∈ ds.take (i + 1), StepOk cs z := fun h z hz => by
          rw [ez] at hz
          rcases List.mem_append.mp hz with hz | hz
          · exact sok z hz
          · rw [List.mem_singleton.mp hz]
            exact ⟨(u, wv), cm, d2, rfl, h⟩
        rcases nice _ zm u d2 rfl with hsh | ⟨ee, rfl⟩
        rotate_left
        · cases dr2 with
          | dic _ hrd _ => exact .inr ⟨_, _, rfl, hrd, wflat, _, rfl, iteT (fin H3 keep)⟩
        refine .inl ⟨d2, vD wv, dr2.dp (shaped_lay hsh), dpw.1, hsh, dpw.2, _, rfl, ?_⟩
        cases he : PyData.eqv d2 (vD wv) with
        | false => exact iteT (fin H3 keep)
        | true =>
        have so := so he
        have stp : (∃ c ∈ cs, c.1 = u) ∧ ∃ z ∈ ds, ∃ t, z = .tuple [.str u, t] := ⟨⟨(u, wv), cm, rfl⟩, _, zm, d2, rfl⟩
        refine iteF ⟨.ref S, rfl, ⟨S, Sf, _, rfl, hS3⟩, .str u, rfl, S, .inr u, Sf, _, rfl, rfl, hS3, (show pre.length + 1 < 4096 by omega), ⟨_, _, _, rfl⟩, ?_, so, fun b o n h => by rw [upd_ne n]; exact keep b o n h⟩
        cases hin : Sf (.inr u) with
        | true =>
          obtain ⟨u', hu', eu'⟩ := (mem3 _).mp hin
          have eu' : u = u' := Sum.inr.inj eu'
          subst eu'
          refine ⟨_, pre, by rw [upd_same]; rfl, pnd, by omega, fun k => ?_, pin⟩
          rw [Bool.or_eq_true, mem3, decide_eq_true_iff]
          exact ⟨fun h => h.elim id fun e => ⟨u, hu', e⟩, .inl⟩
        | false =>
          have nin : u ∉ pre := fun h => by
            have := (mem3 (.inr u)).mpr ⟨u, h, rfl⟩
            rw [hin] at this
            cases this
          refine ⟨_, pre ++ [u], by rw [upd_same, List.length_append]; rfl, List.nodup_append.mpr ⟨pnd, List.nodup_cons.mpr ⟨List.not_mem_nil, List.nodup_nil⟩, fun a ha b hb e => nin (by rw [← List.mem_singleton.mp hb, ← e]; exact ha)⟩, by rw [List.length_append]; show pre.length + 1 ≤ i + 1; omega, fun k => ?_, fun u2 h2 => ?_⟩
          · rw [Bool.or_eq_true, mem3, decide_eq_true_iff]
            constructor
            · rintro (⟨c', h1, h2⟩ | rfl)
              · exact ⟨c', List.mem_append_left _ h1, h2⟩
              · exact ⟨u, List.mem_append_right _ List.mem_cons_self, rfl⟩
            · rintro ⟨c', h1, h2⟩
              rcases List.mem_append.mp h1 with h1 | h1
              · exact .inl ⟨c', h1, h2⟩
              · rw [List.mem_singleton.mp h1] at h2
                exact .inr h2
          · rcases List.mem_append.mp h2 with h2 | h2
            · exact pin u2 h2
            · rw [List.mem_singleton.mp h2]
              exact stp
      · rintro σ H3 ⟨⟨x5, x6, x7, rfl⟩, ⟨Sf, pre, hS3, pnd, pl, mem3, pin⟩, sok, keep⟩
        have few : pre.length ≠ W.length := by
          rcases alt with h | ⟨z, hz, hn⟩ | ⟨c, hc, hm⟩
          · exact absurd (by omega) h
          · exact absurd (sok z (by rw [vl, List.take_length]; exact hz)) hn
          · have sub : ∀ u ∈ pre, u ∈ (cs.map (·.1)).erase c.1 := fun u hu => by
              obtain ⟨⟨c', hc', e⟩, z, hz, t, ez⟩ := pin u hu
              refine (List.mem_erase_of_ne fun e' => ?_).mpr (List.mem_map.mpr ⟨c', hc', e⟩)
              subst e'
              exact hm z hz t ez
            have h1 := nd_len pnd sub
            have hcm : c.1 ∈ cs.map (·.1) := List.mem_map.mpr ⟨c, hc, rfl⟩
            rw [List.length_erase_of_mem hcm, List.length_map] at h1
            have : 0 < cs.length := List.length_pos_of_mem hc
            omega
        refine ⟨.ref S, rfl, S, Sf, _, rfl, hS3, .ref d0, rfl, d0, W, rfl, keep _ _ dS hd2, rfl, ?_⟩
        rw [decide_eq_false (fun q => few (by have q' := V.int.inj q; omega))]
        exact fin H3 keep
end
/-! ### the sequence of changes is safe -/
theorem long_ex (xs : List Str) (y : Str) : ∃ r, IsLong xs y r := by
  by_cases h : (xs.filter fun x => decide (Pre x y)) = []
  · refine ⟨none, fun x hx hp => ?_⟩
    have := List.filter_eq_nil_iff.mp h x hx
    exact this (decide_eq_true hp)
  · obtain ⟨s, hs, mx⟩ := max_of Str.length _ h
    obtain ⟨h1, h2⟩ := List.mem_filter.mp hs
    exact ⟨some s, h1, of_decide_eq_true h2, fun u hu hp => mx u (List.mem_filter.mpr ⟨hu, decide_eq_true hp⟩)⟩
/-- where what rows say leads -/
def Leads (g : Str → V) (y : Str) (v : V) : Prop := (∃ q, Pre q y ∧ g q = v ∧ v ≠ .non ∧ ∀ u, Pre u y → g u ≠ .non → u.length ≤ q.length) ∨ (v = .non ∧ ∀ u, Pre u y → g u = .non)
theorem leads_ld {w : Nat} {xs : List Str} {ks : List (Key × V)} (ok : RowsOk w isTgtV xs ks) (y : Str) : Leads (gV ks) y (ld xs ks y) := by
  obtain ⟨r, hr⟩ := long_ex xs y
  rw [ld_is hr]
  cases r with
  | none => exact .inr ⟨rfl, fun u hu => Classical.byContradiction fun h => hr u ((gV_iff ok u).mpr h) hu⟩
  | some q =>
    obtain ⟨h1, h2, h3⟩ := hr
    exact .inl ⟨q, h2, rfl, (gV_iff ok q).mp h1, fun u hu h => h3 u ((gV_iff ok u).mpr h) hu⟩
theorem Leads.uniq {g : Str → V} {y : Str} {v v' : V} (h : Leads g y v) (h' : Leads g y v') : v = v' := by
  rcases h with ⟨q, h1, h2, h3, h4⟩ | ⟨h1, h2⟩ <;> rcases h' with ⟨q', g1, g2, g3, g4⟩ | ⟨g1, g2⟩
  · have l1 := h4 q' g1 (by rw [g2]; exact g3)
    have l2 := g4 q h1 (by rw [h2]; exact h3)
    have e : q = q' := str_ext (by
      have e1 := List.prefix_iff_eq_take.mp h1
      have e2 := List.prefix_iff_eq_take.mp g1
      show sg q = sg q'
      rw [e1, e2, sg_len, sg_len, show q.length = q'.length by omega])
    rw [← h2, ← g2, e]
  · exact absurd (h2.symm.trans (g2 q h1)) h3
  · exact absurd (g2.symm.trans (h2 q' g1)) g3
  · rw [h1, g1]
theorem leads_congr {g g' : Str → V} (h : ∀ u, g u = g' u) {y : Str} {v : V} (l : Leads g y v) : Leads g' y v := by
  have : g = g' := funext h
  rwa [← this]
theorem leIS_len {a b : Int} {x y : Str} (h : leIS (a, x) (b, y)) : a ≤ b := by
  have h : a < b ∨ (a = b ∧ _) := h
  rcases h with h | ⟨h, _⟩ <;> omega
theorem pw_at {α : Type} {R : α → α → Prop} {l : List α} (h : l.Pairwise R) {i j : Nat} {a b : α} (hi : l[i]? = some a) (hj : l[j]? = some b) (lt : i < j) : R a b := by
  obtain ⟨h1, e1⟩ := List.getElem?_eq_some_iff.mp hi
  obtain ⟨h2, e2⟩ := List.getElem?_eq_some_iff.mp hj
  have := List.pairwise_iff_getElem.mp h i j h1 h2 lt
  rwa [e1, e2] at this
theorem mem_takeR {α : Type} {l : List α} {k : Nat} {a : α} : a ∈ l.take k ↔ ∃ i, i < k ∧ l[i]? = some a := by
  constructor
  · intro h
    obtain ⟨i, hi, e⟩ := List.mem_take_iff_getElem.mp h
    exact ⟨i, by omega, by rw [← e]; exact List.getElem?_eq_getElem _⟩
  · rintro ⟨i, hi, e⟩
    obtain ⟨h1, e1⟩ := List.getElem?_eq_some_iff.mp e
    exact List.mem_take_iff_getElem.mpr ⟨i, by omega, e1⟩
theorem changes_lead {ks ls : List (Key × V)} {cs : List (Str × V)} {A B : List Str} (h : IsSeq ks ls cs A B) (k : Nat) {y : Str} {v : V} (l : Leads (gA ks ls cs k) y v) : Leads (gV ks) y v ∨ Leads (gV ls) y v := by
  have eS : ∀ u, u ∈ (cs.take k).map (·.1) ↔ u ∈ A.take k ∨ u ∈ B.take (k - A.length) := fun u => by
    rw [List.map_take, h.keys, List.take_append, List.mem_append]
  have gin : ∀ u, (u ∈ A.take k ∨ u ∈ B.take (k - A.length)) → gA ks ls cs k u = gV ls u := fun u hu => by unfold gA; rw [if_pos ((eS u).mpr hu)]
  have gout : ∀ u, ¬ (u ∈ A.take k ∨ u ∈ B.take (k - A.length)) → gA ks ls cs k u = gV ks u := fun u hu => by unfold gA; rw [if_neg fun q => hu ((eS u).mp q)]
  by_cases hk : k ≤ A.length
  · have b0 : ∀ u, u ∉ B.take (k - A.length) := fun u hu => by
      rw [show k - A.length = 0 by omega, List.take_zero] at hu
      exact absurd hu List.not_mem_nil
    have up : ∀ q u, q ∈ A.take k → u ∈ A → q.length < u.length → u ∈ A.take k := fun q u hq hu hlt => by
      obtain ⟨i, hi, ei⟩ := mem_takeR.mp hq
      obtain ⟨j, ej⟩ := List.mem_iff_getElem?.mp hu
      by_cases hj : j < k
      · exact mem_takeR.mpr ⟨j, hj, ej⟩
      · have := leIS_len (pw_at h.upA ei ej (by omega))
        omega
    rcases l with ⟨q, h1, h2, h3, h4⟩ | ⟨h1, h2⟩
    · by_cases hq : q ∈ A.take k
      · rw [gin q (.inl hq)] at h2
        refine .inr (.inl ⟨q, h1, h2, h3, fun u hu hn => Nat.le_of_not_lt fun hlt => ?_⟩)
        by_cases hu2 : u ∈ A.take k
        · have := h4 u hu (by rw [gin u (.inl hu2)]; exact hn)
          omega
        · have e := gout u fun z => z.elim hu2 (b0 u)
          by_cases ek : gV ks u = gV ls u
          · have := h4 u hu (by rw [e, ek]; exact hn)
            omega
          · exact hu2 (up q u hq ((h.memA u).mpr ⟨ek, hn⟩) hlt)
      · rw [gout q fun z => z.elim hq (b0 q)] at h2
        refine .inl (.inl ⟨q, h1, h2, h3, fun u hu hn => h4 u hu ?_⟩)
        by_cases hu2 : u ∈ A.take k
        · rw [gin u (.inl hu2)]
          exact ((h.memA u).mp (List.mem_of_mem_take hu2)).2
        · rw [gout u fun z => z.elim hu2 (b0 u)]
          exact hn
    · refine .inl (.inr ⟨h1, fun u hu => ?_⟩)
      have := h2 u hu
      by_cases hu2 : u ∈ A.take k
      · rw [gin u (.inl hu2)] at this
        exact absurd this ((h.memA u).mp (List.mem_of_mem_take hu2)).2
      · rw [gout u fun z => z.elim hu2 (b0 u)] at this
        exact this
  · have eA : A.take k = A := List.take_of_length_le (by omega)
    rw [eA] at gin gout
    have down : ∀ q u, q ∈ B → q ∉ B.take (k - A.length) → u ∈ B.take (k - A.length) → ¬ q.length < u.length := fun q u hq hn hu hlt => by
      obtain ⟨i, hi, ei⟩ := mem_takeR.mp hu
      obtain ⟨j, ej⟩ := List.mem_iff_getElem?.mp hq
      have hj : ¬ j < k - A.length := fun z => hn (mem_takeR.mpr ⟨j, z, ej⟩)
      have := leIS_len (pw_at h.upB ei ej (by omega))
      omega
    have lsOf : ∀ u, (u ∈ A ∨ u ∈ B.take (k - A.length)) ∨ gV ks u = gV ls u → gA ks ls cs k u = gV ls u := fun u hu => by
      rcases hu with hu | hu
      · exact gin u hu
      · by_cases z : u ∈ A ∨ u ∈ B.take (k - A.length)
        · exact gin u z
        · rw [gout u z, hu]
    have newL : ∀ u, gV ls u ≠ .non → gA ks ls cs k u = gV ls u := fun u hn => by
      by_cases ek : gV ks u = gV ls u
      · exact lsOf u (.inr ek)
      · exact lsOf u (.inl (.inl ((h.memA u).mpr ⟨ek, hn⟩)))
    rcases l with ⟨q, h1, h2, h3, h4⟩ | ⟨h1, h2⟩
    · by_cases hq : (q ∈ A ∨ q ∈ B.take (k - A.length)) ∨ gV ks q = gV ls q
      · rw [lsOf q hq] at h2
        exact .inr (.inl ⟨q, h1, h2, h3, fun u hu hn => h4 u hu (by rw [newL u hn]; exact hn)⟩)
      · have hq1 : ¬ (q ∈ A ∨ q ∈ B.take (k - A.length)) := fun z => hq (.inl z)
        have hq2 : gV ks q ≠ gV ls q := fun z => hq (.inr z)
        have hqB : q ∈ B := (h.memB q).mpr ⟨hq2, Classical.byContradiction fun z => hq1 (.inl ((h.memA q).mpr ⟨hq2, z⟩))⟩
        rw [gout q hq1] at h2
        refine .inl (.inl ⟨q, h1, h2, h3, fun u hu hn => Nat.le_of_not_lt fun hlt => ?_⟩)
        by_cases hu2 : u ∈ A ∨ u ∈ B.take (k - A.length)
        · rcases hu2 with hu2 | hu2
          · have := h4 u hu (by rw [gin u (.inl hu2)]; exact ((h.memA u).mp hu2).2)
            omega
          · exact down q u hqB (fun z => hq1 (.inr z)) hu2 hlt
        · have := h4 u hu (by rw [gout u hu2]; exact hn)
          omega
    · refine .inr (.inr ⟨h1, fun u hu => Classical.byContradiction fun hn => ?_⟩)
      have := h2 u hu
      rw [newL u hn] at this
      exact hn this
theorem changes_safe {w : Nat} {xs zs : List Str} {ks ls : List (Key × V)} (ok1 : RowsOk w isTgtV xs ks) (ok2 : RowsOk w isTgtV zs ls) {cs : List (Str × V)} {A B : List Str} (h : IsSeq ks ls cs A B) : SafeAll w xs ks zs ls cs := by
  intro i c _ xs' kvs' ok' g y _ _ _
  have l := leads_congr g (leads_ld ok' y)
  rcases changes_lead h (i + 1) l with l | l
  · exact .inl (l.uniq (leads_ld ok1 y))
  · exact .inr (l.uniq (leads_ld ok2 y))
/-! ### y = {k: v for ..} as a statement of its own -/
theorem swd_true {kx vx : Expr} {gs : List Comprehension} {scope : Scope} {pos py : Pos} {y : Str} {l : Nat} {env : Env} (hk : env.scope.kind = .function) (hy : env.scope.names.lookup y = some .local) (hl : (py.line == pos.line) = true)
    (ha : (scope.names.any fun (n, k) => n == y && (k == .local || k == .cell)) = false) : swapsWith (.DictComp kx vx gs scope pos) (some (.Name y py)) l env = pure true := by
  have ky : env.kindOf y = some .local := hy
  have hb : env.blockKind = .function := by unfold Env.blockKind; rw [hk]; rfl
  unfold swapsWith
  simp only [hb, ky, ha, Expr.pos, hl]
  rfl
section
variable {X : Cx}
theorem ps_setDc {i : Nat} {y : Str} {py : Pos} {kx vx tg iter : Expr} {ifs : List Expr} {scope : Scope} {own : List (Str × Nat)} {pos spos : Pos} {wi : TI} {g : TG} {tt : TT} {tk tv : TE} (hc : X.calm = true) (hN : X.N.Nodup) (hy : X.N[i]? = some y) (hyl : X.env.scope.names.lookup y = some .local)
    (hsw : swapsWith (.DictComp kx vx [⟨tg, iter, ifs, 0⟩] scope pos) (some (.Name y py)) spos.line X.env = pure true) (hi : PI X tg iter wi) (ok : BlkOk X.N X.env.scope scope own)
    (hg : ∀ (s : Shared) (H : Hp) (C : Addr) (cl : List (Str × Addr)) (fp : List Addr), PG (X.blk s H scope (compEnvC scope cl C X.env) fp) tg g) (ht : ∀ (s : Shared) (H : Hp) (C : Addr) (cl : List (Str × Addr)) (fp : List Addr), PTs (X.blk s H scope (compEnvC scope cl C X.env) fp) ifs tt)
    (hk : ∀ (s : Shared) (H : Hp) (C : Addr) (cl : List (Str × Addr)) (fp : List Addr), PE (X.blk s H scope (compEnvC scope cl C X.env) fp) kx tk)
    (he : ∀ (s : Shared) (H : Hp) (C : Addr) (cl : List (Str × Addr)) (fp : List Addr), PE (X.blk s H scope (compEnvC scope cl C X.env) fp) vx tv) (hs : ∀ x, foldedSetIterable iter X.env x = pure x := by intro _; rfl) :
    PS X (.Assign [.Name y py] (.DictComp kx vx [⟨tg, iter, ifs, 0⟩] scope pos) spos) (tAsg (tDc wi g tt tk tv (own.map (·.2))) (gName i)) := by
  refine ⟨fun pins s σ H D I h => ?_⟩
  rw [exec_Assign_Name_used _ _ _ _ hsw]
  refine wpAny_bind (wpAny_standAt (wpAny_bind ?_))
  show wpAny _ X.A (do let _ ← comprehension (.DictComp kx vx [⟨tg, iter, ifs, 0⟩] scope pos) scope X.env (firstIterPos [⟨tg, iter, ifs, 0⟩] pos) newDict false (eval iter X.env) (some (assign (.Name y py) X.env))) _ _ s
  have h : tDc wi g tt tk tv (own.map (·.2)) σ H (fun x H1 => gName i x σ H1 D.nx) := h
  refine wpAny_bind (thn (dc_core (Qf := fun _ s' => SP X pins D .next s') hc hN I hi ok hg ht hk he hs h fun L C s' m H' I' q hn f => ?_) fun _ s' hq => wpAny_pure (wpAny_pure hq))
  show wpAny _ _ (assign (.Name y py) X.env (.ref L)) _ _ _
  refine wpAny_assign_Name (store_ok2 (v := V.ref L) I' hN hy (.inl hyl) rfl (fun s2 I2 ⟨a, sb, ha⟩ => ?_) (.inr hyl))
  obtain ⟨f0, f1, f2, f3, f4, f5⟩ := f
  have haC : C ≠ a := by
    rcases ha with z | z
    · rw [z]; exact f1
    · exact fun e => f4 y a z e.symm
  refine ⟨m, hn.sameBut sb haC, fun h3 sb3 => ?_⟩
  exact ⟨_, H', I2.turned (t' := s2.toks) (fun b o hb e => (sb3.2 b hb).trans e) f0 f1 f3 f4 f5, q⟩
end

theorem inV2 {v a b : V} (hv : tv v) (ha : tv a) (hb : tv b) : inV v [a, b] = decide (v = a ∨ v = b) := by
  have one : ∀ {x y : V}, tv x → tv y → eqV y x = decide (x = y) := fun {x y} hx hy => by
    rcases hx with rfl | ⟨s, rfl⟩ <;> rcases hy with rfl | ⟨t, rfl⟩
    · rfl
    · rfl
    · rfl
    · show (t == s) = decide (V.str s = V.str t)
      rw [Bool.eq_iff_iff, beq_iff_eq, decide_eq_true_iff]
      exact ⟨fun h => by rw [h], fun h => (V.str.inj h).symm⟩
  show (eqV a v || (eqV b v || false)) = _
  rw [one hv ha, one hv hb, Bool.or_false, Bool.eq_iff_iff, Bool.or_eq_true, decide_eq_true_iff, decide_eq_true_iff, decide_eq_true_iff]
theorem tv_flat {v : V} (h : tv v) : flatV v = true := by
  rcases h with rfl | ⟨s, rfl⟩ <;> rfl
/-- a dict of pairs by addresses -/
def FV (H : Hp) (f g : Str → V) (W : List (Key × V)) (es : List Str) : Prop := Paired (fun (kv : Key × V) e => kv.1 = .inr e ∧ ∃ T, kv.2 = .ref T ∧ H T = some (.tup [f e, g e])) W es
theorem FV.keys {H : Hp} {f g : Str → V} : ∀ {W : List (Key × V)} {es : List Str}, FV H f g W es → W.map (·.1) = es.map Sum.inr
  | _, _, .nil => rfl
  | _, _, .cons h t => by rw [List.map_cons, List.map_cons, h.1, FV.keys t]
theorem FV.at {H : Hp} {f g : Str → V} {W : List (Key × V)} {es : List Str} (h : FV H f g W es) (nd : es.Nodup) {e : Str} (he : e ∈ es) : ∃ T, valV W (.inr e) = some (.ref T) ∧ H T = some (.tup [f e, g e]) := by
  have kn := keys_nd h.keys nd
  have key : ∀ {W : List (Key × V)} {es : List Str}, FV H f g W es → e ∈ es → ∃ kv ∈ W, kv.1 = .inr e ∧ ∃ T, kv.2 = .ref T ∧ H T = some (.tup [f e, g e]) := fun {W es} h => by
    induction h with
    | nil => exact fun q => absurd q List.not_mem_nil
    | cons h t ih =>
      intro q
      rcases List.mem_cons.mp q with rfl | q
      · exact ⟨_, List.mem_cons_self, h⟩
      · obtain ⟨kv, h1, h2⟩ := ih q
        exact ⟨kv, List.mem_cons_of_mem _ h1, h2⟩
  obtain ⟨kv, h1, h2, T, h3, h4⟩ := key h he
  refine ⟨T, ?_, h4⟩
  rw [← h3, ← h2]
  exact valV_some kn h1
def spSS (C : Addr) : Sp := fun vs H Q _ => ∃ (x y e e2 l : Addr) (wd : Nat) (xs zs : List Str) (ks ls : List (Key × V)) (ts : List Addr) (cs : List (Str × V)), vs = [.ref x, .ref y, .ref l] ∧ MapAt C H x e wd ks ∧ MapAt C H y e2 wd ls ∧ RowsOk wd isTgtV xs ks ∧ RowsOk wd isTgtV zs ls ∧ xs.length ≤ 90 ∧ zs.length ≤ 90 ∧ H l = some (.lst (ts.map V.ref)) ∧ Paired (fun t c => H t = some (.tup [.str c.1, c.2])) ts cs ∧ PermSeq ks ls cs ∧ 1 ≤ wd ∧ wd ≤ 32 ∧ (∀ us : List Str, us.Nodup → (∀ u ∈ us, u ∈ xs ∨ u ∈ zs) → us.length < 60) ∧
  ∀ b H', Same H H' → (b = true ↔ SafeAll wd xs ks zs ls cs) → Q (.bl b) H'
abbrev sSS : Stmt := top 17
section
variable {P : Program} {w : World} {K : PySem.W.Frag} {mg : Str → Option Value} {base : Heap}
abbrev NSS : List Str := ["old", "new", "sequence", "starts", "free", "start", "table", "prefix", "target"]
theorem scSS : FnScope NSS ["old", "new", "sequence"] (defScope sSS) := ⟨rfl, rfl, rfl, by decide +kernel, rfl, by decide +kernel, by decide +kernel⟩
set_option maxHeartbeats 8000000 in
theorem ok_SS {f fPw pPw fR pR fRs fLu fAc CC : Addr} {fd fdPw fdR fdRs fdLu fdAc : FuncData} {k : Nat} (F : Fun K "stays_safe" "stays_safe" sSS f fd)
    (GPw : FnOk P w K mg base CX0 k fPw fdPw ["self"] (spWidthP CC))
    (PPw : PropOf K CC "width" pPw fPw) (bPw : Binds K fdPw ["self"] [])
    (clC : Cls K CC)
    (GR : FnOk P w K mg base CX0 k fR fdR ["self"] (spRows CC))
    (PR : PropOf K CC "rows" pR fR) (bR : Binds K fdR ["self"] [])
    (m_list : mg "list" = none)
    (GRs : FnOk P w K mg base CX0 k fRs fdRs ["width", "prefixes"] (spStarts K))
    (FRs : Fun K "run_starts" "run_starts" sRs fRs fdRs) (bRs : Binds K fdRs ["width", "prefixes"] []) (gRs : mg "run_starts" = some (.ref fRs))
    (GLu : FnOk P w K mg base CX0 k fLu fdLu ["self", "address"] (spLook K CC))
    (mtLu : Meth K CC "lookup" fLu) (bLu : Binds K fdLu ["self", "address"] [])
    (GAc : FnOk P w K mg base CX0 k fAc fdAc ["table", "prefix", "target"] (spAC CC))
    (FAc : Fun K "after_change" "after_change" sAc fAc fdAc) (bAc : Binds K fdAc ["table", "prefix", "target"] []) (gAc : mg "after_change" = some (.ref fAc))
    : FnOk P w K mg base CX0 (k + 2) f fd ["old", "new", "sequence"] (spSS CC) := by
  refine F.ok scSS (fun vs H Q E h => ?_) (fun cdv A outer s H vs Q E hr h => ?_)
  · obtain ⟨x, y, e, e2, l, wd, xs, zs, ks, ls, ts, cs, rfl, _⟩ := h
    rfl
  · obtain ⟨x, y, e, e2, l, wd, xs, zs, ks, ls, ts, cs, rfl, hx, hy, ok1, ok2, few1, few2, hl, hp, ps, w1, w32, cnt, q⟩ := h
    have nd := scSS.nd
    have hu := hr.units
    have hu1 := hu_of hr
    have hr1 := hr.mono (Nat.le_succ k)
    refine ⟨_, pss_cons (ps_set (i := 3) nd rfl (.inl rfl) (pe_call GRs hr1 (by rfl) gRs FRs.kp bRs .nil pass0 (pa_cons (pe_prop (pv 0) clC PPw GPw hr bPw .nil pass0 rfl) (pa_cons (pe_op op_cat (pe_callTy (call_list_dK rfl) (by rfl) m_list (by decide +kernel) (pa_cons (pe_prop (pv 0) clC PR GR hr bR .nil pass0 rfl) pa_nil)) (pe_callTy (call_list_dK rfl) (by rfl) m_list (by decide +kernel) (pa_cons (pe_prop (pv 1) clC PR GR hr bR .nil pass0 rfl) pa_nil))) pa_nil))))
      (pss_cons (ps_setDc (i := 4) (own := [("start", 5)]) (g := gName 5) (tt := tYes) rfl nd rfl rfl (swd_true rfl rfl rfl (by decide +kernel)) (pi_list (pv 3)) (blkOk_by (N := NSS) (sc := defScope sSS) (by decide +kernel)) (fun _ _ _ _ _ => pg_name (i := 5) nd rfl (.inl rfl)) (fun _ _ _ _ _ => pts_nil) (fun _ _ _ _ _ => (pv 5)) (fun _ _ _ _ _ => (pe_tup (pa_cons (pe_meth (pv 0) clC mtLu GLu hr1 bLu .nil pass0 (pa_cons (pv 5) pa_nil)) (pa_cons (pe_meth (pv 1) clC mtLu GLu hr1 bLu .nil pass0 (pa_cons (pv 5) pa_nil)) pa_nil)))))
      (pss_cons (ps_set (i := 6) nd rfl (.inl rfl) (pv 0))
      (pss_cons (ps_for PassesOwn.never rfl (pi_list (pv 2)) (pg_tup rfl (pgs_cons (pg_name (i := 7) nd rfl (.inl rfl)) (pgs_cons (pg_name (i := 8) nd rfl (.inl rfl)) pgs_nil)))
        (pss_cons (ps_set (i := 6) nd rfl (.inl rfl) (pe_call GAc hr1 (by rfl) gAc FAc.kp bAc .nil pass0 (pa_cons (pv 6) (pa_cons (pv 7) (pa_cons (pv 8) pa_nil)))))
        (pss_one (ps_for PassesOwn.never rfl (pi_list (pv 3)) (pg_name (i := 5) nd rfl (.inl rfl))
          (pss_one (ps_if (PW.pt (pw_and (pt_val (pe_m1 PySem.F.slot_str_startswith PySem.F.type_str_startswith mt_startswith (pv 5) (pv 7))) (pw_and1 (pt_cmpR op_notIn_seq (pe_meth (pv 6) clC mtLu GLu hr1 bLu .nil pass0 (pa_cons (pv 5) pa_nil)) (pe_dget hu1 (pv 4) (pv 5) (fun _ _ => rfl)) (by rfl)))))
            (pss_one (ps_ret pe_bl)) pss_nil))))))
      (pss_one (ps_ret pe_bl))))), ?_⟩
    obtain ⟨⟨dx, hx'⟩, _⟩ := id hx
    obtain ⟨⟨dy, hy'⟩, _⟩ := id hy
    refine ⟨.ref x, rfl, x, dx, _, rfl, hx', x, e, wd, ks, rfl, hx, ?_⟩
    refine ⟨.ref x, rfl, x, dx, _, rfl, hx', x, e, wd, ks, rfl, hx, fun d1 nd1 => ⟨d1, ks, rfl, upd_same, fun A1 nA1 => ?_⟩⟩
    rw [keys_strs ok1.keys]
    have s1 := (same_upd (o := .dK ks) nd1).trans (same_upd (o := .lst (xs.map V.str)) nA1)
    have hA1 := upd_same (H := upd H d1 (.dK ks)) (a := A1) (o := .lst (xs.map V.str))
    revert s1 hA1
    generalize upd (upd H d1 (.dK ks)) A1 (.lst (xs.map V.str)) = H1
    intro s1 hA1
    refine ⟨.ref y, rfl, y, dy, _, rfl, s1 _ _ hy', y, e2, wd, ls, rfl, hy.same s1, fun d2 nd2 => ⟨d2, ls, rfl, upd_same, fun A2 nA2 => ?_⟩⟩
    rw [keys_strs ok2.keys]
    have s2 := (same_upd (o := .dK ls) nd2).trans (same_upd (o := .lst (zs.map V.str)) nA2)
    have hA2 := upd_same (H := upd H1 d2 (.dK ls)) (a := A2) (o := .lst (zs.map V.str))
    revert s2 hA2
    generalize upd (upd H1 d2 (.dK ls)) A2 (.lst (zs.map V.str)) = H2
    intro s2 hA2
    refine ⟨A1, A2, _, _, rfl, rfl, s2 _ _ hA1, hA2, big_of (by rw [List.length_map, List.length_map]; omega), fun A3 nA3 => ?_⟩
    have s3 := same_upd (o := .lst (xs.map V.str ++ zs.map V.str)) nA3
    have hb : ∀ u ∈ xs ++ zs, isBits u = true ∧ u.length ≤ wd := fun u hu => (List.mem_append.mp hu).elim (fun h => ⟨ok1.pfx.bits u h, ok1.pfx.len u h⟩) fun h => ⟨ok2.pfx.bits u h, ok2.pfx.len u h⟩
    refine ⟨wd, A3, xs ++ zs, rfl, SqL.of (by rw [upd_same, List.map_append]), w32, hb, by rw [List.length_append]; omega, fun st ys H5 s5 nst hst nd5 up5 mem5 => ?_⟩
    have s05 := s1.trans (s2.trans (s3.trans s5))
    have bits5 : ∀ u ∈ ys, isBits u = true ∧ u.length = wd := fun u hu => starts_ok hb ((mem5 u).mp hu)
    have hx5 := hx.same s05
    have hy5 := hy.same s05
    have hx5' := s05 _ _ hx'
    have hy5' := s05 _ _ hy'
    have hl5 := s05 _ _ hl
    have hp5 := hp.mono fun _ _ h => s05 _ _ h
    have ylen : ys.length ≤ 900 := by
      have := nd_len nd5 fun u hu => (mem5 u).mp hu
      have h2 : ∀ zs : List Str, (zs.flatMap (startsOf wd)).length ≤ 2 * zs.length := fun zs => by
        induction zs with
        | nil => exact Nat.le_refl _
        | cons z zs ih =>
          rw [List.flatMap_cons, List.length_append, List.length_cons]
          have : (startsOf wd z).length ≤ 2 := by
            unfold startsOf
            split
            · exact Nat.le_succ 1
            · exact Nat.le_refl 2
          omega
      have h3 := h2 (xs ++ zs)
      have h4 : (startsL wd (xs ++ zs)).length = (List.flatMap (startsOf wd) (xs ++ zs)).length + 1 := by unfold startsL; rw [List.length_cons]
      rw [List.length_append] at h3
      omega
    clear s1 s2 s3 s5 nA3 hA1 hA2
    refine ⟨.ref st, rfl, st, rfl, ⟨_, SqL.of hst⟩, fun D nD => ?_⟩
    refine dc_it walk_list (fun i H' => ∃ W, H' D = some (.dK W) ∧ FV H' (ld xs ks) (ld zs ls) W (ys.take i) ∧ Same H5 H') ⟨[], upd_same, .nil, same_upd nD⟩ (fun _ H' _ h => by obtain ⟨_, _, _, k⟩ := h; exact SqL.of (k _ _ hst)) ?_ ?_
    · rintro i v H6 H6' hi ⟨W, hD, fv, s6⟩ ⟨rfl, hv⟩
      rw [List.getElem?_map] at hv
      obtain ⟨u, hu, rfl⟩ := Option.map_eq_some_iff.mp hv
      obtain ⟨ub, ul⟩ := bits5 u (List.mem_of_getElem? hu)
      refine ⟨rfl, yes_if ?_⟩
      have hx6 := hx5.same s6
      have hy6 := hy5.same s6
      have DT : ∀ {T : Addr}, H6' T = none → T ≠ D := fun h => (ne_of_none hD h).symm
      refine ⟨.str u, rfl, .ref x, rfl, x, dx, _, rfl, s6 _ _ hx5', flds_no _ _ (by decide +kernel) (by decide +kernel), .str u, rfl, x, e, wd, xs, ks, u, rfl, hx6, ok1.keys, ub, ul, w32, fun r hr1 => ?_⟩
      refine ⟨.ref y, rfl, y, dy, _, rfl, s6 _ _ hy5', flds_no _ _ (by decide +kernel) (by decide +kernel), .str u, rfl, y, e2, wd, zs, ls, u, rfl, hy6, ok2.keys, ub, ul, w32, fun r2 hr2 => ?_⟩
      rw [← ld_is hr1, ← ld_is hr2]
      refine ⟨by show 2 ≤ sizeLine; decide, fun T nT => ?_⟩
      have s7 := same_upd (o := .tup [ld xs ks u, ld zs ls u]) nT
      have wk := fv.keys
      have wl : W.length = (ys.take i).length := by have := congrArg List.length wk; rwa [List.length_map, List.length_map] at this
      have wl2 : W.length ≤ 900 := by rw [wl, List.length_take]; omega
      have new : (Sum.inr u : Key) ∉ W.map (·.1) := by
        rw [wk]
        intro hm
        obtain ⟨z, hz, ez⟩ := List.mem_map.mp hm
        have := Sum.inr.inj ez
        subst this
        exact notin_take nd5 hu (fun _ => true) (List.mem_filter.mpr ⟨hz, rfl⟩)
      refine ⟨W, .inr u, rfl, s7 _ _ hD, Nat.lt_of_le_of_lt wl2 (by decide), W ++ [(.inr u, .ref T)], by rw [upd_same, putK_end new], ?_, fun b o h => ?_⟩
      · rw [List.take_add_one, hu]
        have k7 : ∀ (t : Addr) (vs : List V), H6' t = some (.tup vs) → (upd (upd H6' T (.tup [ld xs ks u, ld zs ls u])) D (.dK (putK W (.inr u) (.ref T)))) t = some (.tup vs) := fun t vs h => by
          rw [upd_ne (ne_of h hD (fun q => nomatch q))]
          exact s7 _ _ h
        exact prd_snoc (fv.mono fun kv e ⟨h1, T', h2, h3⟩ => ⟨h1, T', h2, k7 _ _ h3⟩) ⟨rfl, T, rfl, by rw [upd_ne (DT nT), upd_same]⟩
      · rw [upd_ne (ne_of_none h nD)]
        exact s7 _ _ (s6 _ _ h)
    · rintro H6 ⟨W, hD, fv, s6⟩
      rw [List.length_map, List.take_length] at fv
      have s06 := s05.trans s6
      have hx6 := hx5.same s6
      have hl6 := s6 _ _ hl5
      have hp6 := hp5.mono fun _ _ h => s6 _ _ h
      have hst6 := s6 _ _ hst
      have pl := prd_len hp
      have cm : ∀ c ∈ cs, gV ks c.1 ≠ gV ls c.1 ∧ c.2 = gV ls c.1 := fun c hc => (ps.mem c).mp hc
      have cin : ∀ c ∈ cs, c.1 ∈ xs ++ zs := fun c hc => List.mem_append.mpr (gV_in ok1 ok2 (cm c hc).1)
      have q' := fun b H' s h => q b H' (s06.trans s) h
      clear s05 s6
      refine ⟨.ref x, rfl, .ref l, rfl, l, rfl, ⟨_, SqL.of hl6⟩, for_list (K := K) (a := l) (xs := ts.map V.ref) (fun i σ H' => (∃ (x5 x7 x8 : Option V) (tb eb : Addr) (xb : List Str) (kb : List (Key × V)), σ = [some (.ref x), some (.ref y), some (.ref l), some (.ref st), some (.ref D), x5, some (.ref tb), x7, x8] ∧ MapAt CC H' tb eb wd kb ∧ RowsOk wd isTgtV xb kb ∧ (∀ u, gV kb u = gA ks ls cs i u) ∧ ∀ u ∈ xb, u ∈ xs ∨ u ∈ zs) ∧ (∀ j c, j < i → cs[j]? = some c → SafeAt wd xs ks zs ls cs j c) ∧ Same H6 H') ⟨⟨_, _, _, x, e, xs, ks, rfl, hx6, ok1, fun u => (gA_zero ks ls cs u).symm, fun u hu => .inl hu⟩, fun j c h => absurd h (Nat.not_lt_zero _), .refl _⟩ (fun _ _ _ _ h => SqL.of (h.2.2 _ _ hl6)) ?_ ?_⟩
      · rintro i v σ H7 hv ⟨⟨x5, x7, x8, tb, eb, xb, kb, rfl, hm, okb, gb, sub⟩, prev, s7⟩
        rw [List.getElem?_map] at hv
        obtain ⟨t, ht, rfl⟩ := Option.map_eq_some_iff.mp hv
        obtain ⟨c, hc, htc⟩ := prd_get hp6 ht
        have hcm := List.mem_of_getElem? hc
        obtain ⟨cb1, cb2⟩ := hb c.1 (cin c hcm)
        have cv : c.2 = .non ∨ isTgtV c.2 := by rw [(cm c hcm).2]; exact gV_or ok2 c.1
        have xbl : xb.length < 60 := cnt xb okb.pfx.nd sub
        refine ⟨t, _, rfl, SqT.of (s7 _ _ htc), rfl, _, _, rfl, _, _, rfl, rfl, ?_⟩
        refine ⟨.ref tb, rfl, .str c.1, rfl, c.2, rfl, tb, eb, wd, xb, kb, c.1, c.2, rfl, hm, okb, w1, w32, cb1, cb2, cv, fun en => ?_, xbl, fun x' e' xs' kvs' H8 s8 hm' ok' g' sub' => ?_⟩
        · refine (gV_iff okb c.1).mpr fun h => (cm c hcm).1 ?_
          rw [gb, gA_at ps hc] at h
          rw [h, ← (cm c hcm).2, en]
        have g2 : ∀ u, gV kvs' u = gA ks ls cs (i + 1) u := fun u => by rw [g', gA_succ ps hc, gb]
        have sub2 : ∀ u ∈ xs', u ∈ xs ∨ u ∈ zs := fun u hu => by
          rcases sub' u hu with rfl | h
          · exact List.mem_append.mp (cin c hcm)
          · exact sub u h
        obtain ⟨⟨dx2, hx2⟩, _⟩ := id hm'
        have s68 := s7.trans s8
        have hst8 := s68 _ _ hst6
        refine ⟨.ref st, rfl, st, rfl, ⟨_, SqL.of hst8⟩, for_list (K := K) (a := st) (xs := ys.map V.str) (fun k σ H' => (∃ (x5 : Option V), σ = [some (.ref x), some (.ref y), some (.ref l), some (.ref st), some (.ref D), x5, some (.ref x'), some (.str c.1), some c.2]) ∧ H' = H8 ∧ ∀ j s, j < k → ys[j]? = some s → Pre c.1 s → ld xs' kvs' s = ld xs ks s ∨ ld xs' kvs' s = ld zs ls s) ⟨⟨_, rfl⟩, rfl, fun _ _ h => absurd h (Nat.not_lt_zero _)⟩ (fun _ _ _ _ h => by rw [h.2.1]; exact SqL.of hst8) ?_ ?_⟩
        · rintro k v σ H' hv ⟨⟨x5, rfl⟩, rfl, pr⟩
          rw [List.getElem?_map] at hv
          obtain ⟨u, hu, rfl⟩ := Option.map_eq_some_iff.mp hv
          have hum := List.mem_of_getElem? hu
          obtain ⟨ub, ul⟩ := bits5 u hum
          refine ⟨.str u, rfl, ⟨_, rfl⟩, .str c.1, rfl, u, c.1, rfl, rfl, _, rfl, ?_⟩
          rw [startswith_iff]
          by_cases hpre : Pre c.1 u
          · rw [decide_eq_true hpre]
            obtain ⟨T, hvT, hT⟩ := fv.at nd5 hum
            refine iteT ⟨.ref x', rfl, x', dx2, _, rfl, hx2, flds_no _ _ (by decide +kernel) (by decide +kernel), .str u, rfl, x', e', wd, xs', kvs', u, rfl, hm', ok'.keys, ub, ul, w32, fun r hr1 => ?_⟩
            rw [← ld_is hr1]
            refine ⟨.ref D, rfl, .str u, rfl, D, .ref T, rfl, by rw [← hvT]; exact DGet.k (k := .inr u) (s68 _ _ hD), T, _, rfl, .inr (SqT.of (s68 _ _ hT)), tv_flat (ld_tv ok' u), ?_, _, rfl, ?_⟩
            · show (flatV (ld xs ks u) && (flatV (ld zs ls u) && true)) = true
              rw [tv_flat (ld_tv ok1 u), tv_flat (ld_tv ok2 u)]
              rfl
            rw [if_pos rfl, inV2 (ld_tv ok' u) (ld_tv ok1 u) (ld_tv ok2 u)]
            by_cases hs : ld xs' kvs' u = ld xs ks u ∨ ld xs' kvs' u = ld zs ls u
            · rw [decide_eq_true hs]
              refine iteF ⟨⟨_, rfl⟩, rfl, fun j s hj hjs hp => ?_⟩
              rcases Nat.lt_succ_iff_lt_or_eq.mp hj with h | h
              · exact pr j s h hjs hp
              · rw [h, hu] at hjs
                cases hjs
                exact hs
            · rw [decide_eq_false hs]
              refine iteT (q' false _ s68 ⟨fun h => (by cases h), fun h => ?_⟩)
              exact absurd (h i c hc xs' kvs' ok' g2 u ub ul hpre) hs
          · rw [decide_eq_false hpre]
            refine iteF ?_
            refine ⟨⟨_, rfl⟩, rfl, fun j s hj hjs hp => ?_⟩
            rcases Nat.lt_succ_iff_lt_or_eq.mp hj with h | h
            · exact pr j s h hjs hp
            · rw [h, hu] at hjs
              cases hjs
              exact absurd hp hpre
        · rintro σ H' ⟨⟨x5, rfl⟩, rfl, pr⟩
          rw [List.length_map] at pr
          refine ⟨⟨_, _, _, x', e', xs', kvs', rfl, hm', ok', g2, sub2⟩, fun j c2 hj hjc => ?_, s68⟩
          rcases Nat.lt_succ_iff_lt_or_eq.mp hj with h | h
          · exact prev j c2 h hjc
          · rw [h, hc] at hjc
            cases hjc
            rw [h]
            intro xs2 kvs2 ok2' g2' z zb zl hpz
            obtain ⟨s, hsm, _, hpre⟩ := run_at hb zb zl
            obtain ⟨j2, hj2⟩ := List.mem_iff_getElem?.mp ((mem5 s).mpr hsm)
            have hj2l := (List.getElem?_eq_some_iff.mp hj2).1
            have hs := pr j2 s hj2l hj2 ((hpre c.1 (cin c hcm)).mpr hpz)
            have e0 : ld xs2 kvs2 z = ld xs' kvs' z := ld_gV ok2' ok' (fun u => (g2' u).trans (g2 u).symm) z
            have e1 : ld xs' kvs' s = ld xs' kvs' z := ld_congr fun r => run_long hb (fun u hu => List.mem_append.mpr (sub2 u hu)) hpre
            have e2 : ld xs ks s = ld xs ks z := ld_congr fun r => run_long hb (fun u hu => List.mem_append_left _ hu) hpre
            have e3 : ld zs ls s = ld zs ls z := ld_congr fun r => run_long hb (fun u hu => List.mem_append_right _ hu) hpre
            rw [e0, ← e1, ← e2, ← e3]
            exact hs
      · rintro σ H7 ⟨⟨x5, x7, x8, tb, eb, xb, kb, rfl, hm, okb, gb, sub⟩, prev, s7⟩
        refine q' true _ s7 ⟨fun _ i c hc => ?_, fun _ => rfl⟩
        have hi := (List.getElem?_eq_some_iff.mp hc).1
        exact prev i c (by rw [List.length_map]; omega) hc
end

theorem incl_congr {ps qs : List Str} (h : ∀ y, y ∈ ps ↔ y ∈ qs) (q : Str) : InCl ps q ↔ InCl qs q := by
  unfold InCl
  constructor
  · rintro (h1 | ⟨p, hp, h2⟩)
    · exact .inl h1
    · exact .inr ⟨p, (h p).mp hp, h2⟩
  · rintro (h1 | ⟨p, hp, h2⟩)
    · exact .inl h1
    · exact .inr ⟨p, (h p).mpr hp, h2⟩

def spSa (C : Addr) : Sp := fun vs H Q _ => ∃ (x y e e2 l : Addr) (wd : Nat) (xs zs : List Str) (ks ls : List (Key × V)) (ts : List Addr) (cs : List (Str × V)), vs = [.ref x, .ref y, .ref l] ∧ MapAt C H x e wd ks ∧ MapAt C H y e2 wd ls ∧ RowsOk wd isTgtV xs ks ∧ RowsOk wd isTgtV zs ls ∧ xs.length ≤ 90 ∧ zs.length ≤ 90 ∧ H l = some (.lst (ts.map V.ref)) ∧ Paired (fun t c => H t = some (.tup [.str c.1, c.2])) ts cs ∧ PermSeq ks ls cs ∧ 1 ≤ wd ∧ wd ≤ 32 ∧ (∀ us : List Str, us.Nodup → (∀ u ∈ us, u ∈ xs ∨ u ∈ zs) → us.length < 60) ∧
  ∀ b H', Same H H' → (b = true ↔ SafeAll wd xs ks zs ls cs) → Q (.bl b) H'

def spNSa (K : PySem.W.Frag) (C : Addr) : Sp := fun vs H Q _ => ∃ (x y e e2 : Addr) (wd : Nat) (xs zs : List Str) (ks ls : List (Key × V)) (cs : List (Str × V)) (v : V) (d : PyData) (N : Addr → Prop), vs = [.ref x, .ref y, v] ∧ MapAt C H x e wd ks ∧ MapAt C H y e2 wd ls ∧ RowsOk wd isTgtV xs ks ∧ RowsOk wd isTgtV zs ls ∧ xs.length ≤ 90 ∧ zs.length ≤ 90 ∧ Dr K H N v d ∧ Spoilt cs d ∧ PermSeq ks ls cs ∧
  ∀ H', Same H H' → Q (.bl false) H'
def spSaX (K : PySem.W.Frag) (C : Addr) : Sp := fun vs H Q E => ∃ us, vs = us ∧ us.length = 3 ∧ (spSa C us H Q E ∨ spNSa K C us H Q E)
abbrev sSa : Stmt := top 15
section
variable {P : Program} {w : World} {K : PySem.W.Frag} {mg : Str → Option Value} {base : Heap}
abbrev NSa : List Str := ["old", "new", "thing"]
theorem scSa : FnScope NSa ["old", "new", "thing"] (defScope sSa) := ⟨rfl, rfl, rfl, by decide +kernel, rfl, by decide +kernel, by decide +kernel⟩
set_option maxHeartbeats 8000000 in
theorem ok_Sa {f fCk fSS fIS : Addr} {fd fdCk fdSS fdIS : FuncData} {k : Nat} (F : Fun K "is_safe" "is_safe" sSa f fd)
    (GCk : FnOk P w K mg base (L2.CX P w) k fCk fdCk ["one", "two"] (spCheck CC CIP))
    (FCk : Fun K "check_pair" "check_pair" sCk fCk fdCk) (bCk : Binds K fdCk ["one", "two"] []) (gCk : mg "check_pair" = some (.ref fCk))
    (GSS : FnOk P w K mg base CX0 k fSS fdSS ["old", "new", "sequence"] (spSS CC))
    (FSS : Fun K "stays_safe" "stays_safe" sSS fSS fdSS) (bSS : Binds K fdSS ["old", "new", "sequence"] []) (gSS : mg "stays_safe" = some (.ref fSS))
    (GIS : FnOk P w K mg base CX0 k fIS fdIS ["old", "new", "thing"] ((spISx K CC)))
    (FIS : Fun K "is_sequence" "is_sequence" sIS fIS fdIS) (bIS : Binds K fdIS ["old", "new", "thing"] []) (gIS : mg "is_sequence" = some (.ref fIS))
    : FnOk P w K mg base CX0 (k + 1) f fd ["old", "new", "thing"] ((spSaX K CC)) := by
  refine F.ok scSa (fun vs H Q E h => ?_) (fun cdv A outer s H vs Q E hr h => ?_)
  · obtain ⟨us, rfl, u3, _⟩ := h
    match vs, u3 with
    | [_, _, _], _ => rfl
  · obtain ⟨us, rfl, u3, hh⟩ := h
    have nd := scSa.nd
    have hu := hr.units
    have hu1 := hu_of hr
    have hr1 := hr
    refine ⟨_, pss_cons (ps_expr (pe_call GCk hr1 (by rfl) gCk FCk.kp bCk .nil (passes_call takes0 (fun _ _ _ _ h => h)) (pa_cons (pv 0) (pa_cons (pv 1) pa_nil))))
      (pss_one (ps_ret (pe_and (pe_call GIS hr1 (by rfl) gIS FIS.kp bIS .nil pass0 (pa_cons (pv 0) (pa_cons (pv 1) (pa_cons (pv 2) pa_nil)))) (pe_one (pe_call GSS hr1 (by rfl) gSS FSS.kp bSS .nil pass0 (pa_cons (pv 0) (pa_cons (pv 1) (pa_cons (pv 2) pa_nil)))))))), ?_⟩
    rcases hh with hh | hh
    · obtain ⟨x, y, e, e2, l, wd, xs, zs, ks, ls, ts, cs, rfl, hx, hy, ok1, ok2, few1, few2, hl, hp, ps, w1, w32, cnt, q⟩ := hh
      refine ⟨.ref x, rfl, .ref y, rfl, x, y, e, e2, wd, wd, ks, ls, rfl, hx, hy, fun _ => ?_, fun ne => absurd rfl ne⟩
      refine ⟨.ref x, rfl, .ref y, rfl, .ref l, rfl, [.ref x, .ref y, .ref l], rfl, rfl, .inl ⟨x, y, e, e2, l, wd, wd, xs, zs, ks, ls, ts, cs, rfl, hx, hy, ok1, ok2, few1, few2, hl, hp, ps, w32, w32, fun H1 s1 => ⟨_, rfl, iteT ?_⟩⟩⟩
      exact ⟨.ref x, rfl, .ref y, rfl, .ref l, rfl, x, y, e, e2, l, wd, xs, zs, ks, ls, ts, cs, rfl, hx.same s1, hy.same s1, ok1, ok2, few1, few2, s1 _ _ hl, hp.mono fun _ _ h => s1 _ _ h, ps, w1, w32, cnt, fun b H2 s2 h => q b H2 (s1.trans s2) h⟩
    · obtain ⟨x, y, e, e2, wd, xs, zs, ks, ls, cs, v, d, N, rfl, hx, hy, ok1, ok2, few1, few2, dr, sp, ps, q⟩ := hh
      refine ⟨.ref x, rfl, .ref y, rfl, x, y, e, e2, wd, wd, ks, ls, rfl, hx, hy, fun _ => ?_, fun ne => absurd rfl ne⟩
      exact ⟨.ref x, rfl, .ref y, rfl, v, rfl, [.ref x, .ref y, v], rfl, rfl, .inr ⟨x, y, e, e2, wd, wd, xs, zs, ks, ls, cs, v, d, N, rfl, hx, hy, ok1, ok2, few1, few2, dr, sp, ps, fun H1 s1 => ⟨_, rfl, iteF (q H1 s1)⟩⟩⟩
end

theorem atI_nat {α : Type} {xs : List α} {k : Nat} : atI xs (k : Int) = xs[k]? := by
  unfold atI ixN
  rw [if_pos (by omega)]
  by_cases h : k < xs.length
  · rw [if_pos (by omega)]
    show xs[((k : Int)).toNat]? = _
    rw [Int.toNat_natCast]
  · rw [if_neg (by omega), List.getElem?_eq_none (by omega)]
    rfl

theorem rows_sm {w : Nat} {xs : List Str} {kvs : List (Key × V)} (ok : RowsOk w isTgtV xs kvs) (w32 : w ≤ 32) : ∀ kv ∈ kvs, (∃ y, kv.1 = .inr y ∧ Sm 32 y) ∧ isTgtV kv.2 := fun kv hk => by
  obtain ⟨y, h1, h2, h3, h4⟩ := ok.acc.all kv hk
  refine ⟨⟨y, h1, Nat.le_trans h3 w32, fun c hc => ?_⟩, h4⟩
  rcases bits_iff.mp h2 c hc with e | e <;> omega
theorem tx_of {w : Nat} {xs : List Str} {kvs : List (Key × V)} (ok : RowsOk w isTgtV xs kvs) : ∃ es : List (Str × Str), kvs = txK es := by
  have all : ∀ kv ∈ kvs, ∃ e : Str × Str, kv = (.inr e.1, .str e.2) := fun kv hk => by
    obtain ⟨y, h1, _, _, h4⟩ := ok.acc.all kv hk
    obtain ⟨t, h5, _⟩ := tgt_sm h4
    exact ⟨(y, t), Prod.ext h1 h5⟩
  clear ok
  induction kvs with
  | nil => exact ⟨[], rfl⟩
  | cons kv r ih =>
    obtain ⟨es, e1⟩ := ih fun k hk => all k (List.mem_cons_of_mem _ hk)
    obtain ⟨e, e2⟩ := all kv List.mem_cons_self
    exact ⟨e :: es, by rw [e1, e2]; rfl⟩
theorem paired_zs {K : PySem.W.Frag} {H : Hp} : ∀ {zs : List (Addr × Str × Str)}, (∀ z ∈ zs, H z.1 = some (.tup [.str z.2.1, .str z.2.2])) → Paired (fun p (kv : Key × V) => SqT K H p [kV kv.1, kv.2]) (zs.map (·.1)) (txK (zs.map (·.2)))
  | [], _ => .nil
  | z :: zs, h => .cons (SqT.of (h z List.mem_cons_self)) (paired_zs fun y hy => h y (List.mem_cons_of_mem _ hy))
theorem tx_keys (es : List (Str × Str)) : (txK es).map (·.1) = (es.map (·.1)).map Sum.inr := by
  unfold txK
  rw [List.map_map, List.map_map]
  rfl
/-- the rows in their order, made again from pairs -/
theorem sorted_tx {w : Nat} {xs ys : List Str} {ks : List (Key × V)} {es fs : List (Str × Str)} (ok : RowsOk w isTgtV xs (txK es)) (hs : Sorted xs (txK es) ks ys) (p : fs.Perm es) (pw : fs.Pairwise fun a b => LeS a.1 b.1) : mergeK [] (txK fs) = ks := by
  have ex : es.map (·.1) = xs := by
    have e := ok.keys
    rw [tx_keys] at e
    exact List.map_inj_right (fun a b h => Sum.inr.inj h) |>.mp e
  have pf : (fs.map (·.1)).Perm xs := by rw [← ex]; exact p.map _
  have ndf : (fs.map (·.1)).Nodup := pf.nodup_iff.mpr ok.pfx.nd
  have ndk : ((txK fs).map (·.1)).Nodup := by rw [tx_keys]; exact ndf.map Sum.inr fun a b h e => h (Sum.inr.inj e)
  have em : mergeK [] (txK fs) = txK fs := by
    rw [mergeK_nd, List.nil_append]
    rw [List.nil_append]
    exact ndk
  rw [em]
  have upf : sortedS (fs.map (·.1)) = true := sortedS_of_pairwise _ (by
    rw [List.pairwise_map]
    refine pw.imp fun {a b} h => ?_
    rw [ltCps_eq]
    exact decide_eq_false (List.not_lt.mpr h))
  refine Sorted.uniq (xs := xs) (kvs := txK es) (ys1 := fs.map (·.1)) (ys2 := ys) ok.pfx.nd ⟨tx_keys fs, pf, upf, fun y hy => ?_⟩ hs
  rw [val_gV ok hy]
  have hm := val_gV ok hy
  obtain ⟨kv, hk, e1⟩ := List.mem_map.mp (valV_in hm)
  obtain ⟨f, hf, e2⟩ := List.mem_map.mp (show kv ∈ txK es from hk)
  have hv := valV_some ok.acc.nd (k := kv.1) (v := kv.2) hk
  rw [e1, hm] at hv
  have hf2 : ((.inr f.1 : Key), V.str f.2) ∈ txK fs := List.mem_map.mpr ⟨f, p.mem_iff.mpr hf, rfl⟩
  have h3 := valV_some ndk hf2
  have e3 : (Sum.inr f.1 : Key) = .inr y := by rw [← e1, ← e2]
  rw [e3] at h3
  rw [h3, hv, ← e2]
def spStays (C : Addr) : Sp := fun vs H Q _ => ∃ (x e d : Addr) (w : Nat) (xs ys : List Str) (kvs ks : List (Key × V)), vs = [.ref x, .int w, .ref d] ∧ MapAt C H x e w ks ∧ H d = some (.dK kvs) ∧ RowsOk w isTgtV xs kvs ∧ Sorted xs kvs ks ys ∧ xs.length ≤ 60 ∧ 1 ≤ w ∧ w ≤ 32 ∧ ∀ H', Same H H' → Q (.bl true) H'
abbrev sSt : Stmt := top 40
section
variable {P : Program} {w : World} {K : PySem.W.Frag} {mg : Str → Option Value} {base : Heap}
abbrev NSt : List Str := ["made", "size", "lines"]
theorem scSt : FnScope NSt ["made", "size", "lines"] (defScope sSt) := ⟨rfl, rfl, rfl, by decide +kernel, rfl, by decide +kernel, by decide +kernel⟩
set_option maxHeartbeats 8000000 in
theorem ok_St {f fR pR fT fEq CC : Addr} {fd fdR fdT fdEq : FuncData} {k : Nat} (F : Fun K "_law_stays" "_law_stays" sSt f fd) (sys : ∃ mm, base.Ns sysModules mm)
    (GR : FnOk P w K mg base CX0 k fR fdR ["self"] (spRows CC))
    (PR : PropOf K CC "rows" pR fR) (bR : Binds K fdR ["self"] [])
    (clC : Cls K CC)
    (m_repr : mg "repr" = none)
    (m_sorted : mg "sorted" = none)
    (m_dict : mg "dict" = none)
    (GT : FnOk P w K mg base CX0 k fT fdT ["self", "width", "rows"] (spInit K CC isTgtV))
    (MC : Mk K CC fT) (gC : mg "Table" = some (.ref CC))
    (bT : Binds K fdT ["self", "width", "rows"] [])
    (GEq : FnOk P w K mg base CX0 k fEq fdEq ["self", "other"] (spEqM CC))
    (OCC : ObjC K CC) (aEq : PySem.W.findIn K (.ref CC) "__eq__" = some (some (.ref fEq))) (iEq : PySem.W.isFn K (.ref fEq) = true) (bEq : Binds K fdEq ["self", "other"] [])
    : FnG P w K mg base (k + 2) f fd ["made", "size", "lines"] (spStays CC) := by
  refine okG F scSt (fun vs H Q E h => ?_) (fun cdv A outer s H vs Q g hr h => ?_)
  · obtain ⟨x, e, d, w, xs, ys, kvs, ks, rfl, _⟩ := h
    rfl
  · obtain ⟨x, e, d, w, xs, ys, kvs, ks, rfl, hx, hd, ok, hs, few, w1, w32, q⟩ := h
    have nd := scSt.nd
    have hu := hr.units
    have hu1 := hu_of hr
    have hr1 := hr.mono (Nat.le_succ k)
    refine ⟨_, pss_one (ps_ret (pe_and (pe_cmpR (op_eqI GEq hr1 aEq iEq bEq) (pv 0) (pe_make MC GT hr (by rfl) gC bT .nil pass0 (pa_cons (pv 1) (pa_cons (pv 2) pa_nil))) (nomark _)) (pe_one (pe_cmpR op_eq (pe_callB (call_repr g hu sys) (by rfl) m_repr (by decide +kernel) (pa_cons (pe_prop (pv 0) clC PR GR hr bR .nil pass0 rfl) pa_nil)) (pe_callB (call_repr g hu sys) (by rfl) m_repr (by decide +kernel) (pa_cons (pe_callTy (call_dictPn rfl) (by rfl) m_dict (by decide +kernel) (pa_cons (pe_callB (cr_sortIt2 rfl hu) (by rfl) m_sorted (by decide +kernel) (pa_cons (pe_bm0 PySem.F.plainAttrs_dict PySem.F.slot_dict_items PySem.F.type_dict_items mt_itemsK (pv 2)) pa_nil)) pa_nil)) pa_nil)) (nomark _))))), ?_⟩
    obtain ⟨es, rfl⟩ := tx_of ok
    obtain ⟨⟨dx, hx'⟩, _⟩ := id hx
    refine ⟨.ref x, rfl, .int w, rfl, .ref d, rfl, fun y dy ny ndy ney => ?_⟩
    refine ⟨y, dy, d, w, xs, txK es, rfl, upd_same, w1, w32, by rw [upd_ne (ne_of_none hd ny), upd_ne (ne_of_none hd ndy)]; exact hd, ok, by omega, fun e2 ys2 k2 H1 ne hs2 hm2 keep => ⟨rfl, ?_⟩⟩
    have s1 : Same H H1 := Same.made ny ndy keep
    obtain rfl := hs.uniq ok.pfx.nd hs2
    have ok1 := hs.rows ok
    have hm1 := hx.same s1
    obtain ⟨⟨dx1, hx1⟩, _⟩ := id hm1
    obtain ⟨⟨dy1, hy1⟩, _⟩ := id hm2
    have kn : (ks.map (·.1)).Nodup := ok1.acc.nd
    have flat : ∀ kv ∈ ks, flatB kv.2 = true := fun kv hk => by
      obtain ⟨t, e, _⟩ := tgt_sm (ok1.val kv hk)
      rw [e]
      rfl
    refine ⟨x, y, dx1, dy1, _, _, rfl, rfl, hx1, hy1, x, y, e, e2, w, ks, rfl, hm1, hm2, kn, flat, _, rfl, _, rfl, iteT ?_⟩
    obtain ⟨ds, hds, dl, okds⟩ := dr_rows (K := K) (H := H1) (N := fun _ => True) ks (rows_sm ok1 w32)
    have yl : ks.length ≤ 60 := by rw [← keys_len ok1.keys, hs.perm.length_eq]; exact few
    have okD : OkD 1 (60 * (322 + 82 + 4) + 2) (.dict ds) := OkD.dict (by omega) okds
    refine ⟨.ref x, rfl, x, dx1, _, rfl, hx1, x, e, w, ks, rfl, hm1, fun d1 nd1 => ?_⟩
    have s2 := same_upd (o := .dK ks) nd1
    refine ⟨.ref d1, .dict ds, fun _ => True, rfl, .dic trivial (.inl upd_same) (hds.move (fun a o _ q => s2 _ _ q) fun _ h => h), okD.sh, Nat.le_trans okD.dp (by decide), Nat.le_trans okD.ln (by decide), ?_⟩
    have hd2 := s2 _ _ (s1 _ _ hd)
    refine ⟨.ref d, rfl, .inr (.inr (.inl ⟨rfl, .inl ⟨_, hd2⟩⟩)), d, txK es, rfl, rfl, hd2, fun p np => ?_⟩
    have s3 := same_upd (o := DX.itemsO p d) np
    refine ⟨p, d, es, rfl, upd_same, s3 _ _ hd2, fun H3 l zs s4 nl hl pz pw hz => ?_⟩
    refine ⟨l, zs.map (·.1), txK (zs.map (·.2)), rfl, SqL.of (by rw [hl, List.map_map]; rfl), paired_zs (fun z hz' => (hz z hz').2), fun g ng => ?_⟩
    rw [sorted_tx ok hs pz (List.pairwise_map.mpr pw)]
    have s5 := same_upd (o := .dK ks) ng
    have s25 := s2.trans (s3.trans (s4.trans s5))
    refine ⟨.ref g, .dict ds, fun _ => True, rfl, .dic trivial (.inl upd_same) (hds.move (fun a o _ q => s25 _ _ q) fun _ h => h), okD.sh, Nat.le_trans okD.dp (by decide), Nat.le_trans okD.ln (by decide), rfl, ?_⟩
    rw [decide_eq_true rfl]
    exact q _ (s1.trans s25)
end
def csD (cs : List (Str × V)) : PyData := .list (cs.map fun c => .tuple [.str c.1, vD c.2])
theorem dr_cs {K : PySem.W.Frag} {H : Hp} : ∀ {ts : List Addr} {cs : List (Str × V)}, Paired (fun t (c : Str × V) => H t = some (.tup [.str c.1, c.2])) ts cs → (∀ c ∈ cs, c.2 = .non ∨ isTgtV c.2) → DrAll K H (fun _ => True) (ts.map V.ref) (cs.map fun c => .tuple [.str c.1, vD c.2])
  | _, _, .nil, _ => .nil
  | _, _, .cons (b := c) h t, q => by
    refine .cons (.tup trivial (SqT.of h) (.cons (.str _) (.cons ?_ .nil))) (dr_cs t fun c hc => q c (List.mem_cons_of_mem _ hc))
    rcases q c List.mem_cons_self with e | e
    · rw [e]; exact .non
    · obtain ⟨x, e2, _⟩ := tgt_sm e
      rw [e2]
      exact .str x
theorem ok_cs {cs : List (Str × V)} (hl : cs.length ≤ 200) (hk : ∀ c ∈ cs, Sm 32 c.1) (q : ∀ c ∈ cs, c.2 = .non ∨ isTgtV c.2) : OkD 2 (200 * (2 * (322 + 2) + 3 + 2) + 2) (csD cs) := by
  refine OkD.list (by rw [List.length_map]; exact hl) fun d hd => ?_
  obtain ⟨c, hc, rfl⟩ := List.mem_map.mp hd
  refine OkD.tuple (by show 2 ≤ 2; decide) fun d hd => ?_
  simp only [List.mem_cons, List.not_mem_nil, or_false] at hd
  rcases hd with rfl | rfl
  · exact (hk c hc).ok (by decide)
  · rcases q c hc with e | e
    · rw [e]; exact ⟨rfl, by decide, by decide +kernel⟩
    · obtain ⟨x, e2, sx⟩ := tgt_sm e
      rw [e2]
      exact sx.ok (by decide)

theorem prd_perm {α β : Type} {R : α → β → Prop} {as as' : List α} (p : as'.Perm as) : ∀ {bs : List β}, Paired R as bs → ∃ bs', Paired R as' bs' ∧ bs'.Perm bs := by
  induction p with
  | nil => exact fun h => ⟨_, h, .refl _⟩
  | cons x p ih =>
    intro bs h
    cases h with
    | cons h t =>
      obtain ⟨bs', h1, h2⟩ := ih t
      exact ⟨_, .cons h h1, h2.cons _⟩
  | swap x y l =>
    intro bs h
    cases h with
    | cons h t =>
      cases t with
      | cons h2 t => exact ⟨_, .cons h2 (.cons h t), .swap _ _ _⟩
  | trans p1 p2 ih1 ih2 =>
    intro bs h
    obtain ⟨b1, h1, q1⟩ := ih2 h
    obtain ⟨b2, h2, q2⟩ := ih1 h1
    exact ⟨b2, h2, q2.trans q1⟩
theorem bool_ok (b : Bool) : (PyData.bool b).showable = true ∧ (PyData.bool b).depth ≤ 60 ∧ (PyData.bool b).shown.length ≤ sizeLine := by
  cases b <;> exact ⟨rfl, by decide +kernel, by decide +kernel⟩
theorem bool_iff {a b : Bool} {p q : Prop} (h : a = true ↔ p) (h' : b = true ↔ q) (e : p ↔ q) : a = b := by
  rw [Bool.eq_iff_iff, h, h', e]
theorem cut_nat (xs : List V) (i j : Nat) (hi : i ≤ j) (hj : j ≤ xs.length) : cutV xs (some (i : Int)) (some (j : Int)) = (xs.drop i).take (j - i) := by
  unfold cutV
  rw [HT.sIx_nat, HT.sIx_nat, Nat.min_eq_left hj, Nat.min_eq_left (Nat.le_trans hi hj)]
theorem cut_to (xs : List V) (j : Nat) (hj : j ≤ xs.length) : cutV xs none (some (j : Int)) = xs.take j := by
  unfold cutV
  rw [HT.sIx_nat, HT.sIx_none, Nat.min_eq_left hj, List.drop_zero, Nat.sub_zero]

/-! ### lists that are no sequences -/
abbrev NN (p F : Addr) : Addr → Prop := fun a => a ≠ p ∧ a ≠ F
def ButF (p F : Addr) (H H' : Hp) : Prop := ∀ b o, b ≠ p → b ≠ F → H b = some o → H' b = some o
theorem ButF.of_same {p F : Addr} {H H' : Hp} (h : Same H H') : ButF p F H H' := fun b o _ _ e => h b o e
theorem ButF.of_but {p F : Addr} {H H' : Hp} (h : But p H H') : ButF p F H H' := fun b o n _ e => h b o n e
theorem ButF.trans {p F : Addr} {H H1 H2 : Hp} (h : ButF p F H H1) (h' : ButF p F H1 H2) : ButF p F H H2 := fun b o n m e => h' b o n m (h b o n m e)
theorem ButF.upd {p F : Addr} {H : Hp} {o : HO} : ButF p F H (upd H F o) := fun b o' _ m e => by rw [upd_ne m]; exact e
theorem ButF.refl {p F : Addr} {H : Hp} : ButF p F H H := fun _ _ _ _ e => e
structure ItAll (K : PySem.W.Frag) (p F : Addr) (H : Hp) (vs : List V) (ds : List PyData) : Prop where
  dr : DrAll K H (NN p F) vs ds
  ok : ∀ d ∈ ds, OkD 4 2000 d ∧ Nice d
theorem ItAll.move {K : PySem.W.Frag} {p F : Addr} {H H' : Hp} {vs : List V} {ds : List PyData} (b : ButF p F H H') (h : ItAll K p F H vs ds) : ItAll K p F H' vs ds := ⟨h.dr.move (fun a o n e => b a o n.1 n.2 e) fun _ q => q, h.ok⟩
theorem drAll_app {K : PySem.W.Frag} {H : Hp} {N : Addr → Prop} : ∀ {vs ws : List V} {ds es : List PyData}, DrAll K H N vs ds → DrAll K H N ws es → DrAll K H N (vs ++ ws) (ds ++ es)
  | _, _, _, _, .nil, h => h
  | _, _, _, _, .cons a t, h => .cons a (drAll_app t h)
theorem drAll_take {K : PySem.W.Frag} {H : Hp} {N : Addr → Prop} : ∀ {vs : List V} {ds : List PyData} (i : Nat), DrAll K H N vs ds → DrAll K H N (vs.take i) (ds.take i)
  | _, _, 0, _ => by rw [List.take_zero, List.take_zero]; exact .nil
  | _, _, _ + 1, .nil => .nil
  | _, _, i + 1, .cons a t => .cons a (drAll_take i t)
theorem drAll_drop {K : PySem.W.Frag} {H : Hp} {N : Addr → Prop} : ∀ {vs : List V} {ds : List PyData} (i : Nat), DrAll K H N vs ds → DrAll K H N (vs.drop i) (ds.drop i)
  | _, _, 0, h => h
  | _, _, _ + 1, .nil => .nil
  | _, _, i + 1, .cons _ t => drAll_drop i t
theorem ItAll.app {K : PySem.W.Frag} {p F : Addr} {H : Hp} {vs ws : List V} {ds es : List PyData} (h : ItAll K p F H vs ds) (h' : ItAll K p F H ws es) : ItAll K p F H (vs ++ ws) (ds ++ es) := ⟨drAll_app h.dr h'.dr, fun d hd => (List.mem_append.mp hd).elim (h.ok d) (h'.ok d)⟩
theorem ItAll.take {K : PySem.W.Frag} {p F : Addr} {H : Hp} {vs : List V} {ds : List PyData} (h : ItAll K p F H vs ds) (i : Nat) : ItAll K p F H (vs.take i) (ds.take i) := ⟨drAll_take i h.dr, fun d hd => h.ok d (List.mem_of_mem_take hd)⟩
theorem ItAll.drop {K : PySem.W.Frag} {p F : Addr} {H : Hp} {vs : List V} {ds : List PyData} (h : ItAll K p F H vs ds) (i : Nat) : ItAll K p F H (vs.drop i) (ds.drop i) := ⟨drAll_drop i h.dr, fun d hd => h.ok d (List.mem_of_mem_drop hd)⟩
theorem ItAll.one {K : PySem.W.Frag} {p F : Addr} {H : Hp} {v : V} {d : PyData} (h : Dr K H (NN p F) v d) (ok : OkD 4 2000 d) (nc : Nice d) : ItAll K p F H [v] [d] := ⟨.cons h .nil, fun x hx => by rw [List.mem_singleton.mp hx]; exact ⟨ok, nc⟩⟩
theorem ItAll.get {K : PySem.W.Frag} {p F : Addr} {H : Hp} {vs : List V} {ds : List PyData} (h : ItAll K p F H vs ds) {v : V} (hv : v ∈ vs) : ∃ d ∈ ds, ItAll K p F H [v] [d] := by
  obtain ⟨i, hi⟩ := List.mem_iff_getElem?.mp hv
  obtain ⟨d, hd, hdr⟩ := DrAll.get h.dr hi
  have dm := List.mem_of_getElem? hd
  exact ⟨d, dm, .one hdr (h.ok d dm).1 (h.ok d dm).2⟩
def ItS (K : PySem.W.Frag) (p F : Addr) (H : Hp) (cs : List (Str × V)) (v : V) : Prop := ∃ d, Dr K H (NN p F) v d ∧ OkD 5 150000 d ∧ Spoilt cs d
theorem ItS.move {K : PySem.W.Frag} {p F : Addr} {H H' : Hp} {cs : List (Str × V)} {v : V} (b : ButF p F H H') (h : ItS K p F H cs v) : ItS K p F H' cs v := by
  obtain ⟨d, h1, h2⟩ := h
  exact ⟨d, h1.move (fun a o n e => b a o n.1 n.2 e) (fun _ q => q), h2⟩
theorem ItAll.spoilt {K : PySem.W.Frag} {p F R : Addr} {H : Hp} {cs : List (Str × V)} {vs : List V} {ds : List PyData} (h : ItAll K p F H vs ds) (hR : H R = some (.lst vs)) (nR : NN p F R) (len : ds.length ≤ 70) (alt : ds.length ≠ cs.length ∨ (∃ x ∈ ds, ¬ StepOk cs x) ∨ ∃ c ∈ cs, ∀ x ∈ ds, ∀ t, x ≠ .tuple [.str c.1, t]) : ItS K p F H cs (.ref R) :=
  ⟨.list ds, .lst nR (SqL.of hR) h.dr, (OkD.list len fun d hd => (h.ok d hd).1).mono (by decide) (by decide), .inr ⟨ds, rfl, fun d hd => (h.ok d hd).2, by omega, alt⟩⟩
def cD (c : Str × V) : PyData := .tuple [.str c.1, vD c.2]
/-- texts and none, as targets and names -/
def VT (v : V) : Prop := v = .non ∨ ∃ s, v = .str s ∧ Sm 60 s
theorem VT.dr {K : PySem.W.Frag} {H : Hp} {N : Addr → Prop} {v : V} (h : VT v) : Dr K H N v (vD v) := by
  rcases h with rfl | ⟨s, rfl, _⟩
  · exact .non
  · exact .str s
theorem VT.ok {v : V} (h : VT v) : OkD 0 602 (vD v) := by
  rcases h with rfl | ⟨s, rfl, sm⟩
  · exact ⟨by decide +kernel, by decide +kernel, by decide +kernel⟩
  · exact sm.ok (by decide)
theorem VT.sh {v : V} (h : VT v) : SeqAt.shaped (vD v) = true := by
  rcases h with rfl | ⟨s, rfl, sm⟩
  · rfl
  · exact shaped_str1 sm
theorem VT.of {v : V} (h : v = .non ∨ isTgtV v) : VT v := by
  rcases h with h | h
  · exact .inl h
  · obtain ⟨s, e, sm⟩ := tgt_sm h
    exact .inr ⟨s, e, sm.mono (by decide)⟩
theorem nice_pair {x : PyData} {t : PyData} (h : SeqAt.shaped t = true) : Nice (.tuple [x, t]) := fun p t' e => by
  injection e with e
  injection e with e1 e2
  injection e2 with e2
  rw [← e2]
  exact .inl h
theorem pair_ok {s : Str} {v : V} (hs : Sm 40 s) (hv : VT v) : OkD 4 2000 (.tuple [.str s, vD v]) := by
  have a1 : OkD 0 402 (.str s) := hs.ok (by decide)
  have a2 := hv.ok
  refine (OkD.tuple (L := 0) (B := 602) (n := 2) (Nat.le_refl _) fun d hd => ?_).mono (by decide) (by decide)
  simp only [List.mem_cons, List.not_mem_nil, or_false] at hd
  rcases hd with rfl | rfl
  · exact a1.mono (by decide) (by decide)
  · exact a2

theorem zs_ok : ∀ z : Fin 33, MulOk "0" ((z.val : Nat) : Int) ∧ (Txt.mul "0" ((z.val : Nat) : Int)).length ≤ 32 ∧ (sg (Txt.mul "0" ((z.val : Nat) : Int))).all (fun c => decide (c < 128)) = true := by unfold MulOk; decide +kernel
theorem zs_sm {z : Nat} (h : z ≤ 32) : MulOk "0" (z : Int) ∧ Sm 32 (Txt.mul "0" (z : Int)) := by
  obtain ⟨h1, h2, h3⟩ := zs_ok ⟨z, by omega⟩
  exact ⟨h1, h2, fun c hc => of_decide_eq_true (List.all_eq_true.mp h3 c hc)⟩
structure Gd (K : PySem.W.Frag) (p F : Addr) (H : Hp) (ts : List Addr) (cs : List (Str × V)) : Prop where
  pr : Paired (fun t (c : Str × V) => H t = some (.tup [.str c.1, c.2])) ts cs
  ne : ∀ t ∈ ts, NN p F t
theorem Gd.move {K : PySem.W.Frag} {p F : Addr} {H H' : Hp} {ts : List Addr} {cs : List (Str × V)} (b : ButF p F H H') (h : Gd K p F H ts cs) : Gd K p F H' ts cs := by
  obtain ⟨pr, ne⟩ := h
  refine ⟨?_, ne⟩
  induction pr with
  | nil => exact .nil
  | cons h t ih => exact .cons (b _ _ (ne _ List.mem_cons_self).1 (ne _ List.mem_cons_self).2 h) (ih fun t ht => ne t (List.mem_cons_of_mem _ ht))
theorem Gd.all {K : PySem.W.Frag} {p F : Addr} {H : Hp} {ts : List Addr} {cs : List (Str × V)} (h : Gd K p F H ts cs) (cv : ∀ c ∈ cs, Sm 32 c.1 ∧ VT c.2) : ItAll K p F H (ts.map V.ref) (cs.map cD) := by
  obtain ⟨pr, ne⟩ := h
  refine ⟨?_, fun d hd => ?_⟩
  · induction pr with
    | nil => exact .nil
    | cons h t ih => exact .cons (.tup (ne _ List.mem_cons_self) (SqT.of h) (.cons (.str _) (.cons (cv _ List.mem_cons_self).2.dr .nil))) (ih (fun c hc => cv c (List.mem_cons_of_mem _ hc)) fun t ht => ne t (List.mem_cons_of_mem _ ht))
  · obtain ⟨c, hc, rfl⟩ := List.mem_map.mp hd
    exact ⟨pair_ok ((cv c hc).1.mono (by decide)) (cv c hc).2, nice_pair (cv c hc).2.sh⟩
theorem gd_at {K : PySem.W.Frag} {p F : Addr} {H H' : Hp} {ts : List Addr} {cs : List (Str × V)} (b : But p H H') (F0 : H F = none) (tp : ∀ t ∈ ts, t ≠ p) (h : Paired (fun t (c : Str × V) => H t = some (.tup [.str c.1, c.2])) ts cs) : Gd K p F H' ts cs := by
  refine ⟨?_, ?_⟩
  · induction h with
    | nil => exact .nil
    | cons h t ih => exact .cons (b _ _ (tp _ List.mem_cons_self) h) (ih fun t ht => tp t (List.mem_cons_of_mem _ ht))
  · induction h with
    | nil => exact fun _ h => absurd h List.not_mem_nil
    | cons h t ih =>
      intro u hu
      rcases List.mem_cons.mp hu with rfl | hu
      · exact ⟨tp _ List.mem_cons_self, ne_of_none h F0⟩
      · exact ih (fun t ht => tp t (List.mem_cons_of_mem _ ht)) u hu
theorem ItAll.pair {K : PySem.W.Frag} {p F T : Addr} {H : Hp} {s : Str} {v : V} (hT : H T = some (.tup [.str s, v])) (nT : NN p F T) (hs : Sm 40 s) (hv : VT v) : ItAll K p F H [.ref T] [.tuple [.str s, vD v]] := .one (.tup nT (SqT.of hT) (.cons (.str _) (.cons hv.dr .nil))) (pair_ok hs hv) (nice_pair hv.sh)
theorem smD {x : Str} (h : (decide (x.length ≤ 40) && (sg x).all fun c => decide (c < 128)) = true) : Sm 40 x := by
  rw [Bool.and_eq_true, decide_eq_true_iff, List.all_eq_true] at h
  exact ⟨h.1, fun c hc => of_decide_eq_true (h.2 c hc)⟩
theorem vtS {x : Str} (h : (decide (x.length ≤ 40) && (sg x).all fun c => decide (c < 128)) = true) : VT (.str x) := .inr ⟨x, rfl, (smD h).mono (by decide)⟩
structure SpSt (K : PySem.W.Frag) (p c F : Addr) (H H' : Hp) (cs : List (Str × V)) (fs : List V) (n : Nat) (m : List V) : Prop where
  b : But p H H'
  hF : H' F = some (.lst fs)
  fok : ∀ v ∈ fs, ItS K p F H' cs v
  pn : Pen H' p c n m
section
variable {K : PySem.W.Frag} {p c F : Addr} {H H1 H2 : Hp} {cs : List (Str × V)} {fs m : List V} {n n' : Nat}
theorem SpSt.same (h : SpSt K p c F H H1 cs fs n m) (s : Same H1 H2) : SpSt K p c F H H2 cs fs n m := ⟨h.b.trans (.of_same s), s _ _ h.hF, fun v hv => (h.fok v hv).move (.of_same s), h.pn.keep s⟩
theorem SpSt.draw (h : SpSt K p c F H H1 cs fs n m) (Fp : F ≠ p) (b : But p H1 H2) (pn : Pen H2 p c n' m) : SpSt K p c F H H2 cs fs n' m := ⟨h.b.trans b, b _ _ Fp h.hF, fun v hv => (h.fok v hv).move (.of_but b), pn⟩
theorem SpSt.push (h : SpSt K p c F H H1 cs fs n m) (F0 : H F = none) (Fp : F ≠ p) (Fc : F ≠ c) {v : V} (hv : ItS K p F H1 cs v) : SpSt K p c F H (upd H1 F (.lst (fs ++ [v]))) cs (fs ++ [v]) n m := ⟨fun b o nb e => by
  rw [upd_ne (ne_of_none e F0)]
  exact h.b b o nb e, upd_same, fun u hu => by
  rcases List.mem_append.mp hu with hu | hu
  · exact (h.fok u hu).move .upd
  · rw [List.mem_singleton.mp hu]
    exact hv.move .upd, h.pn.off Fp Fc⟩
theorem SpSt.nn (h : SpSt K p c F H H1 cs fs n m) {X : Addr} (nX : H1 X = none) : NN p F X := ⟨h.pn.ne_p nX, (ne_of_none h.hF nX).symm⟩
theorem SpSt.mono (h : SpSt K p c F H H1 cs fs n m) (q : n ≤ n') : SpSt K p c F H H1 cs fs n' m := ⟨h.b, h.hF, h.fok, h.pn.mono q⟩
end
theorem itAll_pairs {K : PySem.W.Frag} {p F : Addr} {H : Hp} {f : Str → V} {us : List Addr} {ys : List Str} (h : Paired (fun t u => H t = some (.tup [.str u, f u]) ∧ NN p F t) us ys) (hs : ∀ u ∈ ys, Sm 40 u ∧ VT (f u)) : ItAll K p F H (us.map V.ref) (ys.map fun u => .tuple [.str u, vD (f u)]) := by
  induction h with
  | nil => exact ⟨.nil, fun _ h => absurd h List.not_mem_nil⟩
  | @cons t u us ys h _ ih =>
    obtain ⟨h1, h2⟩ := hs u List.mem_cons_self
    exact (ItAll.pair h.1 h.2 h1 h2).app (ih fun w hw => hs w (List.mem_cons_of_mem _ hw))
theorem not_step {cs : List (Str × V)} {u : Str} {t : PyData} (h : u ∉ cs.map (·.1)) : ¬ StepOk cs (.tuple [.str u, t]) := by
  rintro ⟨cc, hc, t', e, _⟩
  injection e with e
  injection e with e1 e2
  injection e1 with e1
  exact h (List.mem_map.mpr ⟨cc, hc, e1.symm⟩)
theorem cutV_mem {xs : List V} {lo hi : Option Int} {v : V} (h : v ∈ cutV xs lo hi) : v ∈ xs := List.mem_of_mem_drop (List.mem_of_mem_take h)
theorem cut_from (xs : List V) (j : Nat) : cutV xs (some (j : Int)) none = xs.drop j := by
  unfold cutV
  rw [HT.sIx_nat, HT.sIx_none]
  by_cases h : j ≤ xs.length
  · rw [Nat.min_eq_left h]
    exact List.take_of_length_le (by rw [List.length_drop]; exact Nat.le_refl _)
  · rw [Nat.min_eq_right (by omega), List.drop_of_length_le (Nat.le_refl _), List.drop_of_length_le (by omega), List.take_nil]
theorem cut_mid (xs : List V) (i j : Nat) (hi : i ≤ xs.length) : cutV xs (some (i : Int)) (some (j : Int)) = (xs.drop i).take (j - i) := by
  unfold cutV
  rw [HT.sIx_nat, HT.sIx_nat, Nat.min_eq_left hi]
  by_cases h : j ≤ xs.length
  · rw [Nat.min_eq_left h]
  · rw [Nat.min_eq_right (by omega), List.take_of_length_le (by rw [List.length_drop]; exact Nat.le_refl _), List.take_of_length_le (by rw [List.length_drop]; omega)]
theorem len_mid {cs : List (Str × V)} {es : List PyData} {j : Nat} : ((cs.map cD).take j ++ es ++ (cs.map cD).drop j).length = cs.length + es.length := by
  rw [List.length_append, List.length_append, List.length_take, List.length_drop, List.length_map]
  omega
theorem SpSt.ga {K : PySem.W.Frag} {p c F : Addr} {H H1 : Hp} {ts : List Addr} {cs : List (Str × V)} {fs m : List V} {n : Nat} (h : SpSt K p c F H H1 cs fs n m) (F0 : H F = none) (tp : ∀ t ∈ ts, t ≠ p) (hp : Paired (fun t (c : Str × V) => H t = some (.tup [.str c.1, c.2])) ts cs) (cv : ∀ c ∈ cs, Sm 32 c.1 ∧ VT c.2) : ItAll K p F H1 (ts.map V.ref) (cs.map cD) := (gd_at h.b F0 tp hp).all cv
theorem eqv_cs {cs : List (Str × V)} : PyData.eqv (.list (cs.map cD)) (.list []) = decide (cs = []) := by
  cases cs with
  | nil => rfl
  | cons c r => rfl
theorem shaped_cs {K : PySem.W.Frag} {p F : Addr} {H : Hp} {vs : List V} {cs : List (Str × V)} (h : ItAll K p F H vs (cs.map cD)) (cv : ∀ c ∈ cs, Sm 32 c.1 ∧ VT c.2) : SeqAt.shaped (.list (cs.map cD)) = true := by
  have lay : ∀ l : List (Str × V), (∀ c ∈ l, Sm 32 c.1 ∧ VT c.2) → PyData.canLayAll0 (l.map cD) = true := fun l => by
    induction l with
    | nil => exact fun _ => rfl
    | cons c r ih =>
      intro hc
      obtain ⟨h1, h2⟩ := hc c List.mem_cons_self
      simp only [List.map_cons, cD, PyData.canLayAll0, PyData.canLay0, Bool.and_eq_true]
      exact ⟨⟨by have := lay_sm1 h1; simpa only [PyData.canLay0] using this, shaped_lay h2.sh, trivial⟩, ih fun c hc' => hc c (List.mem_cons_of_mem _ hc')⟩
  unfold SeqAt.shaped
  rw [Bool.and_eq_true]
  refine ⟨by simp only [PyData.canLay0]; exact lay cs cv, decide_eq_true ?_⟩
  have := depthAll_le (L := 4) (ds := cs.map cD) fun d hd => (h.ok d hd).1.dp
  simp only [PyData.depth]
  omega
/-- a thing that stands in a change's place -/
def Thing (K : PySem.W.Frag) (p F : Addr) (H : Hp) (cs : List (Str × V)) (cc : Str × V) (v : V) : Prop := ∃ d, ItAll K p F H [v] [d] ∧ (¬ StepOk cs d ∨ ∀ t, d ≠ .tuple [.str cc.1, t])
theorem Thing.move {K : PySem.W.Frag} {p F : Addr} {H H' : Hp} {cs : List (Str × V)} {cc : Str × V} {v : V} (b : ButF p F H H') (h : Thing K p F H cs cc v) : Thing K p F H' cs cc v := by
  obtain ⟨d, h1, h2⟩ := h
  exact ⟨d, h1.move b, h2⟩
section
variable {K : PySem.W.Frag} {p F : Addr} {H : Hp} {cs : List (Str × V)} {cc : Str × V} {v : V} {d t : PyData} {s : Str}
theorem Thing.plain (dr : Dr K H (NN p F) v d) (ok : OkD 4 2000 d) (h : ∀ s t, d ≠ .tuple [.str s, t]) : Thing K p F H cs cc v := ⟨d, .one dr ok fun s t e => absurd e (h s t), .inl fun ⟨c, _, t, e, _⟩ => h c.1 t e⟩
theorem Thing.pair (dr : Dr K H (NN p F) v (.tuple [.str s, t])) (ok : OkD 4 2000 (.tuple [.str s, t])) (sh : SeqAt.shaped t = true ∨ ∃ e, t = .dict e) (h : ¬ StepOk cs (.tuple [.str s, t])) : Thing K p F H cs cc v := ⟨_, .one dr ok fun s' t' e => by
  injection e with e
  injection e with e1 e2
  injection e2 with e2
  rw [← e2]
  exact sh, .inl h⟩
theorem step_at (nd : (cs.map (·.1)).Nodup) (hc : cc ∈ cs) (h : PyData.eqv t (vD cc.2) = false) : ¬ StepOk cs (.tuple [.str cc.1, t]) := by
  rintro ⟨c, hm, t', e, he⟩
  injection e with e
  injection e with e1 e2
  injection e1 with e1
  injection e2 with e2
  have ec : c = cc := by
    obtain ⟨i, hi⟩ := List.mem_iff_getElem?.mp hm
    obtain ⟨j, hj⟩ := List.mem_iff_getElem?.mp hc
    obtain ⟨il, ei⟩ := List.getElem?_eq_some_iff.mp hi
    obtain ⟨jl, ej⟩ := List.getElem?_eq_some_iff.mp hj
    have : i = j := (List.getElem_inj (h₀ := by rw [List.length_map]; exact il) (h₁ := by rw [List.length_map]; exact jl) nd).mp (by rw [List.getElem_map, List.getElem_map, ei, ej, e1])
    subst this
    rw [← ei, ← ej]
  rw [ec, ← e2] at he
  rw [h] at he
  cases he
theorem ok3 {ds : List PyData} (hl : ds.length ≤ 3) (h : ∀ d ∈ ds, OkD 2 610 d) : OkD 4 2000 (.tuple ds) := (OkD.tuple hl h).mono (by decide) (by decide)
theorem ok3l {ds : List PyData} (hl : ds.length ≤ 3) (h : ∀ d ∈ ds, OkD 2 610 d) : OkD 4 2000 (.list ds) := (OkD.list hl h).mono (by decide) (by decide)
end
theorem ok_two {a b : PyData} {L B : Nat} (h1 : OkD L B a) (h2 : OkD L B b) : ∀ d ∈ [a, b], OkD L B d := fun d hd => by
  simp only [List.mem_cons, List.not_mem_nil, or_false] at hd
  rcases hd with rfl | rfl
  · exact h1
  · exact h2
theorem ok_one {a : PyData} {L B : Nat} (h1 : OkD L B a) : ∀ d ∈ [a], OkD L B d := fun d hd => by
  rw [List.mem_singleton.mp hd]
  exact h1
theorem gV_or4 {w : Nat} {xs : List Str} {kvs : List (Key × V)} (ok : RowsOk w isTgt4 xs kvs) (u : Str) : gV kvs u = .non ∨ isTgt4 (gV kvs u) := by
  unfold gV
  cases e : valV kvs (.inr u) with
  | none => exact .inl rfl
  | some v =>
    obtain ⟨kv, hk, ek⟩ := List.mem_map.mp (valV_mem.mp (by rw [e]; rfl))
    have := valV_some ok.acc.nd (k := kv.1) (v := kv.2) hk
    rw [ek, e] at this
    have ev : v = kv.2 := Option.some.inj this
    rw [ev]
    exact .inr (ok.val _ hk)
def Alt (cs : List (Str × V)) (ds : List PyData) : Prop := ds.length ≠ cs.length ∨ (∃ x ∈ ds, ¬ StepOk cs x) ∨ ∃ c ∈ cs, ∀ x ∈ ds, ∀ t, x ≠ .tuple [.str c.1, t]
def Rec (K : PySem.W.Frag) (p F D : Addr) (Hb H' : Hp) (cs : List (Str × V)) (v : V) : Prop := ∃ R vs ds, v = .ref R ∧ R ≠ D ∧ NN p F R ∧ H' R = some (.lst vs) ∧ ItAll K p F Hb vs ds ∧ ds.length ≤ 70 ∧ Alt cs ds
theorem Rec.move {K : PySem.W.Frag} {p F D : Addr} {Hb H1 H2 : Hp} {cs : List (Str × V)} {v : V} (k : ∀ b o, b ≠ D → H1 b = some o → H2 b = some o) (h : Rec K p F D Hb H1 cs v) : Rec K p F D Hb H2 cs v := by
  obtain ⟨R, vs, ds, e, n, nn, hR, r⟩ := h
  exact ⟨R, vs, ds, e, n, nn, k _ _ n hR, r⟩
theorem Rec.done {K : PySem.W.Frag} {p F D : Addr} {Hb H1 : Hp} {cs : List (Str × V)} {v : V} (s : Same Hb H1) (h : Rec K p F D Hb H1 cs v) : ItS K p F H1 cs v := by
  obtain ⟨R, vs, ds, rfl, n, nn, hR, it, l, alt⟩ := h
  exact (it.move (.of_same s)).spoilt hR nn l alt
theorem rest_ne {cs : List (Str × V)} {cc : Str × V} {s : Nat} (nd : (cs.map (·.1)).Nodup) (hcc : cs[s]? = some cc) : ∀ d ∈ (cs.map cD).take s ++ (cs.map cD).drop (s + 1), ∃ c', d = cD c' ∧ c'.1 ≠ cc.1 := fun d hd => by
  obtain ⟨sl, es⟩ := List.getElem?_eq_some_iff.mp hcc
  have key : ∀ i, i ≠ s → ∀ (h : i < cs.length), (cs[i]).1 ≠ cc.1 := fun i ne h e => by
    have : i = s := (List.getElem_inj (h₀ := by rw [List.length_map]; exact h) (h₁ := by rw [List.length_map]; exact sl) nd).mp (by rw [List.getElem_map, List.getElem_map, es, e])
    exact ne this
  rcases List.mem_append.mp hd with h | h
  · obtain ⟨i, hi, e⟩ := List.mem_take_iff_getElem.mp h
    rw [List.length_map] at hi
    refine ⟨cs[i]'(by omega), ?_, key i (by omega) (by omega)⟩
    rw [← e, List.getElem_map]
  · obtain ⟨i, hi, e⟩ := List.mem_iff_getElem.mp h
    rw [List.length_drop, List.length_map] at hi
    refine ⟨cs[s + 1 + i]'(by omega), ?_, key _ (by omega) (by omega)⟩
    rw [← e, List.getElem_drop, List.getElem_map]
theorem cD_ne {c' : Str × V} {cc : Str × V} (h : c'.1 ≠ cc.1) (t : PyData) : cD c' ≠ .tuple [.str cc.1, t] := fun e => by
  unfold cD at e
  injection e with e
  injection e with e1 e2
  injection e1 with e1
  exact h e1
theorem ItAll.th {K : PySem.W.Frag} {p F : Addr} {H : Hp} {vs : List V} {ds : List PyData} {cs : List (Str × V)} {cc : Str × V} (h : ItAll K p F H vs ds) (q : ∀ d ∈ ds, ¬ StepOk cs d ∨ ∀ t, d ≠ .tuple [.str cc.1, t]) {v : V} (hv : v ∈ vs) : Thing K p F H cs cc v := by
  obtain ⟨d, dm, it⟩ := h.get hv
  exact ⟨d, it, q d dm⟩
theorem len_ins {ts : List Addr} {cs : List (Str × V)} {n : Nat} (tl : ts.length = cs.length) (h : n ≠ 0) (es : List PyData) (he : es.length = n) : (cs.map cD ++ es).length ≠ cs.length := by
  rw [List.length_append, List.length_map]
  omega
def spSp (K : PySem.W.Frag) : Sp := fun vs H Q _ => ∃ (p c g a b : Addr) (n z : Nat) (m : List V) (xs zs : List Str) (ks ls : List (Key × V)) (ts : List Addr) (cs : List (Str × V)), vs = [.ref p, .int z, .ref g, .ref a, .ref b] ∧ Pen H p c n m ∧ n + 200 ≤ PB ∧ z ≤ 32 ∧ H a = some (.dK ks) ∧ H b = some (.dK ls) ∧ RowsOk z isTgt4 xs ks ∧ RowsOk z isTgt4 zs ls ∧ xs.length ≤ 20 ∧ zs.length ≤ 30 ∧ H g = some (.lst (ts.map V.ref)) ∧ g ≠ p ∧ Paired (fun t (c : Str × V) => H t = some (.tup [.str c.1, c.2])) ts cs ∧ (∀ t ∈ ts, t ≠ p) ∧ PermSeq ks ls cs ∧ cs.length ≤ 60 ∧
  ∀ (R : Addr) (vs' : List V) (H' : Hp), But p H H' → H R = none → H' R = some (.lst vs') → vs'.length ≤ 300 → (∀ v ∈ vs', ∃ d, Dr K H' (fun a => a ≠ p) v d ∧ OkD 5 150000 d ∧ Spoilt cs d) → Pen H' p c (n + 100) m → Q (.ref R) H'
abbrev sSp : Stmt := top 41
section
variable {P : Program} {w : World} {K : PySem.W.Frag} {mg : Str → Option Value} {base : Heap}
abbrev NSp : List Str := ["pen", "size", "good", "one", "two", "bits", "found", "changed", "step", "same", "prefix", "gone", "spot", "other", "name", "odd", "early", "rest", "thing"]
theorem scSp : FnScope NSp ["pen", "size", "good", "one", "two"] (defScope sSp) := ⟨rfl, rfl, rfl, by decide +kernel, rfl, by decide +kernel, by decide +kernel⟩
set_option maxHeartbeats 8000000 in
theorem ok_Sp {f fDr : Addr} {fd fdDr : FuncData} {k : Nat} (F : Fun K "_law_spoiled" "_law_spoiled" sSp f fd)
    (m_len : mg "len" = none)
    (GDr : FnOk P w K mg base CX0 k fDr fdDr ["pen", "below"] spDraw)
    (FDr : Fun K "_law_draw" "_law_draw" sDr fDr fdDr) (bDr : Binds K fdDr ["pen", "below"] []) (gDr : mg "_law_draw" = some (.ref fDr))
    : FnOk P w K mg base CX0 (k + 1) f fd ["pen", "size", "good", "one", "two"] ((spSp K)) := by
  refine F.ok scSp (fun vs H Q E h => ?_) (fun cdv A outer s H vs Q E hr h => ?_)
  · obtain ⟨p, c, g, a, b, n, z, m, xs, zs, ks, ls, ts, cs, rfl, _⟩ := h
    rfl
  · obtain ⟨p, c, g, a, b, n, z, m, xs, zs, ks, ls, ts, cs, rfl, hp0, hn, hz, ha, hb, ok1, ok2, few1, few2, hg, gp, hp, tp, ps, cfew, q⟩ := h
    have nd := scSp.nd
    have hu := hr.units
    have hu1 := hu_of hr
    have hr1 := hr
    refine ⟨_, pss_cons (ps_set (i := 5) nd rfl (.inl rfl) (pe_op op_mulS pe_str (pv 1)))
      (C8.pss_cut (ps_set (i := 6) nd rfl (.inl rfl) (pe_lst (pa_cons (pe_op op_cat (pv 2) (pe_op op_rep (pe_lst (pa_cons (pe_tup (pa_cons pe_str (pa_cons pe_non pa_nil))) pa_nil)) pe_int)) (pa_cons (pe_op op_cat (pv 2) (pe_lst (pa_cons (pe_tup (pa_cons (pe_op op_add_str (pv 5) pe_str) (pa_cons pe_str pa_nil))) pa_nil))) (pa_cons (pe_op op_cat (pv 2) (pe_lst (pa_cons (pe_tup (pa_cons pe_str (pa_cons pe_str pa_nil))) pa_nil))) (pa_cons (pe_op op_cat (pv 2) (pe_lst (pa_cons (pe_tup (pa_cons pe_str (pa_cons pe_non pa_nil))) pa_nil))) pa_nil))))))
      (C8.pss_cut (ps_set (i := 7) nd rfl (.inr rfl) (pe_lc (own := [("step", 8)]) (g := gName 8) (tt := tYes) rfl nd (pi_list (pv 2)) (blkOk_by (N := NSp) (sc := defScope sSp) (by decide +kernel)) (fun _ _ _ _ _ => pg_name (i := 8) nd rfl (.inl rfl)) (fun _ _ _ _ _ => pts_nil) (fun _ _ _ _ _ => (pe_ix (r := rIxT K) ix_tup (pv 8) pe_int (fun _ _ => rfl)))))
      (C8.pss_cut (ps_lock (ps_setLc (i := 9) (own := [("prefix", 10)]) (g := gName 10) rfl nd rfl rfl (sw_true rfl rfl rfl (by decide +kernel)) (pi_keys (pv 3)) (blkOk_by (N := NSp) (sc := defScope sSp) (by decide +kernel)) (fun _ _ _ _ _ => pg_name (i := 10) nd rfl (.inl rfl)) (fun _ _ _ _ _ => pts_one (pt_cmpR (r := rIn K true) op_notIn_seq (pv 10) (pv 7) (by rfl))) (fun _ _ _ _ _ => (pe_tup (pa_cons (pv 10) (pa_cons (pe_dget hu1 (pv 3) (pv 10) (fun _ _ => rfl)) pa_nil))))))
      (C8.pss_cut (ps_setLc (i := 11) (own := [("prefix", 10)]) (g := gName 10) rfl nd rfl rfl (sw_true rfl rfl rfl (by decide +kernel)) (pi_list (pe_lst (pa_cons (pv 5) (pa_cons pe_str pa_nil)))) (blkOk_by (N := NSp) (sc := defScope sSp) (by decide +kernel)) (fun _ _ _ _ _ => pg_name (i := 10) nd rfl (.inl rfl)) (fun _ _ _ _ _ => pts_one (PW.pt (pw_and (pt_cmp (pc_dnotin hu1 (pv 10) (pv 3))) (pw_and1 (pt_cmpR (r := rIn K true) op_notIn_seq (pv 10) (pv 7) (by rfl)))))) (fun _ _ _ _ _ => (pe_tup (pa_cons (pv 10) (pa_cons pe_non pa_nil)))))
      (C8.pss_cut (ps_for PassesOwn.never rfl (pi_list (pe_op op_cat (pe_slice sl_list (pv 9) po_none (po_some pe_int)) (pe_slice sl_list (pv 11) po_none (po_some pe_int)))) (pg_name (i := 8) nd rfl (.inl rfl))
        (pss_cons (ps_set (i := 12) nd rfl (.inr rfl) (pe_call GDr hr1 (by rfl) gDr FDr.kp bDr .nil pass0 (pa_cons (pv 0) (pa_cons (pe_op op_add (pe_callB call_len_seq (by rfl) m_len (by decide +kernel) (pa_cons (pv 2) pa_nil)) pe_int) pa_nil))))
        (pss_one (ps_expr (pe_bm PySem.F.plainAttrs_list PySem.F.slot_list_append PySem.F.type_list_append mt_append (pv 6) (pa_cons (pe_op op_cat (pe_op op_cat (pe_slice sl_list (pv 2) po_none (po_some (pv 12))) (pe_lst (pa_cons (pv 8) pa_nil))) (pe_slice sl_list (pv 2) (po_some (pv 12)) po_none)) pa_nil))))))
      (pss_cons (ps_set (i := 12) nd rfl (.inr rfl) (pe_call GDr hr1 (by rfl) gDr FDr.kp bDr .nil pass0 (pa_cons (pv 0) (pa_cons (pe_op op_add (pe_callB call_len_seq (by rfl) m_len (by decide +kernel) (pa_cons (pv 2) pa_nil)) pe_int) pa_nil))))
      (C8.pss_cut (ps_for PassesOwn.never rfl (pi_list (pe_slice sl_list (pe_lc (own := [("other", 13)]) (g := gName 13) rfl nd (pi_list (pe_lst (pa_cons (pv 5) (pa_cons pe_str (pa_cons pe_str (pa_cons pe_str pa_nil)))))) (blkOk_by (N := NSp) (sc := defScope sSp) (by decide +kernel)) (fun _ _ _ _ _ => pg_name (i := 13) nd rfl (.inl rfl)) (fun _ _ _ _ _ => pts_one (PW.pt (pw_and (pt_cmp (pc_dnotin hu1 (pv 13) (pv 3))) (pw_and1 (pt_cmp (pc_dnotin hu1 (pv 13) (pv 4))))))) (fun _ _ _ _ _ => (pv 13))) po_none (po_some pe_int))) (pg_name (i := 10) nd rfl (.inl rfl))
        (pss_one (ps_expr (pe_bm PySem.F.plainAttrs_list PySem.F.slot_list_append PySem.F.type_list_append mt_append (pv 6) (pa_cons (pe_op op_cat (pe_op op_cat (pe_slice sl_list (pv 2) po_none (po_some (pv 12))) (pe_lst (pa_cons (pe_tup (pa_cons (pv 10) (pa_cons (pe_ix ix_list (pe_lst (pa_cons pe_str (pa_cons pe_str pa_nil))) (pe_call GDr hr1 (by rfl) gDr FDr.kp bDr .nil pass0 (pa_cons (pv 0) (pa_cons pe_int pa_nil))) (fun _ _ => rfl)) pa_nil))) (pa_cons (pe_tup (pa_cons (pv 10) (pa_cons pe_non pa_nil))) pa_nil)))) (pe_slice sl_list (pv 2) (po_some (pv 12)) po_none)) pa_nil)))))
      (pss_cons (ps_if (pt_cmpR (op_eqD hu) (pv 2) (pe_lst pa_nil) (nomark _))
        (pss_one (ps_ret (pv 6))) pss_nil)
      (pss_cons (ps_set (i := 12) nd rfl (.inr rfl) (pe_call GDr hr1 (by rfl) gDr FDr.kp bDr .nil pass0 (pa_cons (pv 0) (pa_cons (pe_callB call_len_seq (by rfl) m_len (by decide +kernel) (pa_cons (pv 2) pa_nil)) pa_nil))))
      (C8.pss_cut (ps_asg (pe_ix ix_list (pv 2) (pv 12) (fun _ _ => rfl)) (pg_tup rfl (pgs_cons (pg_name (i := 10) nd rfl (.inl rfl)) (pgs_cons (pg_name (i := 14) nd rfl (.inl rfl)) pgs_nil))))
      (pss_cons (ps_set (i := 15) nd rfl (.inl rfl) (pe_lst (pa_cons pe_non (pa_cons (pe_tup pa_nil) (pa_cons (pe_lst (pa_cons (pv 10) (pa_cons (pv 14) pa_nil))) (pa_cons (pv 10) (pa_cons (pe_tup (pa_cons (pv 10) pa_nil)) (pa_cons (pe_tup (pa_cons (pv 10) (pa_cons (pv 14) (pa_cons pe_int pa_nil)))) (pa_cons (pe_tup (pa_cons (pe_op op_add_str pe_str (pv 10)) (pa_cons (pv 14) pa_nil))) (pa_cons (pe_tup (pa_cons pe_non (pa_cons (pv 14) pa_nil))) (pa_cons pe_dnewK (pa_cons pe_int pa_nil))))))))))))
      (C8.pss_cut (ps_set (i := 15) nd rfl (.inl rfl) (pe_op op_cat (pv 15) (pe_lst (pa_cons (pe_tup (pa_cons (pv 10) (pa_cons pe_str pa_nil))) (pa_cons (pe_tup (pa_cons (pv 10) (pa_cons (pe_ifExp (pt_cmpR op_notN (pv 14) pe_non (nomark _)) pe_non pe_str) pa_nil))) (pa_cons (pe_tup (pa_cons (pv 10) (pa_cons (pe_lst (pa_cons (pv 14) pa_nil)) pa_nil))) (pa_cons (pe_tup (pa_cons (pe_lst (pa_cons (pv 10) pa_nil)) (pa_cons (pv 14) pa_nil))) pa_nil)))))))
      (pss_cons (ps_set (i := 15) nd rfl (.inl rfl) (pe_op op_cat (pv 15) (pe_lst (pa_cons (pe_tup (pa_cons (pe_tup (pa_cons (pv 10) pa_nil)) (pa_cons (pv 14) pa_nil))) (pa_cons (pe_tup (pa_cons (pv 10) (pa_cons pe_bl pa_nil))) (pa_cons (pe_tup (pa_cons (pv 10) (pa_cons (pe_op op_pow pe_int pe_int) pa_nil))) (pa_cons (pe_tup (pa_cons (pe_op op_add_str (pv 10) pe_str) (pa_cons (pv 14) pa_nil))) pa_nil)))))))
      (C8.pss_cut (ps_set (i := 15) nd rfl (.inl rfl) (pe_op op_cat (pv 15) (pe_lst (pa_cons (pe_tup (pa_cons (pe_tup (pa_cons (pe_lst pa_nil) pa_nil)) (pa_cons (pv 14) pa_nil))) (pa_cons (pe_tup (pa_cons (pv 10) (pa_cons pe_dnewK pa_nil))) pa_nil)))))
      (pss_cons (ps_set (i := 16) nd rfl (.inl rfl) (pe_call GDr hr1 (by rfl) gDr FDr.kp bDr .nil pass0 (pa_cons (pv 0) (pa_cons (pe_op op_add (pv 12) pe_int) pa_nil))))
      (C8.pss_cut (ps_for PassesOwn.never rfl (pi_list (pe_lst (pa_cons (pe_dget1 hu1 (pv 3) (pv 10) ⟨rfl, rfl, rfl, rfl⟩) (pa_cons pe_non (pa_cons pe_str (pa_cons pe_str (pa_cons (pe_dget1 hu1 (pv 4) (pe_slice sl_str (pv 10) po_none (po_some (pe_un un_neg pe_int))) ⟨rfl, rfl, rfl, rfl⟩) pa_nil))))))) (pg_name (i := 13) nd rfl (.inl rfl))
        (pss_one (ps_expr (pe_bm PySem.F.plainAttrs_list PySem.F.slot_list_append PySem.F.type_list_append mt_append (pv 6) (pa_cons (pe_op op_cat (pe_op op_cat (pe_slice sl_list (pv 2) po_none (po_some (pv 16))) (pe_lst (pa_cons (pe_tup (pa_cons (pv 10) (pa_cons (pv 13) pa_nil))) pa_nil))) (pe_slice sl_list (pv 2) (po_some (pv 16)) po_none)) pa_nil)))))
      (pss_cons (ps_set (i := 17) nd rfl (.inr rfl) (pe_op op_cat (pe_slice sl_list (pv 2) po_none (po_some (pv 12))) (pe_slice sl_list (pv 2) (po_some (pe_op op_add (pv 12) pe_int)) po_none)))
      (C8.pss_cut (ps_set (i := 15) nd rfl (.inl rfl) (pe_op op_cat (pe_op op_cat (pv 15) (pe_slice sl_list (pv 17) po_none (po_some pe_int))) (pe_slice sl_list (pv 9) po_none (po_some pe_int))))
      (C8.pss_cut (ps_set (i := 6) nd rfl (.inl rfl) (pe_op op_cat (pe_op op_cat (pv 6) (pe_lst (pa_cons (pv 17) (pa_cons (pe_op op_cat (pv 2) (pe_lst (pa_cons (pe_ix ix_list (pv 2) (pv 12) (fun _ _ => rfl)) pa_nil))) (pa_cons (pe_op op_cat (pe_lst (pa_cons (pe_ix ix_list (pv 2) (pv 12) (fun _ _ => rfl)) pa_nil)) (pv 2)) pa_nil))))) (pe_lc (own := [("step", 8)]) (g := gName 8) (tt := tYes) rfl nd (pi_list (pe_slice sl_list (pv 17) po_none (po_some pe_int))) (blkOk_by (N := NSp) (sc := defScope sSp) (by decide +kernel)) (fun _ _ _ _ _ => pg_name (i := 8) nd rfl (.inl rfl)) (fun _ _ _ _ _ => pts_nil) (fun _ _ _ _ _ => (pe_op op_cat (pv 17) (pe_lst (pa_cons (pv 8) pa_nil)))))))
      (pss_one (ps_ret (pe_op op_cat (pv 6) (pe_lc (own := [("thing", 18)]) (g := gName 18) (tt := tYes) rfl nd (pi_list (pv 15)) (blkOk_by (N := NSp) (sc := defScope sSp) (by decide +kernel)) (fun _ _ _ _ _ => pg_name (i := 18) nd rfl (.inl rfl)) (fun _ _ _ _ _ => pts_nil) (fun _ _ _ _ _ => (pe_op op_cat (pe_op op_cat (pe_slice (r := rSlL K) sl_list (pv 2) po_none (po_some (pv 12))) (pe_lst (pa_cons (pv 18) pa_nil))) (pe_slice (r := rSlL K) sl_list (pv 2) (po_some (pe_op op_add (pv 12) pe_int)) po_none)))))))))))))))))))))))))), ?_⟩
    have hnB : n + 200 ≤ 1000000000000 := hn
    have ok1' := ok1.of4
    have ok2' := ok2.of4
    obtain ⟨bm, bsm⟩ := zs_sm hz
    have tl := prd_len hp
    have csb : ∀ c ∈ cs, isBits c.1 = true := fun c hc => by
      rcases gV_in ok1' ok2' ((ps.mem c).mp hc).1 with h | h
      · exact ok1'.pfx.bits _ h
      · exact ok2'.pfx.bits _ h
    have cv : ∀ c ∈ cs, Sm 32 c.1 ∧ VT c.2 := fun c hc => by
      obtain ⟨h1, h2⟩ := (ps.mem c).mp hc
      have hb : isBits c.1 = true ∧ c.1.length ≤ z := by
        rcases gV_in ok1' ok2' h1 with h | h
        · exact ⟨ok1'.pfx.bits _ h, ok1'.pfx.len _ h⟩
        · exact ⟨ok2'.pfx.bits _ h, ok2'.pfx.len _ h⟩
      exact ⟨⟨Nat.le_trans hb.2 hz, fun ch hch => by rcases bits_iff.mp hb.1 ch hch with e | e <;> omega⟩, .of (by rw [h2]; exact gV_or ok2' c.1)⟩
    refine ⟨.int (z : Int), rfl, "0", _, rfl, rfl, bm, ?_⟩
    generalize Txt.mul "0" (z : Int) = bits at bsm

    refine ⟨fun σ H' => ∃ (F : Addr) (fs : List V), σ = [some (.ref p), some (.int (z : Int)), some (.ref g), some (.ref a), some (.ref b), some (.str bits), some (.ref F), none, none, none, none, none, none, none, none, none, none, none, none] ∧ H F = none ∧ F ≠ p ∧ F ≠ c ∧ fs.length = 4 ∧ SpSt K p c F H H' cs fs n m, ?_, ?_⟩
    · have pp := hp0
      have bb : But p H H := fun _ _ _ e => e
      refine ⟨.ref g, rfl, ?_⟩
      refine ⟨by show 2 ≤ sizeLine; decide, fun T1 nT1 => ?_⟩
      generalize hh : upd H T1 _ = HxT1
      have sT1 : Same H HxT1 := by rw [← hh]; exact same_upd nT1
      have hT1 : HxT1 T1 = some (.tup [.str "", .non]) := by rw [← hh]; exact upd_same
      clear hh
      have T1p : T1 ≠ p := pp.ne_p nT1
      have T1c : T1 ≠ c := pp.ne_c nT1
      have hg := sT1 _ _ hg
      have pp := pp.keep sT1
      have bb := bb.trans (.of_same sT1)
      refine ⟨by show 1 ≤ sizeLine; decide, fun L1 nL1 => ?_⟩
      generalize hh : upd HxT1 L1 _ = HxL1
      have sL1 : Same HxT1 HxL1 := by rw [← hh]; exact same_upd nL1
      have hL1 : HxL1 L1 = some (.lst [.ref T1]) := by rw [← hh]; exact upd_same
      clear hh
      have L1p : L1 ≠ p := pp.ne_p nL1
      have L1c : L1 ≠ c := pp.ne_c nL1
      have hg := sL1 _ _ hg
      have hT1 := sL1 _ _ hT1
      have pp := pp.keep sL1
      have bb := bb.trans (.of_same sL1)
      refine ⟨L1, 2, _, rfl, rfl, hL1, by decide, by decide, by show 2 ≤ sizeLine; decide, fun M1 nM1 => ?_⟩
      generalize hh : upd HxL1 M1 _ = HxM1
      have sM1 : Same HxL1 HxM1 := by rw [← hh]; exact same_upd nM1
      have hM1 : HxM1 M1 = some (.lst [.ref T1, .ref T1]) := by rw [← hh]; exact upd_same
      clear hh
      have M1p : M1 ≠ p := pp.ne_p nM1
      have M1c : M1 ≠ c := pp.ne_c nM1
      have hg := sM1 _ _ hg
      have hT1 := sM1 _ _ hT1
      have hL1 := sM1 _ _ hL1
      have pp := pp.keep sM1
      have bb := bb.trans (.of_same sM1)
      refine ⟨g, M1, _, _, rfl, rfl, hg, hM1, by simp only [List.length_append, List.length_map, List.length_cons, List.length_nil, List.length_take, List.length_drop]; exact big_of (by omega), fun F1 nF1 => ?_⟩
      generalize hh : upd HxM1 F1 _ = HxF1
      have sF1 : Same HxM1 HxF1 := by rw [← hh]; exact same_upd nF1
      have hF1 : HxF1 F1 = some (.lst (ts.map V.ref ++ [.ref T1, .ref T1])) := by rw [← hh]; exact upd_same
      clear hh
      have F1p : F1 ≠ p := pp.ne_p nF1
      have F1c : F1 ≠ c := pp.ne_c nF1
      have hg := sF1 _ _ hg
      have hT1 := sF1 _ _ hT1
      have hL1 := sF1 _ _ hL1
      have hM1 := sF1 _ _ hM1
      have pp := pp.keep sF1
      have bb := bb.trans (.of_same sF1)
      refine ⟨.ref g, rfl, ?_⟩
      refine ⟨.str bits, rfl, _, _, rfl, rfl, Nat.le_trans (show _ ≤ 1000 by have h1 := bsm.ln; have h2 : Str.length "0" = 1 := (by decide); omega) (by decide), by show 2 ≤ sizeLine; decide, fun T2 nT2 => ?_⟩
      generalize hh : upd HxF1 T2 _ = HxT2
      have sT2 : Same HxF1 HxT2 := by rw [← hh]; exact same_upd nT2
      have hT2 : HxT2 T2 = some (.tup [.str (bits ++ "0"), .str "a"]) := by rw [← hh]; exact upd_same
      clear hh
      have T2p : T2 ≠ p := pp.ne_p nT2
      have T2c : T2 ≠ c := pp.ne_c nT2
      have hg := sT2 _ _ hg
      have hT1 := sT2 _ _ hT1
      have hL1 := sT2 _ _ hL1
      have hM1 := sT2 _ _ hM1
      have hF1 := sT2 _ _ hF1
      have pp := pp.keep sT2
      have bb := bb.trans (.of_same sT2)
      refine ⟨by show 1 ≤ sizeLine; decide, fun L2 nL2 => ?_⟩
      generalize hh : upd HxT2 L2 _ = HxL2
      have sL2 : Same HxT2 HxL2 := by rw [← hh]; exact same_upd nL2
      have hL2 : HxL2 L2 = some (.lst [.ref T2]) := by rw [← hh]; exact upd_same
      clear hh
      have L2p : L2 ≠ p := pp.ne_p nL2
      have L2c : L2 ≠ c := pp.ne_c nL2
      have hg := sL2 _ _ hg
      have hT1 := sL2 _ _ hT1
      have hL1 := sL2 _ _ hL1
      have hM1 := sL2 _ _ hM1
      have hF1 := sL2 _ _ hF1
      have hT2 := sL2 _ _ hT2
      have pp := pp.keep sL2
      have bb := bb.trans (.of_same sL2)
      refine ⟨g, L2, _, _, rfl, rfl, hg, hL2, by simp only [List.length_append, List.length_map, List.length_cons, List.length_nil, List.length_take, List.length_drop]; exact big_of (by omega), fun F2 nF2 => ?_⟩
      generalize hh : upd HxL2 F2 _ = HxF2
      have sF2 : Same HxL2 HxF2 := by rw [← hh]; exact same_upd nF2
      have hF2 : HxF2 F2 = some (.lst (ts.map V.ref ++ [.ref T2])) := by rw [← hh]; exact upd_same
      clear hh
      have F2p : F2 ≠ p := pp.ne_p nF2
      have F2c : F2 ≠ c := pp.ne_c nF2
      have hg := sF2 _ _ hg
      have hT1 := sF2 _ _ hT1
      have hL1 := sF2 _ _ hL1
      have hM1 := sF2 _ _ hM1
      have hF1 := sF2 _ _ hF1
      have hT2 := sF2 _ _ hT2
      have hL2 := sF2 _ _ hL2
      have pp := pp.keep sF2
      have bb := bb.trans (.of_same sF2)
      refine ⟨.ref g, rfl, ?_⟩
      refine ⟨by show 2 ≤ sizeLine; decide, fun T3 nT3 => ?_⟩
      generalize hh : upd HxF2 T3 _ = HxT3
      have sT3 : Same HxF2 HxT3 := by rw [← hh]; exact same_upd nT3
      have hT3 : HxT3 T3 = some (.tup [.str "2", .str "a"]) := by rw [← hh]; exact upd_same
      clear hh
      have T3p : T3 ≠ p := pp.ne_p nT3
      have T3c : T3 ≠ c := pp.ne_c nT3
      have hg := sT3 _ _ hg
      have hT1 := sT3 _ _ hT1
      have hL1 := sT3 _ _ hL1
      have hM1 := sT3 _ _ hM1
      have hF1 := sT3 _ _ hF1
      have hT2 := sT3 _ _ hT2
      have hL2 := sT3 _ _ hL2
      have hF2 := sT3 _ _ hF2
      have pp := pp.keep sT3
      have bb := bb.trans (.of_same sT3)
      refine ⟨by show 1 ≤ sizeLine; decide, fun L3 nL3 => ?_⟩
      generalize hh : upd HxT3 L3 _ = HxL3
      have sL3 : Same HxT3 HxL3 := by rw [← hh]; exact same_upd nL3
      have hL3 : HxL3 L3 = some (.lst [.ref T3]) := by rw [← hh]; exact upd_same
      clear hh
      have L3p : L3 ≠ p := pp.ne_p nL3
      have L3c : L3 ≠ c := pp.ne_c nL3
      have hg := sL3 _ _ hg
      have hT1 := sL3 _ _ hT1
      have hL1 := sL3 _ _ hL1
      have hM1 := sL3 _ _ hM1
      have hF1 := sL3 _ _ hF1
      have hT2 := sL3 _ _ hT2
      have hL2 := sL3 _ _ hL2
      have hF2 := sL3 _ _ hF2
      have hT3 := sL3 _ _ hT3
      have pp := pp.keep sL3
      have bb := bb.trans (.of_same sL3)
      refine ⟨g, L3, _, _, rfl, rfl, hg, hL3, by simp only [List.length_append, List.length_map, List.length_cons, List.length_nil, List.length_take, List.length_drop]; exact big_of (by omega), fun F3 nF3 => ?_⟩
      generalize hh : upd HxL3 F3 _ = HxF3
      have sF3 : Same HxL3 HxF3 := by rw [← hh]; exact same_upd nF3
      have hF3 : HxF3 F3 = some (.lst (ts.map V.ref ++ [.ref T3])) := by rw [← hh]; exact upd_same
      clear hh
      have F3p : F3 ≠ p := pp.ne_p nF3
      have F3c : F3 ≠ c := pp.ne_c nF3
      have hg := sF3 _ _ hg
      have hT1 := sF3 _ _ hT1
      have hL1 := sF3 _ _ hL1
      have hM1 := sF3 _ _ hM1
      have hF1 := sF3 _ _ hF1
      have hT2 := sF3 _ _ hT2
      have hL2 := sF3 _ _ hL2
      have hF2 := sF3 _ _ hF2
      have hT3 := sF3 _ _ hT3
      have hL3 := sF3 _ _ hL3
      have pp := pp.keep sF3
      have bb := bb.trans (.of_same sF3)
      refine ⟨.ref g, rfl, ?_⟩
      refine ⟨by show 2 ≤ sizeLine; decide, fun T4 nT4 => ?_⟩
      generalize hh : upd HxF3 T4 _ = HxT4
      have sT4 : Same HxF3 HxT4 := by rw [← hh]; exact same_upd nT4
      have hT4 : HxT4 T4 = some (.tup [.str "nobody", .non]) := by rw [← hh]; exact upd_same
      clear hh
      have T4p : T4 ≠ p := pp.ne_p nT4
      have T4c : T4 ≠ c := pp.ne_c nT4
      have hg := sT4 _ _ hg
      have hT1 := sT4 _ _ hT1
      have hL1 := sT4 _ _ hL1
      have hM1 := sT4 _ _ hM1
      have hF1 := sT4 _ _ hF1
      have hT2 := sT4 _ _ hT2
      have hL2 := sT4 _ _ hL2
      have hF2 := sT4 _ _ hF2
      have hT3 := sT4 _ _ hT3
      have hL3 := sT4 _ _ hL3
      have hF3 := sT4 _ _ hF3
      have pp := pp.keep sT4
      have bb := bb.trans (.of_same sT4)
      refine ⟨by show 1 ≤ sizeLine; decide, fun L4 nL4 => ?_⟩
      generalize hh : upd HxT4 L4 _ = HxL4
      have sL4 : Same HxT4 HxL4 := by rw [← hh]; exact same_upd nL4
      have hL4 : HxL4 L4 = some (.lst [.ref T4]) := by rw [← hh]; exact upd_same
      clear hh
      have L4p : L4 ≠ p := pp.ne_p nL4
      have L4c : L4 ≠ c := pp.ne_c nL4
      have hg := sL4 _ _ hg
      have hT1 := sL4 _ _ hT1
      have hL1 := sL4 _ _ hL1
      have hM1 := sL4 _ _ hM1
      have hF1 := sL4 _ _ hF1
      have hT2 := sL4 _ _ hT2
      have hL2 := sL4 _ _ hL2
      have hF2 := sL4 _ _ hF2
      have hT3 := sL4 _ _ hT3
      have hL3 := sL4 _ _ hL3
      have hF3 := sL4 _ _ hF3
      have hT4 := sL4 _ _ hT4
      have pp := pp.keep sL4
      have bb := bb.trans (.of_same sL4)
      refine ⟨g, L4, _, _, rfl, rfl, hg, hL4, by simp only [List.length_append, List.length_map, List.length_cons, List.length_nil, List.length_take, List.length_drop]; exact big_of (by omega), fun F4 nF4 => ?_⟩
      generalize hh : upd HxL4 F4 _ = HxF4
      have sF4 : Same HxL4 HxF4 := by rw [← hh]; exact same_upd nF4
      have hF4 : HxF4 F4 = some (.lst (ts.map V.ref ++ [.ref T4])) := by rw [← hh]; exact upd_same
      clear hh
      have F4p : F4 ≠ p := pp.ne_p nF4
      have F4c : F4 ≠ c := pp.ne_c nF4
      have hg := sF4 _ _ hg
      have hT1 := sF4 _ _ hT1
      have hL1 := sF4 _ _ hL1
      have hM1 := sF4 _ _ hM1
      have hF1 := sF4 _ _ hF1
      have hT2 := sF4 _ _ hT2
      have hL2 := sF4 _ _ hL2
      have hF2 := sF4 _ _ hF2
      have hT3 := sF4 _ _ hT3
      have hL3 := sF4 _ _ hL3
      have hF3 := sF4 _ _ hF3
      have hT4 := sF4 _ _ hT4
      have hL4 := sF4 _ _ hL4
      have pp := pp.keep sF4
      have bb := bb.trans (.of_same sF4)
      refine ⟨by show 4 ≤ sizeLine; decide, fun F nF => ?_⟩
      generalize hh : upd HxF4 F _ = HxF
      have sF : Same HxF4 HxF := by rw [← hh]; exact same_upd nF
      have hF : HxF F = some (.lst [.ref F1, .ref F2, .ref F3, .ref F4]) := by rw [← hh]; exact upd_same
      clear hh
      have Fp : F ≠ p := pp.ne_p nF
      have T1F : T1 ≠ F := ne_of_none hT1 nF
      have T2F : T2 ≠ F := ne_of_none hT2 nF
      have T3F : T3 ≠ F := ne_of_none hT3 nF
      have T4F : T4 ≠ F := ne_of_none hT4 nF
      have F1F : F1 ≠ F := ne_of_none hF1 nF
      have F2F : F2 ≠ F := ne_of_none hF2 nF
      have F3F : F3 ≠ F := ne_of_none hF3 nF
      have F4F : F4 ≠ F := ne_of_none hF4 nF
      have bb0 := bb
      have Fc : F ≠ c := pp.ne_c nF
      have hg := sF _ _ hg
      have hT1 := sF _ _ hT1
      have hL1 := sF _ _ hL1
      have hM1 := sF _ _ hM1
      have hF1 := sF _ _ hF1
      have hT2 := sF _ _ hT2
      have hL2 := sF _ _ hL2
      have hF2 := sF _ _ hF2
      have hT3 := sF _ _ hT3
      have hL3 := sF _ _ hL3
      have hF3 := sF _ _ hF3
      have hT4 := sF _ _ hT4
      have hL4 := sF _ _ hL4
      have hF4 := sF _ _ hF4
      have pp := pp.keep sF
      have bb := bb.trans (.of_same sF)
      have F0 : H F = none := bb0.free Fp nF
      have ga := (gd_at (K := K) bb F0 tp hp).all cv
      have i1 := ItAll.pair (K := K) hT1 ⟨T1p, T1F⟩ (smD (by decide +kernel)) (.inl rfl)
      have i2 := ItAll.pair (K := K) hT2 ⟨T2p, T2F⟩ ((bsm.app (m := 1) ⟨by decide, by decide⟩).mono (by decide)) (vtS (by decide +kernel))
      have i3 := ItAll.pair (K := K) hT3 ⟨T3p, T3F⟩ (smD (by decide +kernel)) (vtS (by decide +kernel))
      have i4 := ItAll.pair (K := K) hT4 ⟨T4p, T4F⟩ (smD (by decide +kernel)) (.inl rfl)
      refine ⟨F, _, rfl, F0, Fp, Fc, rfl, bb, hF, fun v hv => ?_, pp⟩
      simp only [List.mem_cons, List.not_mem_nil, or_false] at hv
      rcases hv with rfl | rfl | rfl | rfl
      · exact (ga.app (i1.app i1)).spoilt hF1 ⟨F1p, F1F⟩ (by rw [List.length_append, List.length_map]; show _ + 2 ≤ _; omega) (.inl (len_ins tl (by decide) _ rfl))
      · exact (ga.app i2).spoilt hF2 ⟨F2p, F2F⟩ (by rw [List.length_append, List.length_map]; show _ + 1 ≤ _; omega) (.inl (len_ins (n := 1) tl (by decide) _ rfl))
      · exact (ga.app i3).spoilt hF3 ⟨F3p, F3F⟩ (by rw [List.length_append, List.length_map]; show _ + 1 ≤ _; omega) (.inl (len_ins tl (by decide) _ rfl))
      · exact (ga.app i4).spoilt hF4 ⟨F4p, F4F⟩ (by rw [List.length_append, List.length_map]; show _ + 1 ≤ _; omega) (.inl (len_ins tl (by decide) _ rfl))
    rintro σ H1 ⟨F, fs, rfl, F0, Fp, Fc, fl, S1⟩
    -- changed
    refine ⟨fun σ H' => ∃ (Cg : Addr), σ = [some (.ref p), some (.int (z : Int)), some (.ref g), some (.ref a), some (.ref b), some (.str bits), some (.ref F), some (.ref Cg), none, none, none, none, none, none, none, none, none, none, none] ∧ H' Cg = some (.lst ((cs.map (·.1)).map V.str)) ∧ NN p F Cg ∧ SpSt K p c F H H' cs fs n m, ?_, ?_⟩
    · have hg1 := S1.b _ _ gp hg
      have gd := gd_at (K := K) S1.b F0 tp hp
      refine ⟨.ref g, rfl, g, rfl, ⟨_, SqL.of hg1⟩, fun D nD => ?_⟩
      refine lc_it (walk_list (K := K) (a := g) (xs := ts.map V.ref)) (fun i H' => H' D = some (.lst (((cs.map (·.1)).take i).map V.str)) ∧ Same H1 H') ⟨upd_same, same_upd nD⟩ (fun _ _ _ h => SqL.of (h.2 _ _ hg1)) ?_ ?_
      · rintro i v HA HB hi ⟨hD, sA⟩ ⟨rfl, hv⟩
        rw [List.getElem?_map] at hv
        obtain ⟨t, ht, rfl⟩ := Option.map_eq_some_iff.mp hv
        obtain ⟨cc, hc, htc⟩ := prd_get gd.pr ht
        have et : (cs.map (·.1)).take (i + 1) = (cs.map (·.1)).take i ++ [cc.1] := by rw [List.take_add_one, List.getElem?_map, hc]; rfl
        refine ⟨rfl, yes_if ⟨.ref t, rfl, t, _, 0, .str cc.1, rfl, rfl, SqT.of (sA _ _ htc), atI_nat (k := 0), _, hD, ?_, ?_, fun b' o eb => ?_⟩⟩
        · rw [List.length_map, List.length_take, List.length_map]
          exact big_lt (by omega)
        · rw [upd_same, et, List.map_append]
          rfl
        · rw [upd_ne (ne_of_none eb nD)]
          exact sA _ _ eb
      rintro HB ⟨hD, sA⟩
      rw [List.length_map, tl, ← List.length_map (f := fun c : Str × V => c.1) (as := cs), List.take_length] at hD
      exact ⟨D, rfl, hD, S1.nn nD, S1.same sA⟩
    rintro σ H2 ⟨Cg, rfl, hC2, Cn, S2⟩
    clear S1
    have ap : a ≠ p := (pen_ne hp0 ha (fun _ q => nomatch q)).1
    have bp : b ≠ p := (pen_ne hp0 hb (fun _ q => nomatch q)).1
    have aF : a ≠ F := ne_of_none ha F0
    have chfl : ((cs.map (·.1)).map V.str).all flatV = true := List.all_eq_true.mpr fun v hv => by
      obtain ⟨x, _, rfl⟩ := List.mem_map.mp hv
      rfl
    -- same
    refine ⟨fun σ H' => ∃ (Sm_ : Addr) (vs : List V) (ds : List PyData), σ = [some (.ref p), some (.int (z : Int)), some (.ref g), some (.ref a), some (.ref b), some (.str bits), some (.ref F), some (.ref Cg), none, some (.ref Sm_), none, none, none, none, none, none, none, none, none] ∧ H' Cg = some (.lst ((cs.map (·.1)).map V.str)) ∧ NN p F Cg ∧ H' Sm_ = some (.lst vs) ∧ NN p F Sm_ ∧ ItAll K p F H' vs ds ∧ (∀ d ∈ ds, ¬ StepOk cs d) ∧ vs.length ≤ 20 ∧ SpSt K p c F H H' cs fs n m, ?_, ?_⟩
    · have ha2 := S2.b _ _ ap ha
      refine ⟨a, .dK ks, ha2, trivial, fun od => ?_⟩
      refine ⟨.ref a, rfl, a, od, rfl, .inl ⟨ks, upd_same, fun D nD => ?_⟩⟩
      obtain ⟨nDd, nD2⟩ := upd_free nD
      have hdf := upd_same (H := H2) (a := a) (o := .frz od (.dK ks))
      have kF : ∀ b' o, b' ≠ a → H2 b' = some o → (upd H2 a (.frz od (.dK ks))) b' = some o := fun b' o n' h => by rw [upd_ne n']; exact h
      have Ca : Cg ≠ a := ne_of hC2 ha2 (fun q => nomatch q)
      have hCF := kF _ _ Ca hC2
      have kl := keys_len ok1.keys
      revert hdf hCF kF nD
      generalize upd H2 a (.frz od (.dK ks)) = HF
      intro nD hdf kF hCF
      refine lc_it walk_keys (fun i H' => ∃ (us : List Addr) (ys : List Str), Same HF H' ∧ H' D = some (.lst (us.map V.ref)) ∧ Paired (fun t u => H' t = some (.tup [.str u, gV ks u]) ∧ H2 t = none ∧ t ≠ a) us ys ∧ (∀ u ∈ ys, u ∈ xs ∧ u ∉ cs.map (·.1)) ∧ us.length ≤ i) ⟨[], [], same_upd nD, upd_same, .nil, fun _ h => absurd h List.not_mem_nil, Nat.le_refl _⟩ (fun i H' _ h => by obtain ⟨_, _, h, _⟩ := h; exact h _ _ hdf) ?_ ?_
      · rintro i v HA HB hi ⟨us, ys, sA, hD, hpr, yin, ul⟩ hy
        obtain ⟨rfl, u, hu, rfl⟩ := keysY ok1'.keys _ _ _ _ hy
        have hum := List.mem_of_getElem? hu
        refine ⟨rfl, .str u, rfl, .ref Cg, rfl, Cg, _, rfl, .inl (SqL.of (sA _ _ hCF)), rfl, chfl, _, rfl, ?_⟩
        show if (!inV (.str u) ((cs.map (·.1)).map V.str)) = true then _ else _
        rw [inV_str]
        by_cases hin : u ∈ cs.map (·.1)
        · rw [decide_eq_true hin]
          exact iteF ⟨us, ys, sA, hD, hpr, yin, by omega⟩
        rw [decide_eq_false hin]
        refine iteT ?_
        refine ⟨.str u, rfl, .ref a, rfl, .str u, rfl, a, gV ks u, rfl, .inl ⟨ks, .inr u, .inr ⟨od, sA _ _ hdf⟩, rfl, (val_gV ok1' hum).symm⟩, by show 2 ≤ sizeLine; decide, fun T nT => ?_⟩
        have sT := same_upd (o := .tup [.str u, gV ks u]) nT
        have hD3 := sT _ _ hD
        have TD : T ≠ D := (ne_of_none hD nT).symm
        have Ta : T ≠ a := (ne_of_none (sA _ _ hdf) nT).symm
        have nT2 : H2 T = none := by
          cases e : H2 T with
          | none => rfl
          | some o => exact absurd rfl (ne_of_none (sA _ _ (kF _ _ Ta e)) nT)
        have nDH : HF D = none := nD
        refine ⟨_, hD3, by rw [List.length_map]; exact big_lt (by omega), us ++ [T], ys ++ [u], fun e o he => ?_, by rw [upd_same, List.map_append]; rfl, prd_snoc (hpr.mono fun t w h => ⟨by
          have tD : t ≠ D := fun q => by
            have := h.1
            rw [q, hD] at this
            cases this
          rw [upd_ne tD]
          exact sT _ _ h.1, h.2⟩) ⟨by rw [upd_ne TD, upd_same], nT2, Ta⟩, fun w hw => ?_, by rw [List.length_append]; show us.length + 1 ≤ i + 1; omega⟩
        · rw [upd_ne (ne_of_none he nDH)]
          exact sT _ _ (sA _ _ he)
        · rcases List.mem_append.mp hw with hw | hw
          · exact yin w hw
          · rw [List.mem_singleton.mp hw]
            exact ⟨hum, hin⟩
      rintro HA ⟨us, ys, sA, hD, hpr, yin, ul⟩
      have Da : D ≠ a := ne_of hD (sA _ _ hdf) (fun q => nomatch q)
      have sAll : Same H2 (upd HA a (.dK ks)) := fun b' o e => by
        by_cases q : b' = a
        · subst q
          rw [upd_same]
          rw [ha2] at e
          exact e
        · rw [upd_ne q]
          exact sA _ _ (kF _ _ q e)
      have nDH2 : H2 D = none := by
        cases e : H2 D with
        | none => rfl
        | some o => exact absurd rfl (ne_of_none (kF _ _ Da e) nD)
      refine ⟨sA _ _ hdf, D, us.map V.ref, ys.map (fun u => .tuple [.str u, vD (gV ks u)]), rfl, sAll _ _ hC2, Cn, by rw [upd_ne Da]; exact hD, S2.nn nDH2, itAll_pairs (hpr.mono fun t u h => ⟨by rw [upd_ne h.2.2]; exact h.1, S2.nn h.2.1⟩) fun u hu => ?_, fun d hd => ?_, ?_, S2.same sAll⟩
      · obtain ⟨h1, h2⟩ := yin u hu
        exact ⟨⟨Nat.le_trans (ok1'.pfx.len u h1) (by omega), fun ch hch => by rcases bits_iff.mp (ok1'.pfx.bits u h1) ch hch with e | e <;> omega⟩, .of (gV_or ok1' u)⟩
      · obtain ⟨u, hu, rfl⟩ := List.mem_map.mp hd
        exact not_step (yin u hu).2
      · rw [List.length_map]
        have := keys_len ok1.keys
        omega
    rintro σ H3 ⟨Sm_, vsm, dsm, rfl, hC3, _, hS3, Sn, itS, nso, sl, S3⟩
    clear S2 hC2
    -- gone
    refine ⟨fun σ H' => ∃ (Gn : Addr) (vg : List V) (dg : List PyData), σ = [some (.ref p), some (.int (z : Int)), some (.ref g), some (.ref a), some (.ref b), some (.str bits), some (.ref F), some (.ref Cg), none, some (.ref Sm_), none, some (.ref Gn), none, none, none, none, none, none, none] ∧ H' Cg = some (.lst ((cs.map (·.1)).map V.str)) ∧ H' Sm_ = some (.lst vsm) ∧ ItAll K p F H' vsm dsm ∧ H' Gn = some (.lst vg) ∧ NN p F Gn ∧ ItAll K p F H' vg dg ∧ vg.length ≤ 2 ∧ SpSt K p c F H H' cs fs n m, ?_, ?_⟩
    · refine ⟨.str bits, rfl, by show 2 ≤ sizeLine; decide, fun X nX => ?_⟩
      generalize hh : upd H3 X _ = H4
      have sX : Same H3 H4 := by rw [← hh]; exact same_upd nX
      have hX : H4 X = some (.lst ([bits, "1"].map V.str)) := by rw [← hh]; exact upd_same
      clear hh
      have S4 := S3.same sX
      have ha4 := S4.b _ _ ap ha
      have hC4 := sX _ _ hC3
      refine ⟨X, rfl, ⟨_, SqL.of hX⟩, fun D nD => ?_⟩
      refine lc_it (walk_list (K := K) (a := X) (xs := [bits, "1"].map V.str)) (fun i H' => ∃ (us : List Addr) (ys : List Str), Same H4 H' ∧ H' D = some (.lst (us.map V.ref)) ∧ Paired (fun t u => H' t = some (.tup [.str u, .non]) ∧ NN p F t) us ys ∧ (∀ u ∈ ys, u = bits ∨ u = "1") ∧ us.length ≤ i) ⟨[], [], same_upd nD, upd_same, .nil, fun _ h => absurd h List.not_mem_nil, Nat.le_refl _⟩ (fun _ _ _ h => by obtain ⟨_, _, h, _⟩ := h; exact SqL.of (h _ _ hX)) ?_ ?_
      · rintro i v HA HB hi ⟨us, ys, sA, hD, hpr, yin, ul⟩ ⟨rfl, hv⟩
        rw [List.getElem?_map] at hv
        obtain ⟨u, hu, rfl⟩ := Option.map_eq_some_iff.mp hv
        have hum := List.mem_of_getElem? hu
        refine ⟨rfl, .str u, rfl, .ref a, rfl, a, _, rfl, DGet.k (k := .inr u) (sA _ _ ha4), _, rfl, ?_⟩
        refine ite2 (fun _ => ?_) (fun _ => ⟨us, ys, sA, hD, hpr, yin, by omega⟩)
        refine ⟨.str u, rfl, .ref Cg, rfl, Cg, _, rfl, .inl (SqL.of (sA _ _ hC4)), rfl, chfl, _, rfl, ite2 (fun _ => ?_) (fun _ => ⟨us, ys, sA, hD, hpr, yin, by omega⟩)⟩
        refine ⟨.str u, rfl, by show 2 ≤ sizeLine; decide, fun T nT => ?_⟩
        have sT := same_upd (o := .tup [.str u, .non]) nT
        have hD3 := sT _ _ hD
        have TD : T ≠ D := (ne_of_none hD nT).symm
        have SA := S4.same sA
        refine ⟨_, hD3, by rw [List.length_map]; exact big_lt (by have : i < 2 := hi; omega), us ++ [T], ys ++ [u], fun e o he => ?_, by rw [upd_same, List.map_append]; rfl, prd_snoc (hpr.mono fun t w h => ⟨by
          have tD : t ≠ D := fun q => by
            have := h.1
            rw [q, hD] at this
            cases this
          rw [upd_ne tD]
          exact sT _ _ h.1, h.2⟩) ⟨by rw [upd_ne TD, upd_same], SA.nn nT⟩, fun w hw => ?_, by rw [List.length_append]; show us.length + 1 ≤ i + 1; omega⟩
        · rw [upd_ne (ne_of_none he nD)]
          exact sT _ _ (sA _ _ he)
        · rcases List.mem_append.mp hw with hw | hw
          · exact yin w hw
          · rw [List.mem_singleton.mp hw]
            simp only [List.mem_cons, List.not_mem_nil, or_false] at hum
            exact hum
      rintro HA ⟨us, ys, sA, hD, hpr, yin, ul⟩
      refine ⟨D, us.map V.ref, ys.map (fun u => .tuple [.str u, vD .non]), rfl, sA _ _ hC4, sA _ _ (sX _ _ hS3), itS.move (.of_same (sX.trans sA)), hD, S4.nn nD, itAll_pairs (f := fun _ => .non) hpr fun u hu => ⟨?_, .inl rfl⟩, by rw [List.length_map]; exact ul, S4.same sA⟩
      rcases yin u hu with rfl | rfl
      · exact bsm.mono (by decide)
      · exact smD (by decide +kernel)
    rintro σ H4 ⟨Gn, vg, dg, rfl, _, hS4, itS, hG4, Gnn, itG, gl, S4⟩
    clear S3 hC3 hS3
    -- for step in same[:2] + gone[:1]
    refine ⟨fun σ H' => ∃ (x8 x12 : Option V) (fs' : List V), σ = [some (.ref p), some (.int (z : Int)), some (.ref g), some (.ref a), some (.ref b), some (.str bits), some (.ref F), some (.ref Cg), x8, some (.ref Sm_), none, some (.ref Gn), x12, none, none, none, none, none, none] ∧ fs'.length ≤ 30 ∧ SpSt K p c F H H' cs fs' (n + 22) m ∧ ButF p F H4 H', ?_, ?_⟩
    · refine ⟨.ref Sm_, rfl, 2, rfl, Sm_, _, rfl, SqL.of hS4, fun X1 n1 => ?_⟩
      generalize hh : upd H4 X1 _ = H5
      have s1 : Same H4 H5 := by rw [← hh]; exact same_upd n1
      have h1 : H5 X1 = some (.lst (cutV vsm none (some 2))) := by rw [← hh]; exact upd_same
      clear hh
      refine ⟨.ref Gn, rfl, 1, rfl, Gn, _, rfl, SqL.of (s1 _ _ hG4), fun X2 n2 => ?_⟩
      generalize hh : upd H5 X2 _ = H6
      have s2 : Same H5 H6 := by rw [← hh]; exact same_upd n2
      have h2 : H6 X2 = some (.lst (cutV vg none (some 1))) := by rw [← hh]; exact upd_same
      clear hh
      have l1 := cutV_length vsm none (some 2)
      have l2 := cutV_length vg none (some 1)
      refine ⟨X1, X2, _, _, rfl, rfl, s2 _ _ h1, h2, big_of (by omega), fun X3 n3 => ?_⟩
      generalize hh : upd H6 X3 _ = H7
      have s3 : Same H4 H7 := by rw [← hh]; exact s1.trans (s2.trans (same_upd n3))
      have h3 : H7 X3 = some (.lst (cutV vsm none (some 2) ++ cutV vg none (some 1))) := by rw [← hh]; exact upd_same
      clear hh
      have X3n := S4.nn (s1.free (s2.free n3))
      have itm : ∀ v ∈ cutV vsm none (some 2) ++ cutV vg none (some 1), ∃ d, ItAll K p F H7 [v] [d] := fun v hv => by
        rcases List.mem_append.mp hv with hv | hv
        · obtain ⟨d, _, h⟩ := itS.get (cutV_mem hv)
          exact ⟨d, h.move (.of_same s3)⟩
        · obtain ⟨d, _, h⟩ := itG.get (cutV_mem hv)
          exact ⟨d, h.move (.of_same s3)⟩
      have il : (cutV vsm none (some 2) ++ cutV vg none (some 1)).length ≤ 22 := by rw [List.length_append]; omega
      have S7 := S4.same s3
      clear h1 h2 s1 s2 n1 n2 n3 l1 l2
      generalize cutV vsm none (some 2) ++ cutV vg none (some 1) = steps at h3 itm il
      refine ⟨X3, rfl, ⟨_, SqL.of h3⟩, for_list (K := K) (a := X3) (xs := steps) (fun i σ H' => (∃ (x8 x12 : Option V) (fs' : List V), σ = [some (.ref p), some (.int (z : Int)), some (.ref g), some (.ref a), some (.ref b), some (.str bits), some (.ref F), some (.ref Cg), x8, some (.ref Sm_), none, some (.ref Gn), x12, none, none, none, none, none, none] ∧ fs'.length ≤ 4 + i ∧ SpSt K p c F H H' cs fs' (n + i) m) ∧ ButF p F H7 H') ⟨⟨_, _, fs, rfl, by omega, S7⟩, .refl⟩ (fun _ _ _ _ h => SqL.of (h.2 _ _ X3n.1 X3n.2 h3)) ?_ ?_⟩
      · rintro i v σ H8 hv ⟨⟨x8, x12, fs', rfl, fl', S8⟩, b8⟩
        obtain ⟨d, itv⟩ := itm v (List.mem_of_getElem? hv)
        have iil := (List.getElem?_eq_some_iff.mp hv).1
        have hg8 := S8.b _ _ gp hg
        refine ⟨.ref p, rfl, .ref g, rfl, g, _, rfl, .inl (SqL.of hg8), _, 1, rfl, rfl, p, c, n + i, m, _, rfl, S8.pn, by show n + i ≤ 1000000000000; omega, by rw [List.length_map]; omega, by rw [List.length_map]; omega, fun sp H9 sp0 sp1 b9 p9 => ?_⟩
        obtain ⟨j, rfl⟩ : ∃ j : Nat, sp = (j : Int) := ⟨sp.toNat, by omega⟩
        rw [List.length_map] at sp1
        have S9 := S8.draw Fp b9 p9
        have hg9 := b9 _ _ gp hg8
        have itv := (itv.move b8).move (.of_but b9)
        have b8 := b8.trans (.of_but b9)
        refine ⟨.ref F, rfl, .inl ⟨rfl, _, SqL.of S9.hF⟩, ?_⟩
        refine ⟨.ref g, rfl, .int (j : Int), rfl, (j : Int), rfl, g, _, rfl, SqL.of hg9, fun A nA => ?_⟩
        generalize hh : upd H9 A _ = H9xA
        have sA : Same H9 H9xA := by rw [← hh]; exact same_upd nA
        have hA : H9xA A = some (.lst ((ts.map V.ref).take j)) := by rw [← hh, upd_same, cut_to _ _ (by rw [List.length_map]; omega)]
        clear hh
        have An := S9.nn nA
        have hg9 := sA _ _ hg9
        have itv := itv.move (.of_same sA)
        have S9 := S9.same sA
        have b8 := b8.trans (.of_same sA)
        clear sA nA
        refine ⟨v, rfl, by show 1 ≤ sizeLine; decide, fun B nB => ?_⟩
        generalize hh : upd H9xA B _ = H9xB
        have sB : Same H9xA H9xB := by rw [← hh]; exact same_upd nB
        have hB : H9xB B = some (.lst [v]) := by rw [← hh]; exact upd_same
        clear hh
        have Bn := S9.nn nB
        have hg9 := sB _ _ hg9
        have hA := sB _ _ hA
        have itv := itv.move (.of_same sB)
        have S9 := S9.same sB
        have b8 := b8.trans (.of_same sB)
        clear sB nB
        refine ⟨A, B, _, _, rfl, rfl, hA, hB, by simp only [List.length_append, List.length_map, List.length_cons, List.length_nil, List.length_take, List.length_drop]; exact big_of (by omega), fun E nE => ?_⟩
        generalize hh : upd H9xB E _ = H9xE
        have sE : Same H9xB H9xE := by rw [← hh]; exact same_upd nE
        have hE : H9xE E = some (.lst ((ts.map V.ref).take j ++ [v])) := by rw [← hh]; exact upd_same
        clear hh
        have En := S9.nn nE
        have hg9 := sE _ _ hg9
        have hA := sE _ _ hA
        have hB := sE _ _ hB
        have itv := itv.move (.of_same sE)
        have S9 := S9.same sE
        have b8 := b8.trans (.of_same sE)
        clear sE nE
        refine ⟨.ref g, rfl, .int (j : Int), rfl, (j : Int), rfl, g, _, rfl, SqL.of hg9, fun G nG => ?_⟩
        generalize hh : upd H9xE G _ = H9xG
        have sG : Same H9xE H9xG := by rw [← hh]; exact same_upd nG
        have hG : H9xG G = some (.lst ((ts.map V.ref).drop j)) := by rw [← hh, upd_same, cut_from]
        clear hh
        have hg9 := sG _ _ hg9
        have hA := sG _ _ hA
        have hB := sG _ _ hB
        have hE := sG _ _ hE
        have itv := itv.move (.of_same sG)
        have S9 := S9.same sG
        have b8 := b8.trans (.of_same sG)
        refine ⟨E, G, _, _, rfl, rfl, hE, hG, by simp only [List.length_append, List.length_map, List.length_cons, List.length_nil, List.length_take, List.length_drop]; exact big_of (by omega), fun R nR => ?_⟩
        generalize hh : upd H9xG R _ = H9xR
        have sR : Same H9xG H9xR := by rw [← hh]; exact same_upd nR
        have hR : H9xR R = some (.lst ((ts.map V.ref).take j ++ [v] ++ (ts.map V.ref).drop j)) := by rw [← hh]; exact upd_same
        clear hh
        have Rn := S9.nn nR
        have hg9 := sR _ _ hg9
        have hA := sR _ _ hA
        have hB := sR _ _ hB
        have hE := sR _ _ hE
        have hG := sR _ _ hG
        have itv := itv.move (.of_same sR)
        have S9 := S9.same sR
        have b8 := b8.trans (.of_same sR)
        clear sR nR
        have itR := (((S9.ga F0 tp hp cv).take j).app itv).app ((S9.ga F0 tp hp cv).drop j)
        have isR := itR.spoilt (cs := cs) hR Rn (by rw [len_mid]; show _ + 1 ≤ _; omega) (.inl (by rw [len_mid]; show _ + 1 ≠ _; omega))
        exact ⟨F, _, _, rfl, rfl, S9.hF, big_lt (by omega), ⟨_, _, _, rfl, by rw [List.length_append]; show fs'.length + 1 ≤ _; omega, (S9.push F0 Fp Fc isR).mono (by omega)⟩, b8.trans .upd⟩
      rintro σ H8 ⟨⟨x8, x12, fs', rfl, fl', S8⟩, b8⟩
      exact ⟨_, _, fs', rfl, by omega, S8.mono (by omega), fun b' o n1 n2 e => b8 b' o n1 n2 (s3 _ _ e)⟩
    rintro σ H5 ⟨x8, x12, fs1, rfl, fl1, S5, b5⟩
    have hg5 := S5.b _ _ gp hg
    have ha5 := S5.b _ _ ap ha
    have hb5 := S5.b _ _ bp hb
    refine ⟨.ref p, rfl, .ref g, rfl, g, _, rfl, .inl (SqL.of hg5), _, 1, rfl, rfl, p, c, n + 22, m, _, rfl, S5.pn, by show n + 22 ≤ 1000000000000; omega, by rw [List.length_map]; omega, by rw [List.length_map]; omega, fun sp Hd51 sp0 sp1 bd1 pd1 => ?_⟩
    have hg5 := bd1 _ _ gp hg5
    have ha5 := bd1 _ _ ap ha5
    have hb5 := bd1 _ _ bp hb5
    have S5 := S5.draw Fp bd1 pd1
    have b5 := b5.trans (.of_but bd1)
    clear bd1 pd1
    obtain ⟨j, rfl⟩ : ∃ j : Nat, sp = (j : Int) := ⟨sp.toNat, by omega⟩
    rw [List.length_map] at sp1
    refine ⟨fun σ H' => ∃ (x8 x10 x13 : Option V) (fs' : List V), σ = [some (.ref p), some (.int (z : Int)), some (.ref g), some (.ref a), some (.ref b), some (.str bits), some (.ref F), some (.ref Cg), x8, some (.ref Sm_), x10, some (.ref Gn), some (.int (j : Int)), x13, none, none, none, none, none] ∧ fs'.length ≤ 40 ∧ SpSt K p c F H H' cs fs' (n + 30) m ∧ ButF p F H4 H', ?_, ?_⟩
    · refine ⟨.str bits, rfl, by show 4 ≤ sizeLine; decide, fun X nX => ?_⟩
      generalize hh : upd Hd51 X _ = Hd51xX
      have sX : Same Hd51 Hd51xX := by rw [← hh]; exact same_upd nX
      have hX : Hd51xX X = some (.lst ([bits, "1", "0", ""].map V.str)) := by rw [← hh]; exact upd_same
      clear hh
      have Xn := S5.nn nX
      have hg5 := sX _ _ hg5
      have ha5 := sX _ _ ha5
      have hb5 := sX _ _ hb5
      have S5 := S5.same sX
      have b5 := b5.trans (.of_same sX)
      clear sX nX
      refine ⟨X, rfl, ⟨_, SqL.of hX⟩, fun D nD => ?_⟩
      have Dn := S5.nn nD
      refine lc_it (walk_list (K := K) (a := X) (xs := [bits, "1", "0", ""].map V.str)) (fun i H' => ∃ ys : List Str, Same Hd51xX H' ∧ H' D = some (.lst (ys.map V.str)) ∧ (∀ u ∈ ys, Sm 40 u) ∧ ys.length ≤ i) ⟨[], same_upd nD, upd_same, fun _ h => absurd h List.not_mem_nil, Nat.le_refl _⟩ (fun _ _ _ h => by obtain ⟨_, h, _⟩ := h; exact SqL.of (h _ _ hX)) ?_ ?_
      · rintro i v HA HB hi ⟨ys, sA, hD, yin, yl⟩ ⟨rfl, hv⟩
        rw [List.getElem?_map] at hv
        obtain ⟨u, hu, rfl⟩ := Option.map_eq_some_iff.mp hv
        have hum := List.mem_of_getElem? hu
        have usm : Sm 40 u := by
          simp only [List.mem_cons, List.not_mem_nil, or_false] at hum
          rcases hum with rfl | rfl | rfl | rfl
          · exact bsm.mono (by decide)
          · exact smD (by decide +kernel)
          · exact smD (by decide +kernel)
          · exact smD (by decide +kernel)
        refine ⟨rfl, .str u, rfl, .ref a, rfl, a, _, rfl, DGet.k (k := .inr u) (sA _ _ ha5), _, rfl, ite2 (fun _ => ?_) (fun _ => ⟨ys, sA, hD, yin, by omega⟩)⟩
        refine ⟨.str u, rfl, .ref b, rfl, b, _, rfl, DGet.k (k := .inr u) (sA _ _ hb5), _, rfl, ite2 (fun _ => ?_) (fun _ => ⟨ys, sA, hD, yin, by omega⟩)⟩
        refine ⟨.str u, rfl, _, hD, by rw [List.length_map]; exact big_lt (by have : i < 4 := hi; omega), ys ++ [u], fun e o he => ?_, by rw [upd_same, List.map_append]; rfl, fun w hw => ?_, by rw [List.length_append]; show ys.length + 1 ≤ i + 1; omega⟩
        · rw [upd_ne (ne_of_none he nD)]
          exact sA _ _ he
        · rcases List.mem_append.mp hw with hw | hw
          · exact yin w hw
          · rw [List.mem_singleton.mp hw]
            exact usm
      rintro HC ⟨ys, sA, hD, yin, yl⟩
      have yl : ys.length ≤ 4 := yl
      have S5 := S5.same sA
      have b5 := b5.trans (.of_same sA)
      refine ⟨2, rfl, D, _, rfl, SqL.of hD, fun Y nY => ?_⟩
      generalize hh : upd HC Y _ = HE
      have sY : Same HC HE := by rw [← hh]; exact same_upd nY
      have hY : HE Y = some (.lst (cutV (ys.map V.str) none (some 2))) := by rw [← hh]; exact upd_same
      clear hh
      have Yn := S5.nn nY
      have S5 := S5.same sY
      have b5 := b5.trans (.of_same sY)
      have cl := cutV_length (ys.map V.str) none (some 2)
      rw [List.length_map] at cl
      have cin : ∀ v ∈ cutV (ys.map V.str) none (some 2), ∃ u, v = .str u ∧ Sm 40 u := fun v hv => by
        obtain ⟨u, hu, rfl⟩ := List.mem_map.mp (cutV_mem hv)
        exact ⟨u, rfl, yin u hu⟩
      generalize cutV (ys.map V.str) none (some 2) = stp at hY cl cin
      refine ⟨Y, rfl, ⟨_, SqL.of hY⟩, for_list (K := K) (a := Y) (xs := stp) (fun i σ H' => (∃ (x8 x10 x13 : Option V) (fs' : List V), σ = [some (.ref p), some (.int (z : Int)), some (.ref g), some (.ref a), some (.ref b), some (.str bits), some (.ref F), some (.ref Cg), x8, some (.ref Sm_), x10, some (.ref Gn), some (.int (j : Int)), x13, none, none, none, none, none] ∧ fs'.length ≤ 30 + i ∧ SpSt K p c F H H' cs fs' (n + 23 + i) m) ∧ ButF p F HE H') ⟨⟨_, _, _, fs1, rfl, by omega, S5⟩, .refl⟩ (fun _ _ _ _ h => SqL.of (h.2 _ _ Yn.1 Yn.2 hY)) ?_ ?_⟩
      rotate_left
      · rintro σ H8 ⟨⟨x8, x10, x13, fs', rfl, fl', S8⟩, b8⟩
        exact ⟨_, _, _, fs', rfl, by omega, S8.mono (by omega), b5.trans b8⟩
      rintro i v σ H8 hv ⟨⟨x8, x10, x13, fs', rfl, fl', S8⟩, b8⟩
      obtain ⟨u, rfl, usm⟩ := cin v (List.mem_of_getElem? hv)
      have iil := (List.getElem?_eq_some_iff.mp hv).1
      have hg8 := S8.b _ _ gp hg
      refine ⟨.ref F, rfl, .inl ⟨rfl, _, SqL.of S8.hF⟩, ?_⟩
      refine ⟨.ref g, rfl, .int (j : Int), rfl, (j : Int), rfl, g, _, rfl, SqL.of hg8, fun A nA => ?_⟩
      generalize hh : upd H8 A _ = H8xA
      have sA : Same H8 H8xA := by rw [← hh]; exact same_upd nA
      have hA : H8xA A = some (.lst ((ts.map V.ref).take j)) := by rw [← hh, upd_same, cut_to _ _ (by rw [List.length_map]; omega)]
      clear hh
      have An := S8.nn nA
      have hg8 := sA _ _ hg8
      have S8 := S8.same sA
      have b8 := b8.trans (.of_same sA)
      clear sA nA
      refine ⟨.str u, rfl, by show 2 ≤ sizeLine; decide, fun B1 nB1 => ?_⟩
      generalize hh : upd H8xA B1 _ = H8xB1
      have sB1 : Same H8xA H8xB1 := by rw [← hh]; exact same_upd nB1
      have hB1 : H8xB1 B1 = some (.lst ([("a" : Str), "ab"].map V.str)) := by rw [← hh]; exact upd_same
      clear hh
      have B1n := S8.nn nB1
      have hg8 := sB1 _ _ hg8
      have hA := sB1 _ _ hA
      have S8 := S8.same sB1
      have b8 := b8.trans (.of_same sB1)
      clear sB1 nB1
      refine ⟨.ref p, rfl, p, c, n + 23 + i, m, _, rfl, S8.pn, by show n + 23 + i ≤ 1000000000000; omega, by decide, by decide, fun d Hd81 d0 d1 bd1 pd1 => ?_⟩
      have hg8 := bd1 _ _ gp hg8
      have hA := bd1 _ _ An.1 hA
      have hB1 := bd1 _ _ B1n.1 hB1
      have S8 := S8.draw Fp bd1 pd1
      have b8 := b8.trans (.of_but bd1)
      clear bd1 pd1
      obtain ⟨nm, enm, hnm⟩ : ∃ nm : Str, atI ([("a" : Str), "ab"].map V.str) d = some (.str nm) ∧ VT (.str nm) := by
        obtain rfl | rfl : d = 0 ∨ d = 1 := by omega
        · exact ⟨"a", rfl, vtS (by decide +kernel)⟩
        · exact ⟨"ab", rfl, vtS (by decide +kernel)⟩
      refine ⟨B1, _, _, .str nm, rfl, rfl, SqL.of hB1, enm, by show 2 ≤ sizeLine; decide, fun T1 nT1 => ?_⟩
      generalize hh : upd Hd81 T1 _ = Hd81xT1
      have sT1 : Same Hd81 Hd81xT1 := by rw [← hh]; exact same_upd nT1
      have hT1 : Hd81xT1 T1 = some (.tup [.str u, .str nm]) := by rw [← hh]; exact upd_same
      clear hh
      have T1n := S8.nn nT1
      have hg8 := sT1 _ _ hg8
      have hA := sT1 _ _ hA
      have hB1 := sT1 _ _ hB1
      have S8 := S8.same sT1
      have b8 := b8.trans (.of_same sT1)
      clear sT1 nT1
      refine ⟨.str u, rfl, by show 2 ≤ sizeLine; decide, fun T2 nT2 => ?_⟩
      generalize hh : upd Hd81xT1 T2 _ = Hd81xT2
      have sT2 : Same Hd81xT1 Hd81xT2 := by rw [← hh]; exact same_upd nT2
      have hT2 : Hd81xT2 T2 = some (.tup [.str u, .non]) := by rw [← hh]; exact upd_same
      clear hh
      have T2n := S8.nn nT2
      have hg8 := sT2 _ _ hg8
      have hA := sT2 _ _ hA
      have hB1 := sT2 _ _ hB1
      have hT1 := sT2 _ _ hT1
      have S8 := S8.same sT2
      have b8 := b8.trans (.of_same sT2)
      clear sT2 nT2
      refine ⟨by show 2 ≤ sizeLine; decide, fun B nB => ?_⟩
      generalize hh : upd Hd81xT2 B _ = Hd81xB
      have sB : Same Hd81xT2 Hd81xB := by rw [← hh]; exact same_upd nB
      have hB : Hd81xB B = some (.lst [.ref T1, .ref T2]) := by rw [← hh]; exact upd_same
      clear hh
      have Bn := S8.nn nB
      have hg8 := sB _ _ hg8
      have hA := sB _ _ hA
      have hB1 := sB _ _ hB1
      have hT1 := sB _ _ hT1
      have hT2 := sB _ _ hT2
      have S8 := S8.same sB
      have b8 := b8.trans (.of_same sB)
      clear sB nB
      refine ⟨A, B, _, _, rfl, rfl, hA, hB, by simp only [List.length_append, List.length_map, List.length_cons, List.length_nil, List.length_take, List.length_drop]; exact big_of (by omega), fun E nE => ?_⟩
      generalize hh : upd Hd81xB E _ = Hd81xE
      have sE : Same Hd81xB Hd81xE := by rw [← hh]; exact same_upd nE
      have hE : Hd81xE E = some (.lst ((ts.map V.ref).take j ++ [.ref T1, .ref T2])) := by rw [← hh]; exact upd_same
      clear hh
      have En := S8.nn nE
      have hg8 := sE _ _ hg8
      have hA := sE _ _ hA
      have hB1 := sE _ _ hB1
      have hT1 := sE _ _ hT1
      have hT2 := sE _ _ hT2
      have hB := sE _ _ hB
      have S8 := S8.same sE
      have b8 := b8.trans (.of_same sE)
      clear sE nE
      refine ⟨.ref g, rfl, .int (j : Int), rfl, (j : Int), rfl, g, _, rfl, SqL.of hg8, fun G nG => ?_⟩
      generalize hh : upd Hd81xE G _ = Hd81xG
      have sG : Same Hd81xE Hd81xG := by rw [← hh]; exact same_upd nG
      have hG : Hd81xG G = some (.lst ((ts.map V.ref).drop j)) := by rw [← hh, upd_same, cut_from]
      clear hh
      have hg8 := sG _ _ hg8
      have hA := sG _ _ hA
      have hB1 := sG _ _ hB1
      have hT1 := sG _ _ hT1
      have hT2 := sG _ _ hT2
      have hB := sG _ _ hB
      have hE := sG _ _ hE
      have S8 := S8.same sG
      have b8 := b8.trans (.of_same sG)
      refine ⟨E, G, _, _, rfl, rfl, hE, hG, by simp only [List.length_append, List.length_map, List.length_cons, List.length_nil, List.length_take, List.length_drop]; exact big_of (by omega), fun R nR => ?_⟩
      generalize hh : upd Hd81xG R _ = Hd81xR
      have sR : Same Hd81xG Hd81xR := by rw [← hh]; exact same_upd nR
      have hR : Hd81xR R = some (.lst ((ts.map V.ref).take j ++ [.ref T1, .ref T2] ++ (ts.map V.ref).drop j)) := by rw [← hh]; exact upd_same
      clear hh
      have Rn := S8.nn nR
      have hg8 := sR _ _ hg8
      have hA := sR _ _ hA
      have hB1 := sR _ _ hB1
      have hT1 := sR _ _ hT1
      have hT2 := sR _ _ hT2
      have hB := sR _ _ hB
      have hE := sR _ _ hE
      have hG := sR _ _ hG
      have S8 := S8.same sR
      have b8 := b8.trans (.of_same sR)
      clear sR nR
      have i1 := ItAll.pair (K := K) hT1 T1n usm hnm
      have i2 := ItAll.pair (K := K) hT2 T2n usm (.inl rfl)
      have itR := (((S8.ga F0 tp hp cv).take j).app (i1.app i2)).app ((S8.ga F0 tp hp cv).drop j)
      have isR := itR.spoilt (cs := cs) hR Rn (by rw [len_mid]; show _ + 2 ≤ _; omega) (.inl (by rw [len_mid]; show _ + 2 ≠ _; omega))
      exact ⟨F, _, _, rfl, rfl, S8.hF, big_lt (by omega), ⟨_, _, _, _, rfl, by rw [List.length_append]; show fs'.length + 1 ≤ _; omega, (S8.push F0 Fp Fc isR).mono (by omega)⟩, b8.trans .upd⟩
    rintro σ H6 ⟨x8, x10, x13, fs2, rfl, fl2, S6, b6⟩
    clear S5 b5 hg5 ha5 hb5
    -- if good == []
    have hg6 := S6.b _ _ gp hg
    have ga6 := S6.ga F0 tp hp cv
    refine ⟨.ref g, rfl, by show 0 ≤ sizeLine; decide, fun E nE => ?_⟩
    generalize hh : upd H6 E _ = H7
    have sE : Same H6 H7 := by rw [← hh]; exact same_upd nE
    have hE : H7 E = some (.lst []) := by rw [← hh]; exact upd_same
    clear hh
    have shc := shaped_cs ga6 cv
    refine ⟨.list (cs.map cD), .list [], .lst (SqL.of (sE _ _ hg6)) ((ga6.move (.of_same sE)).dr.dp (by have := shaped_lay shc; simpa only [PyData.canLay0] using this)), .lst (SqL.of hE) .nil, shc, rfl, _, rfl, ?_⟩
    rw [eqv_cs]
    have S7 := S6.same sE
    have b7 := b6.trans (.of_same sE)
    have hg7 := sE _ _ hg6
    by_cases hnil : cs = []
    · rw [decide_eq_true hnil]
      refine iteT ⟨.ref F, rfl, ?_⟩
      refine q F fs2 H7 S7.b F0 S7.hF (by omega) (fun v hv => ?_) (S7.pn.mono (by omega))
      obtain ⟨d, h1, h2⟩ := S7.fok v hv
      exact ⟨d, h1.move (fun _ _ _ e => e) (fun _ n => n.1), h2⟩
    rw [decide_eq_false hnil]
    refine iteF ?_
    clear S6 b6 hg6 ga6 sE nE hE
    have tpos : 0 < ts.length := by
      rw [tl]
      exact List.length_pos_iff.mpr hnil
    refine ⟨.ref p, rfl, .ref g, rfl, g, _, rfl, .inl (SqL.of hg7), p, c, n + 30, m, _, rfl, S7.pn, by show n + 30 ≤ 1000000000000; omega, by rw [List.length_map]; omega, by rw [List.length_map]; omega, fun sp H8 sp0' sp1' b8 p8 => ?_⟩
    rw [List.length_map] at sp1'
    obtain ⟨s, rfl⟩ : ∃ s : Nat, sp = (s : Int) := ⟨sp.toNat, by omega⟩
    have sl' : s < ts.length := by omega
    have S8 := S7.draw Fp b8 p8
    have hg8 := b8 _ _ gp hg7
    have b48 := b7.trans (.of_but b8)
    clear S7 hg7 b7 b8 p8
    obtain ⟨t, et⟩ : ∃ t, t = ts[s] := ⟨_, rfl⟩
    have tat : ts[s]? = some t := by rw [List.getElem?_eq_getElem sl', et]
    obtain ⟨cc, hcc, htc⟩ := prd_get hp tat
    have ccm := List.mem_of_getElem? hcc
    obtain ⟨ccs, ccv⟩ := cv cc ccm
    have htc8 := S8.b _ _ (tp t (List.mem_of_getElem? tat)) htc
    have gat : atI (ts.map V.ref) (s : Int) = some (.ref t) := by rw [atI_nat, List.getElem?_map, tat]; rfl
    have cw : cc.2 = .non ∨ isTgt4 cc.2 := by
      rw [((ps.mem cc).mp ccm).2]
      exact gV_or4 ok2 cc.1
    -- prefix, name
    refine ⟨fun σ H' => ∃ (x8 x13 : Option V), σ = [some (.ref p), some (.int (z : Int)), some (.ref g), some (.ref a), some (.ref b), some (.str bits), some (.ref F), some (.ref Cg), x8, some (.ref Sm_), some (.str cc.1), some (.ref Gn), some (.int (s : Int)), x13, some cc.2, none, none, none, none] ∧ H' = H8, ?_, ?_⟩
    · exact ⟨.ref g, rfl, .int (s : Int), rfl, g, _, _, .ref t, rfl, rfl, SqL.of hg8, gat, t, _, rfl, SqT.of htc8, rfl, _, _, rfl, _, _, rfl, rfl, _, _, rfl, rfl⟩
    rintro σ H8' ⟨x8, x13, rfl, eH⟩
    obtain rfl := eH.symm
    have hS8 := b48 _ _ Sn.1 Sn.2 hS4
    have itS := itS.move b48
    clear hS4 itG hG4
    refine ⟨by show 0 ≤ sizeLine; decide, fun X2 nX2 => ?_⟩
    generalize hh : upd H8 X2 _ = H8xX2
    have sX2 : Same H8 H8xX2 := by rw [← hh]; exact same_upd nX2
    have hX2 : H8xX2 X2 = some (.tup []) := by rw [← hh]; exact upd_same
    clear hh
    have X2n := S8.nn nX2
    have hg8 := sX2 _ _ hg8
    have hS8 := sX2 _ _ hS8
    have itS := itS.move (.of_same sX2)
    have S8 := S8.same sX2
    have b48 := b48.trans (.of_same sX2)
    clear sX2 nX2
    refine ⟨.str cc.1, rfl, cc.2, rfl, by show 2 ≤ sizeLine; decide, fun X3 nX3 => ?_⟩
    generalize hh : upd H8xX2 X3 _ = H8xX3
    have sX3 : Same H8xX2 H8xX3 := by rw [← hh]; exact same_upd nX3
    have hX3 : H8xX3 X3 = some (.lst [.str cc.1, cc.2]) := by rw [← hh]; exact upd_same
    clear hh
    have X3n := S8.nn nX3
    have hg8 := sX3 _ _ hg8
    have hS8 := sX3 _ _ hS8
    have hX2 := sX3 _ _ hX2
    have itS := itS.move (.of_same sX3)
    have S8 := S8.same sX3
    have b48 := b48.trans (.of_same sX3)
    clear sX3 nX3
    refine ⟨.str cc.1, rfl, .str cc.1, rfl, by show 1 ≤ sizeLine; decide, fun X5 nX5 => ?_⟩
    generalize hh : upd H8xX3 X5 _ = H8xX5
    have sX5 : Same H8xX3 H8xX5 := by rw [← hh]; exact same_upd nX5
    have hX5 : H8xX5 X5 = some (.tup [.str cc.1]) := by rw [← hh]; exact upd_same
    clear hh
    have X5n := S8.nn nX5
    have hg8 := sX5 _ _ hg8
    have hS8 := sX5 _ _ hS8
    have hX2 := sX5 _ _ hX2
    have hX3 := sX5 _ _ hX3
    have itS := itS.move (.of_same sX5)
    have S8 := S8.same sX5
    have b48 := b48.trans (.of_same sX5)
    clear sX5 nX5
    refine ⟨.str cc.1, rfl, cc.2, rfl, by show 3 ≤ sizeLine; decide, fun X6 nX6 => ?_⟩
    generalize hh : upd H8xX5 X6 _ = H8xX6
    have sX6 : Same H8xX5 H8xX6 := by rw [← hh]; exact same_upd nX6
    have hX6 : H8xX6 X6 = some (.tup [.str cc.1, cc.2, .int 1]) := by rw [← hh]; exact upd_same
    clear hh
    have X6n := S8.nn nX6
    have hg8 := sX6 _ _ hg8
    have hS8 := sX6 _ _ hS8
    have hX2 := sX6 _ _ hX2
    have hX3 := sX6 _ _ hX3
    have hX5 := sX6 _ _ hX5
    have itS := itS.move (.of_same sX6)
    have S8 := S8.same sX6
    have b48 := b48.trans (.of_same sX6)
    clear sX6 nX6
    refine ⟨.str cc.1, rfl, _, _, rfl, rfl, Nat.le_trans (show _ ≤ 1000 by have h1 := ccs.ln; have h2 : Str.length "2" = 1 := (by decide); have h3 : Str.length " " = 1 := (by decide); omega) (by decide), cc.2, rfl, by show 2 ≤ sizeLine; decide, fun X7 nX7 => ?_⟩
    generalize hh : upd H8xX6 X7 _ = H8xX7
    have sX7 : Same H8xX6 H8xX7 := by rw [← hh]; exact same_upd nX7
    have hX7 : H8xX7 X7 = some (.tup [.str ("2" ++ cc.1), cc.2]) := by rw [← hh]; exact upd_same
    clear hh
    have X7n := S8.nn nX7
    have hg8 := sX7 _ _ hg8
    have hS8 := sX7 _ _ hS8
    have hX2 := sX7 _ _ hX2
    have hX3 := sX7 _ _ hX3
    have hX5 := sX7 _ _ hX5
    have hX6 := sX7 _ _ hX6
    have itS := itS.move (.of_same sX7)
    have S8 := S8.same sX7
    have b48 := b48.trans (.of_same sX7)
    clear sX7 nX7
    refine ⟨cc.2, rfl, by show 2 ≤ sizeLine; decide, fun X8 nX8 => ?_⟩
    generalize hh : upd H8xX7 X8 _ = H8xX8
    have sX8 : Same H8xX7 H8xX8 := by rw [← hh]; exact same_upd nX8
    have hX8 : H8xX8 X8 = some (.tup [.non, cc.2]) := by rw [← hh]; exact upd_same
    clear hh
    have X8n := S8.nn nX8
    have hg8 := sX8 _ _ hg8
    have hS8 := sX8 _ _ hS8
    have hX2 := sX8 _ _ hX2
    have hX3 := sX8 _ _ hX3
    have hX5 := sX8 _ _ hX5
    have hX6 := sX8 _ _ hX6
    have hX7 := sX8 _ _ hX7
    have itS := itS.move (.of_same sX8)
    have S8 := S8.same sX8
    have b48 := b48.trans (.of_same sX8)
    clear sX8 nX8
    refine fun X9 nX9 => ?_
    generalize hh : upd H8xX8 X9 _ = H8xX9
    have sX9 : Same H8xX8 H8xX9 := by rw [← hh]; exact same_upd nX9
    have hX9 : H8xX9 X9 = some (.dK []) := by rw [← hh]; exact upd_same
    clear hh
    have X9n := S8.nn nX9
    have hg8 := sX9 _ _ hg8
    have hS8 := sX9 _ _ hS8
    have hX2 := sX9 _ _ hX2
    have hX3 := sX9 _ _ hX3
    have hX5 := sX9 _ _ hX5
    have hX6 := sX9 _ _ hX6
    have hX7 := sX9 _ _ hX7
    have hX8 := sX9 _ _ hX8
    have itS := itS.move (.of_same sX9)
    have S8 := S8.same sX9
    have b48 := b48.trans (.of_same sX9)
    clear sX9 nX9
    refine ⟨by show 10 ≤ sizeLine; decide, fun O1 nO1 => ?_⟩
    generalize hh : upd H8xX9 O1 _ = H8xO1
    have sO1 : Same H8xX9 H8xO1 := by rw [← hh]; exact same_upd nO1
    have hO1 : H8xO1 O1 = some (.lst [.non, .ref X2, .ref X3, .str cc.1, .ref X5, .ref X6, .ref X7, .ref X8, .ref X9, .int 0]) := by rw [← hh]; exact upd_same
    clear hh
    have O1n := S8.nn nO1
    have hg8 := sO1 _ _ hg8
    have hS8 := sO1 _ _ hS8
    have hX2 := sO1 _ _ hX2
    have hX3 := sO1 _ _ hX3
    have hX5 := sO1 _ _ hX5
    have hX6 := sO1 _ _ hX6
    have hX7 := sO1 _ _ hX7
    have hX8 := sO1 _ _ hX8
    have hX9 := sO1 _ _ hX9
    have itS := itS.move (.of_same sO1)
    have S8 := S8.same sO1
    have b48 := b48.trans (.of_same sO1)
    clear sO1 nO1
    have okp : OkD 2 610 (.str cc.1) := (ccs.ok (B := 322) (by decide)).mono (by decide) (by decide)
    have okn : OkD 2 610 (vD cc.2) := ccv.ok.mono (by decide) (by decide)
    have oki : ∀ k : Int, (k = 0 ∨ k = 1 ∨ k = 10 ^ 39) → OkD 2 610 (.int k) := fun k h => by
      rcases h with rfl | rfl | rfl <;> exact ⟨by decide +kernel, by decide +kernel, by decide +kernel⟩
    have two : ("2" ++ cc.1 : Str) ∉ cs.map (·.1) := fun h => by
      obtain ⟨c', hc', e⟩ := List.mem_map.mp h
      have hb := csb c' hc'
      rw [show c'.1 = "2" ++ cc.1 from e] at hb
      have := bits_iff.mp hb 50 (by rw [sg_app]; exact List.mem_append_left _ (by decide))
      omega
    have ok2p : OkD 2 610 (.str ("2" ++ cc.1)) := ((Sm.app (n := 1) ⟨by decide, by decide⟩ ccs).ok (B := 402) (by decide)).mono (by decide) (by decide)
    have th1 : ∀ v ∈ ([.non, .ref X2, .ref X3, .str cc.1, .ref X5, .ref X6, .ref X7, .ref X8, .ref X9, .int 0] : List V), Thing K p F H8xO1 cs cc v := by
      refine List.forall_mem_cons.mpr ⟨.plain .non ⟨by decide +kernel, by decide +kernel, by decide +kernel⟩ (fun _ _ e => by cases e), List.forall_mem_cons.mpr ⟨.plain (.tup X2n (SqT.of hX2) .nil) (ok3 (Nat.le_of_ble_eq_true rfl) fun _ h => absurd h List.not_mem_nil) (fun _ _ e => by cases e),
        List.forall_mem_cons.mpr ⟨.plain (.lst X3n (SqL.of hX3) (.cons (.str _) (.cons ccv.dr .nil))) (ok3l (Nat.le_of_ble_eq_true rfl) (ok_two okp okn)) (fun _ _ e => by cases e), List.forall_mem_cons.mpr ⟨.plain (.str _) (okp.mono (by decide) (by decide)) (fun _ _ e => by cases e),
        List.forall_mem_cons.mpr ⟨.plain (.tup X5n (SqT.of hX5) (.cons (.str _) .nil)) (ok3 (Nat.le_of_ble_eq_true rfl) (ok_one okp)) (fun _ _ e => by cases e), List.forall_mem_cons.mpr ⟨.plain (.tup X6n (SqT.of hX6) (.cons (.str _) (.cons ccv.dr (.cons (.int 1) .nil)))) (ok3 (Nat.le_of_ble_eq_true rfl) fun d hd => (by
          rcases List.mem_cons.mp hd with rfl | hd
          · exact okp
          · exact ok_two okn (oki 1 (.inr (.inl rfl))) d hd)) (fun _ _ e => by cases e),
        List.forall_mem_cons.mpr ⟨.pair (.tup X7n (SqT.of hX7) (.cons (.str _) (.cons ccv.dr .nil))) (ok3 (Nat.le_of_ble_eq_true rfl) (ok_two ok2p okn)) (.inl ccv.sh) (not_step two), List.forall_mem_cons.mpr ⟨.plain (.tup X8n (SqT.of hX8) (.cons .non (.cons ccv.dr .nil))) (ok3 (Nat.le_of_ble_eq_true rfl) (ok_two ⟨by decide +kernel, by decide +kernel, by decide +kernel⟩ okn)) (fun _ _ e => by cases e),
        List.forall_mem_cons.mpr ⟨.plain (.dic X9n (.inl hX9) .nil) ⟨by decide +kernel, by decide +kernel, by decide +kernel⟩ (fun _ _ e => by cases e), List.forall_mem_cons.mpr ⟨.plain (.int 0) ((oki 0 (.inl rfl)).mono (by decide) (by decide)) (fun _ _ e => by cases e), List.forall_mem_nil _⟩⟩⟩⟩⟩⟩⟩⟩⟩⟩
    clear hX2 hX3 hX5 hX6 hX7 hX8 hX9 X2n X3n X5n X6n X7n X8n X9n
    refine ⟨fun σ H' => ∃ (O : Addr) (vo : List V), σ = [some (.ref p), some (.int (z : Int)), some (.ref g), some (.ref a), some (.ref b), some (.str bits), some (.ref F), some (.ref Cg), x8, some (.ref Sm_), some (.str cc.1), some (.ref Gn), some (.int (s : Int)), x13, some cc.2, some (.ref O), none, none, none] ∧ H' O = some (.lst vo) ∧ NN p F O ∧ (∀ v ∈ vo, Thing K p F H' cs cc v) ∧ vo.length = 14 ∧ H' Sm_ = some (.lst vsm) ∧ ItAll K p F H' vsm dsm ∧ SpSt K p c F H H' cs fs2 (n + 30 + 1) m ∧ ButF p F H4 H', ?_, ?_⟩
    · have zzne : PyData.eqv (.str "zz") (vD cc.2) = false := by
        rcases cw with h | ⟨h1, h2⟩
        · rw [h]; rfl
        · obtain ⟨x, e, _⟩ := tgt_sm h1
          rw [e] at h2 ⊢
          show (("zz" : Str) == x) = false
          exact beq_eq_false_iff_ne.mpr fun q => h2 (by rw [q])
      have lne : PyData.eqv (.list [vD cc.2]) (vD cc.2) = false := by
        rcases ccv with h | ⟨x, h, _⟩ <;> rw [h] <;> rfl
      have lsh : SeqAt.shaped (.list [vD cc.2]) = true := by
        unfold SeqAt.shaped
        rw [Bool.and_eq_true]
        refine ⟨by simp only [PyData.canLay0, PyData.canLayAll0, Bool.and_true]; exact shaped_lay ccv.sh, decide_eq_true ?_⟩
        have := ccv.ok.dp
        simp only [PyData.depth, PyData.depthAll]
        omega
      by_cases hcn : cc.2 = .non
      · have sall : ButF p F H8xO1 H8xO1 := .refl
        refine ⟨.ref O1, rfl, .str cc.1, rfl, by show 2 ≤ sizeLine; decide, fun Y1 nY1 => ?_⟩
        generalize hh : upd H8xO1 Y1 _ = H8xY1
        have sY1 : Same H8xO1 H8xY1 := by rw [← hh]; exact same_upd nY1
        have hY1 : H8xY1 Y1 = some (.tup [.str cc.1, .str "zz"]) := by rw [← hh]; exact upd_same
        clear hh
        have Y1n := S8.nn nY1
        have hg8 := sY1 _ _ hg8
        have hS8 := sY1 _ _ hS8
        have hO1 := sY1 _ _ hO1
        have itS := itS.move (.of_same sY1)
        have S8 := S8.same sY1
        have sall := sall.trans (.of_same sY1)
        clear sY1 nY1
        refine ⟨.str cc.1, rfl, cc.2, rfl, rfl, _, rfl, iteNS hcn ⟨by show 2 ≤ sizeLine; decide, fun Y2 nY2 => ?_⟩⟩
        generalize hh : upd H8xY1 Y2 _ = H8xY2
        have sY2 : Same H8xY1 H8xY2 := by rw [← hh]; exact same_upd nY2
        have hY2 : H8xY2 Y2 = some (.tup [.str cc.1, .str "a"]) := by rw [← hh]; exact upd_same
        clear hh
        have Y2n := S8.nn nY2
        have hg8 := sY2 _ _ hg8
        have hS8 := sY2 _ _ hS8
        have hO1 := sY2 _ _ hO1
        have hY1 := sY2 _ _ hY1
        have itS := itS.move (.of_same sY2)
        have S8 := S8.same sY2
        have sall := sall.trans (.of_same sY2)
        clear sY2 nY2
        refine ⟨.str cc.1, rfl, cc.2, rfl, by show 1 ≤ sizeLine; decide, fun Y3 nY3 => ?_⟩
        generalize hh : upd H8xY2 Y3 _ = H8xY3
        have sY3 : Same H8xY2 H8xY3 := by rw [← hh]; exact same_upd nY3
        have hY3 : H8xY3 Y3 = some (.lst [cc.2]) := by rw [← hh]; exact upd_same
        clear hh
        have Y3n := S8.nn nY3
        have hg8 := sY3 _ _ hg8
        have hS8 := sY3 _ _ hS8
        have hO1 := sY3 _ _ hO1
        have hY1 := sY3 _ _ hY1
        have hY2 := sY3 _ _ hY2
        have itS := itS.move (.of_same sY3)
        have S8 := S8.same sY3
        have sall := sall.trans (.of_same sY3)
        clear sY3 nY3
        refine ⟨by show 2 ≤ sizeLine; decide, fun Y4 nY4 => ?_⟩
        generalize hh : upd H8xY3 Y4 _ = H8xY4
        have sY4 : Same H8xY3 H8xY4 := by rw [← hh]; exact same_upd nY4
        have hY4 : H8xY4 Y4 = some (.tup [.str cc.1, .ref Y3]) := by rw [← hh]; exact upd_same
        clear hh
        have Y4n := S8.nn nY4
        have hg8 := sY4 _ _ hg8
        have hS8 := sY4 _ _ hS8
        have hO1 := sY4 _ _ hO1
        have hY1 := sY4 _ _ hY1
        have hY2 := sY4 _ _ hY2
        have hY3 := sY4 _ _ hY3
        have itS := itS.move (.of_same sY4)
        have S8 := S8.same sY4
        have sall := sall.trans (.of_same sY4)
        clear sY4 nY4
        refine ⟨.str cc.1, rfl, by show 1 ≤ sizeLine; decide, fun Y5 nY5 => ?_⟩
        generalize hh : upd H8xY4 Y5 _ = H8xY5
        have sY5 : Same H8xY4 H8xY5 := by rw [← hh]; exact same_upd nY5
        have hY5 : H8xY5 Y5 = some (.lst [.str cc.1]) := by rw [← hh]; exact upd_same
        clear hh
        have Y5n := S8.nn nY5
        have hg8 := sY5 _ _ hg8
        have hS8 := sY5 _ _ hS8
        have hO1 := sY5 _ _ hO1
        have hY1 := sY5 _ _ hY1
        have hY2 := sY5 _ _ hY2
        have hY3 := sY5 _ _ hY3
        have hY4 := sY5 _ _ hY4
        have itS := itS.move (.of_same sY5)
        have S8 := S8.same sY5
        have sall := sall.trans (.of_same sY5)
        clear sY5 nY5
        refine ⟨cc.2, rfl, by show 2 ≤ sizeLine; decide, fun Y6 nY6 => ?_⟩
        generalize hh : upd H8xY5 Y6 _ = H8xY6
        have sY6 : Same H8xY5 H8xY6 := by rw [← hh]; exact same_upd nY6
        have hY6 : H8xY6 Y6 = some (.tup [.ref Y5, cc.2]) := by rw [← hh]; exact upd_same
        clear hh
        have Y6n := S8.nn nY6
        have hg8 := sY6 _ _ hg8
        have hS8 := sY6 _ _ hS8
        have hO1 := sY6 _ _ hO1
        have hY1 := sY6 _ _ hY1
        have hY2 := sY6 _ _ hY2
        have hY3 := sY6 _ _ hY3
        have hY4 := sY6 _ _ hY4
        have hY5 := sY6 _ _ hY5
        have itS := itS.move (.of_same sY6)
        have S8 := S8.same sY6
        have sall := sall.trans (.of_same sY6)
        clear sY6 nY6
        refine ⟨by show 4 ≤ sizeLine; decide, fun L2 nL2 => ?_⟩
        generalize hh : upd H8xY6 L2 _ = H8xL2
        have sL2 : Same H8xY6 H8xL2 := by rw [← hh]; exact same_upd nL2
        have hL2 : H8xL2 L2 = some (.lst [.ref Y1, .ref Y2, .ref Y4, .ref Y6]) := by rw [← hh]; exact upd_same
        clear hh
        have L2n := S8.nn nL2
        have hg8 := sL2 _ _ hg8
        have hS8 := sL2 _ _ hS8
        have hO1 := sL2 _ _ hO1
        have hY1 := sL2 _ _ hY1
        have hY2 := sL2 _ _ hY2
        have hY3 := sL2 _ _ hY3
        have hY4 := sL2 _ _ hY4
        have hY5 := sL2 _ _ hY5
        have hY6 := sL2 _ _ hY6
        have itS := itS.move (.of_same sL2)
        have S8 := S8.same sL2
        have sall := sall.trans (.of_same sL2)
        clear sL2 nL2
        refine ⟨O1, L2, _, _, rfl, rfl, hO1, hL2, by show 14 ≤ sizeLine; decide, fun O2 nO2 => ?_⟩
        generalize hh : upd H8xL2 O2 _ = H8xO2
        have sO2 : Same H8xL2 H8xO2 := by rw [← hh]; exact same_upd nO2
        have hO2 : H8xO2 O2 = some (.lst ([.non, .ref X2, .ref X3, .str cc.1, .ref X5, .ref X6, .ref X7, .ref X8, .ref X9, .int 0] ++ [.ref Y1, .ref Y2, .ref Y4, .ref Y6])) := by rw [← hh]; exact upd_same
        clear hh
        have O2n := S8.nn nO2
        have hg8 := sO2 _ _ hg8
        have hS8 := sO2 _ _ hS8
        have hO1 := sO2 _ _ hO1
        have hY1 := sO2 _ _ hY1
        have hY2 := sO2 _ _ hY2
        have hY3 := sO2 _ _ hY3
        have hY4 := sO2 _ _ hY4
        have hY5 := sO2 _ _ hY5
        have hY6 := sO2 _ _ hY6
        have hL2 := sO2 _ _ hL2
        have itS := itS.move (.of_same sO2)
        have S8 := S8.same sO2
        have sall := sall.trans (.of_same sO2)
        clear sO2 nO2
        have th2 : ∀ v ∈ ([.ref Y1, .ref Y2, .ref Y4, .ref Y6] : List V), Thing K p F H8xO2 cs cc v := by
          refine List.forall_mem_cons.mpr ⟨.pair (.tup Y1n (SqT.of hY1) (.cons (.str _) (.cons (.str _) .nil))) (ok3 (Nat.le_of_ble_eq_true rfl) (ok_two okp ⟨by decide +kernel, by decide +kernel, by decide +kernel⟩)) (.inl (shaped_str1 (smD (by decide +kernel)))) (step_at ps.nd ccm zzne),
            List.forall_mem_cons.mpr ⟨.pair (.tup Y2n (SqT.of hY2) (.cons (.str _) (.cons (.str _) .nil))) (ok3 (Nat.le_of_ble_eq_true rfl) (ok_two okp ⟨by decide +kernel, by decide +kernel, by decide +kernel⟩)) (.inl (shaped_str1 (smD (by decide +kernel)))) (step_at ps.nd ccm (by rw [hcn]; rfl)),
            List.forall_mem_cons.mpr ⟨.pair (.tup Y4n (SqT.of hY4) (.cons (.str _) (.cons (.lst Y3n (SqL.of hY3) (.cons ccv.dr .nil)) .nil))) (ok3 (Nat.le_of_ble_eq_true rfl) (ok_two okp ((OkD.list (n := 1) (Nat.le_of_ble_eq_true rfl) (ok_one (L := 0) (B := 602) ccv.ok)).mono (by decide) (by decide)))) (.inl lsh) (step_at ps.nd ccm lne),
            List.forall_mem_cons.mpr ⟨.plain (.tup Y6n (SqT.of hY6) (.cons (.lst Y5n (SqL.of hY5) (.cons (.str _) .nil)) (.cons ccv.dr .nil))) (ok3 (Nat.le_of_ble_eq_true rfl) (ok_two ((OkD.list (n := 1) (Nat.le_of_ble_eq_true rfl) (ok_one (L := 0) (B := 322) (ccs.ok (by decide)))).mono (by decide) (by decide)) okn)) (fun _ _ e => by cases e), List.forall_mem_nil _⟩⟩⟩⟩
        refine ⟨O2, _, rfl, hO2, O2n, fun v hv => ?_, rfl, hS8, itS, S8, b48.trans sall⟩
        rcases List.mem_append.mp hv with hv | hv
        · exact (th1 v hv).move sall
        · exact th2 v hv
      · have sall : ButF p F H8xO1 H8xO1 := .refl
        refine ⟨.ref O1, rfl, .str cc.1, rfl, by show 2 ≤ sizeLine; decide, fun Y1 nY1 => ?_⟩
        generalize hh : upd H8xO1 Y1 _ = H8xY1
        have sY1 : Same H8xO1 H8xY1 := by rw [← hh]; exact same_upd nY1
        have hY1 : H8xY1 Y1 = some (.tup [.str cc.1, .str "zz"]) := by rw [← hh]; exact upd_same
        clear hh
        have Y1n := S8.nn nY1
        have hg8 := sY1 _ _ hg8
        have hS8 := sY1 _ _ hS8
        have hO1 := sY1 _ _ hO1
        have itS := itS.move (.of_same sY1)
        have S8 := S8.same sY1
        have sall := sall.trans (.of_same sY1)
        clear sY1 nY1
        refine ⟨.str cc.1, rfl, cc.2, rfl, rfl, _, rfl, iteNT hcn ⟨by show 2 ≤ sizeLine; decide, fun Y2 nY2 => ?_⟩⟩
        generalize hh : upd H8xY1 Y2 _ = H8xY2
        have sY2 : Same H8xY1 H8xY2 := by rw [← hh]; exact same_upd nY2
        have hY2 : H8xY2 Y2 = some (.tup [.str cc.1, .non]) := by rw [← hh]; exact upd_same
        clear hh
        have Y2n := S8.nn nY2
        have hg8 := sY2 _ _ hg8
        have hS8 := sY2 _ _ hS8
        have hO1 := sY2 _ _ hO1
        have hY1 := sY2 _ _ hY1
        have itS := itS.move (.of_same sY2)
        have S8 := S8.same sY2
        have sall := sall.trans (.of_same sY2)
        clear sY2 nY2
        refine ⟨.str cc.1, rfl, cc.2, rfl, by show 1 ≤ sizeLine; decide, fun Y3 nY3 => ?_⟩
        generalize hh : upd H8xY2 Y3 _ = H8xY3
        have sY3 : Same H8xY2 H8xY3 := by rw [← hh]; exact same_upd nY3
        have hY3 : H8xY3 Y3 = some (.lst [cc.2]) := by rw [← hh]; exact upd_same
        clear hh
        have Y3n := S8.nn nY3
        have hg8 := sY3 _ _ hg8
        have hS8 := sY3 _ _ hS8
        have hO1 := sY3 _ _ hO1
        have hY1 := sY3 _ _ hY1
        have hY2 := sY3 _ _ hY2
        have itS := itS.move (.of_same sY3)
        have S8 := S8.same sY3
        have sall := sall.trans (.of_same sY3)
        clear sY3 nY3
        refine ⟨by show 2 ≤ sizeLine; decide, fun Y4 nY4 => ?_⟩
        generalize hh : upd H8xY3 Y4 _ = H8xY4
        have sY4 : Same H8xY3 H8xY4 := by rw [← hh]; exact same_upd nY4
        have hY4 : H8xY4 Y4 = some (.tup [.str cc.1, .ref Y3]) := by rw [← hh]; exact upd_same
        clear hh
        have Y4n := S8.nn nY4
        have hg8 := sY4 _ _ hg8
        have hS8 := sY4 _ _ hS8
        have hO1 := sY4 _ _ hO1
        have hY1 := sY4 _ _ hY1
        have hY2 := sY4 _ _ hY2
        have hY3 := sY4 _ _ hY3
        have itS := itS.move (.of_same sY4)
        have S8 := S8.same sY4
        have sall := sall.trans (.of_same sY4)
        clear sY4 nY4
        refine ⟨.str cc.1, rfl, by show 1 ≤ sizeLine; decide, fun Y5 nY5 => ?_⟩
        generalize hh : upd H8xY4 Y5 _ = H8xY5
        have sY5 : Same H8xY4 H8xY5 := by rw [← hh]; exact same_upd nY5
        have hY5 : H8xY5 Y5 = some (.lst [.str cc.1]) := by rw [← hh]; exact upd_same
        clear hh
        have Y5n := S8.nn nY5
        have hg8 := sY5 _ _ hg8
        have hS8 := sY5 _ _ hS8
        have hO1 := sY5 _ _ hO1
        have hY1 := sY5 _ _ hY1
        have hY2 := sY5 _ _ hY2
        have hY3 := sY5 _ _ hY3
        have hY4 := sY5 _ _ hY4
        have itS := itS.move (.of_same sY5)
        have S8 := S8.same sY5
        have sall := sall.trans (.of_same sY5)
        clear sY5 nY5
        refine ⟨cc.2, rfl, by show 2 ≤ sizeLine; decide, fun Y6 nY6 => ?_⟩
        generalize hh : upd H8xY5 Y6 _ = H8xY6
        have sY6 : Same H8xY5 H8xY6 := by rw [← hh]; exact same_upd nY6
        have hY6 : H8xY6 Y6 = some (.tup [.ref Y5, cc.2]) := by rw [← hh]; exact upd_same
        clear hh
        have Y6n := S8.nn nY6
        have hg8 := sY6 _ _ hg8
        have hS8 := sY6 _ _ hS8
        have hO1 := sY6 _ _ hO1
        have hY1 := sY6 _ _ hY1
        have hY2 := sY6 _ _ hY2
        have hY3 := sY6 _ _ hY3
        have hY4 := sY6 _ _ hY4
        have hY5 := sY6 _ _ hY5
        have itS := itS.move (.of_same sY6)
        have S8 := S8.same sY6
        have sall := sall.trans (.of_same sY6)
        clear sY6 nY6
        refine ⟨by show 4 ≤ sizeLine; decide, fun L2 nL2 => ?_⟩
        generalize hh : upd H8xY6 L2 _ = H8xL2
        have sL2 : Same H8xY6 H8xL2 := by rw [← hh]; exact same_upd nL2
        have hL2 : H8xL2 L2 = some (.lst [.ref Y1, .ref Y2, .ref Y4, .ref Y6]) := by rw [← hh]; exact upd_same
        clear hh
        have L2n := S8.nn nL2
        have hg8 := sL2 _ _ hg8
        have hS8 := sL2 _ _ hS8
        have hO1 := sL2 _ _ hO1
        have hY1 := sL2 _ _ hY1
        have hY2 := sL2 _ _ hY2
        have hY3 := sL2 _ _ hY3
        have hY4 := sL2 _ _ hY4
        have hY5 := sL2 _ _ hY5
        have hY6 := sL2 _ _ hY6
        have itS := itS.move (.of_same sL2)
        have S8 := S8.same sL2
        have sall := sall.trans (.of_same sL2)
        clear sL2 nL2
        refine ⟨O1, L2, _, _, rfl, rfl, hO1, hL2, by show 14 ≤ sizeLine; decide, fun O2 nO2 => ?_⟩
        generalize hh : upd H8xL2 O2 _ = H8xO2
        have sO2 : Same H8xL2 H8xO2 := by rw [← hh]; exact same_upd nO2
        have hO2 : H8xO2 O2 = some (.lst ([.non, .ref X2, .ref X3, .str cc.1, .ref X5, .ref X6, .ref X7, .ref X8, .ref X9, .int 0] ++ [.ref Y1, .ref Y2, .ref Y4, .ref Y6])) := by rw [← hh]; exact upd_same
        clear hh
        have O2n := S8.nn nO2
        have hg8 := sO2 _ _ hg8
        have hS8 := sO2 _ _ hS8
        have hO1 := sO2 _ _ hO1
        have hY1 := sO2 _ _ hY1
        have hY2 := sO2 _ _ hY2
        have hY3 := sO2 _ _ hY3
        have hY4 := sO2 _ _ hY4
        have hY5 := sO2 _ _ hY5
        have hY6 := sO2 _ _ hY6
        have hL2 := sO2 _ _ hL2
        have itS := itS.move (.of_same sO2)
        have S8 := S8.same sO2
        have sall := sall.trans (.of_same sO2)
        clear sO2 nO2
        have th2 : ∀ v ∈ ([.ref Y1, .ref Y2, .ref Y4, .ref Y6] : List V), Thing K p F H8xO2 cs cc v := by
          refine List.forall_mem_cons.mpr ⟨.pair (.tup Y1n (SqT.of hY1) (.cons (.str _) (.cons (.str _) .nil))) (ok3 (Nat.le_of_ble_eq_true rfl) (ok_two okp ⟨by decide +kernel, by decide +kernel, by decide +kernel⟩)) (.inl (shaped_str1 (smD (by decide +kernel)))) (step_at ps.nd ccm zzne),
            List.forall_mem_cons.mpr ⟨.pair (.tup Y2n (SqT.of hY2) (.cons (.str _) (.cons .non .nil))) (ok3 (Nat.le_of_ble_eq_true rfl) (ok_two okp ⟨by decide +kernel, by decide +kernel, by decide +kernel⟩)) (.inl rfl) (step_at ps.nd ccm (by (rcases ccv with h | ⟨x, h, _⟩; exact absurd h hcn; rw [h]; rfl))),
            List.forall_mem_cons.mpr ⟨.pair (.tup Y4n (SqT.of hY4) (.cons (.str _) (.cons (.lst Y3n (SqL.of hY3) (.cons ccv.dr .nil)) .nil))) (ok3 (Nat.le_of_ble_eq_true rfl) (ok_two okp ((OkD.list (n := 1) (Nat.le_of_ble_eq_true rfl) (ok_one (L := 0) (B := 602) ccv.ok)).mono (by decide) (by decide)))) (.inl lsh) (step_at ps.nd ccm lne),
            List.forall_mem_cons.mpr ⟨.plain (.tup Y6n (SqT.of hY6) (.cons (.lst Y5n (SqL.of hY5) (.cons (.str _) .nil)) (.cons ccv.dr .nil))) (ok3 (Nat.le_of_ble_eq_true rfl) (ok_two ((OkD.list (n := 1) (Nat.le_of_ble_eq_true rfl) (ok_one (L := 0) (B := 322) (ccs.ok (by decide)))).mono (by decide) (by decide)) okn)) (fun _ _ e => by cases e), List.forall_mem_nil _⟩⟩⟩⟩
        refine ⟨O2, _, rfl, hO2, O2n, fun v hv => ?_, rfl, hS8, itS, S8, b48.trans sall⟩
        rcases List.mem_append.mp hv with hv | hv
        · exact (th1 v hv).move sall
        · exact th2 v hv
    rintro σ H9 ⟨O, vo, rfl, hO9, On, th9, vol, hS9, itS, S9, b9⟩
    have ball : ButF p F H9 H9 := .refl
    refine ⟨.ref O, rfl, .str cc.1, rfl, by show 1 ≤ sizeLine; decide, fun Z1 nZ1 => ?_⟩
    generalize hh : upd H9 Z1 _ = H9xZ1
    have sZ1 : Same H9 H9xZ1 := by rw [← hh]; exact same_upd nZ1
    have hZ1 : H9xZ1 Z1 = some (.tup [.str cc.1]) := by rw [← hh]; exact upd_same
    clear hh
    have Z1n := S9.nn nZ1
    have hS9 := sZ1 _ _ hS9
    have hO9 := sZ1 _ _ hO9
    have itS := itS.move (.of_same sZ1)
    have S9 := S9.same sZ1
    have ball := ball.trans (.of_same sZ1)
    clear sZ1 nZ1
    refine ⟨cc.2, rfl, by show 2 ≤ sizeLine; decide, fun Z2 nZ2 => ?_⟩
    generalize hh : upd H9xZ1 Z2 _ = H9xZ2
    have sZ2 : Same H9xZ1 H9xZ2 := by rw [← hh]; exact same_upd nZ2
    have hZ2 : H9xZ2 Z2 = some (.tup [.ref Z1, cc.2]) := by rw [← hh]; exact upd_same
    clear hh
    have Z2n := S9.nn nZ2
    have hS9 := sZ2 _ _ hS9
    have hO9 := sZ2 _ _ hO9
    have hZ1 := sZ2 _ _ hZ1
    have itS := itS.move (.of_same sZ2)
    have S9 := S9.same sZ2
    have ball := ball.trans (.of_same sZ2)
    clear sZ2 nZ2
    refine ⟨.str cc.1, rfl, by show 2 ≤ sizeLine; decide, fun Z3 nZ3 => ?_⟩
    generalize hh : upd H9xZ2 Z3 _ = H9xZ3
    have sZ3 : Same H9xZ2 H9xZ3 := by rw [← hh]; exact same_upd nZ3
    have hZ3 : H9xZ3 Z3 = some (.tup [.str cc.1, .bl true]) := by rw [← hh]; exact upd_same
    clear hh
    have Z3n := S9.nn nZ3
    have hS9 := sZ3 _ _ hS9
    have hO9 := sZ3 _ _ hO9
    have hZ1 := sZ3 _ _ hZ1
    have hZ2 := sZ3 _ _ hZ2
    have itS := itS.move (.of_same sZ3)
    have S9 := S9.same sZ3
    have ball := ball.trans (.of_same sZ3)
    clear sZ3 nZ3
    refine ⟨.str cc.1, rfl, _, _, rfl, rfl, ⟨by decide, by decide, by decide⟩, by show 2 ≤ sizeLine; decide, fun Z4 nZ4 => ?_⟩
    generalize hh : upd H9xZ3 Z4 _ = H9xZ4
    have sZ4 : Same H9xZ3 H9xZ4 := by rw [← hh]; exact same_upd nZ4
    have hZ4 : H9xZ4 Z4 = some (.tup [.str cc.1, .int (10 ^ (39 : Int).toNat)]) := by rw [← hh]; exact upd_same
    clear hh
    have Z4n := S9.nn nZ4
    have hS9 := sZ4 _ _ hS9
    have hO9 := sZ4 _ _ hO9
    have hZ1 := sZ4 _ _ hZ1
    have hZ2 := sZ4 _ _ hZ2
    have hZ3 := sZ4 _ _ hZ3
    have itS := itS.move (.of_same sZ4)
    have S9 := S9.same sZ4
    have ball := ball.trans (.of_same sZ4)
    clear sZ4 nZ4
    refine ⟨.str cc.1, rfl, _, _, rfl, rfl, Nat.le_trans (show _ ≤ 1000 by have h1 := ccs.ln; have h2 : Str.length "2" = 1 := (by decide); have h3 : Str.length " " = 1 := (by decide); omega) (by decide), cc.2, rfl, by show 2 ≤ sizeLine; decide, fun Z5 nZ5 => ?_⟩
    generalize hh : upd H9xZ4 Z5 _ = H9xZ5
    have sZ5 : Same H9xZ4 H9xZ5 := by rw [← hh]; exact same_upd nZ5
    have hZ5 : H9xZ5 Z5 = some (.tup [.str (cc.1 ++ " "), cc.2]) := by rw [← hh]; exact upd_same
    clear hh
    have Z5n := S9.nn nZ5
    have hS9 := sZ5 _ _ hS9
    have hO9 := sZ5 _ _ hO9
    have hZ1 := sZ5 _ _ hZ1
    have hZ2 := sZ5 _ _ hZ2
    have hZ3 := sZ5 _ _ hZ3
    have hZ4 := sZ5 _ _ hZ4
    have itS := itS.move (.of_same sZ5)
    have S9 := S9.same sZ5
    have ball := ball.trans (.of_same sZ5)
    clear sZ5 nZ5
    refine ⟨by show 4 ≤ sizeLine; decide, fun L3 nL3 => ?_⟩
    generalize hh : upd H9xZ5 L3 _ = H9xL3
    have sL3 : Same H9xZ5 H9xL3 := by rw [← hh]; exact same_upd nL3
    have hL3 : H9xL3 L3 = some (.lst [.ref Z2, .ref Z3, .ref Z4, .ref Z5]) := by rw [← hh]; exact upd_same
    clear hh
    have L3n := S9.nn nL3
    have hS9 := sL3 _ _ hS9
    have hO9 := sL3 _ _ hO9
    have hZ1 := sL3 _ _ hZ1
    have hZ2 := sL3 _ _ hZ2
    have hZ3 := sL3 _ _ hZ3
    have hZ4 := sL3 _ _ hZ4
    have hZ5 := sL3 _ _ hZ5
    have itS := itS.move (.of_same sL3)
    have S9 := S9.same sL3
    have ball := ball.trans (.of_same sL3)
    clear sL3 nL3
    refine ⟨O, L3, _, _, rfl, rfl, hO9, hL3, by rw [vol]; show 18 ≤ sizeLine; decide, fun O3 nO3 => ?_⟩
    generalize hh : upd H9xL3 O3 _ = H9xO3
    have sO3 : Same H9xL3 H9xO3 := by rw [← hh]; exact same_upd nO3
    have hO3 : H9xO3 O3 = some (.lst (vo ++ [.ref Z2, .ref Z3, .ref Z4, .ref Z5])) := by rw [← hh]; exact upd_same
    clear hh
    have O3n := S9.nn nO3
    have hS9 := sO3 _ _ hS9
    have hO9 := sO3 _ _ hO9
    have hZ1 := sO3 _ _ hZ1
    have hZ2 := sO3 _ _ hZ2
    have hZ3 := sO3 _ _ hZ3
    have hZ4 := sO3 _ _ hZ4
    have hZ5 := sO3 _ _ hZ5
    have hL3 := sO3 _ _ hL3
    have itS := itS.move (.of_same sO3)
    have S9 := S9.same sO3
    have ball := ball.trans (.of_same sO3)
    clear sO3 nO3
    refine ⟨fun σ H' => ∃ (O : Addr) (vo : List V), σ = [some (.ref p), some (.int (z : Int)), some (.ref g), some (.ref a), some (.ref b), some (.str bits), some (.ref F), some (.ref Cg), x8, some (.ref Sm_), some (.str cc.1), some (.ref Gn), some (.int (s : Int)), x13, some cc.2, some (.ref O), none, none, none] ∧ H' O = some (.lst vo) ∧ NN p F O ∧ (∀ v ∈ vo, Thing K p F H' cs cc v) ∧ vo.length = 20 ∧ H' Sm_ = some (.lst vsm) ∧ ItAll K p F H' vsm dsm ∧ SpSt K p c F H H' cs fs2 (n + 30 + 1) m ∧ ButF p F H4 H', ?_, ?_⟩
    · refine ⟨.ref O3, rfl, by show 0 ≤ sizeLine; decide, fun W1 nW1 => ?_⟩
      generalize hh : upd H9xO3 W1 _ = H9xW1
      have sW1 : Same H9xO3 H9xW1 := by rw [← hh]; exact same_upd nW1
      have hW1 : H9xW1 W1 = some (.lst []) := by rw [← hh]; exact upd_same
      clear hh
      have W1n := S9.nn nW1
      have hS9 := sW1 _ _ hS9
      have hO9 := sW1 _ _ hO9
      have hZ1 := sW1 _ _ hZ1
      have hZ2 := sW1 _ _ hZ2
      have hZ3 := sW1 _ _ hZ3
      have hZ4 := sW1 _ _ hZ4
      have hZ5 := sW1 _ _ hZ5
      have hL3 := sW1 _ _ hL3
      have hO3 := sW1 _ _ hO3
      have itS := itS.move (.of_same sW1)
      have S9 := S9.same sW1
      have ball := ball.trans (.of_same sW1)
      clear sW1 nW1
      refine ⟨by show 1 ≤ sizeLine; decide, fun W2 nW2 => ?_⟩
      generalize hh : upd H9xW1 W2 _ = H9xW2
      have sW2 : Same H9xW1 H9xW2 := by rw [← hh]; exact same_upd nW2
      have hW2 : H9xW2 W2 = some (.tup [.ref W1]) := by rw [← hh]; exact upd_same
      clear hh
      have W2n := S9.nn nW2
      have hS9 := sW2 _ _ hS9
      have hO9 := sW2 _ _ hO9
      have hZ1 := sW2 _ _ hZ1
      have hZ2 := sW2 _ _ hZ2
      have hZ3 := sW2 _ _ hZ3
      have hZ4 := sW2 _ _ hZ4
      have hZ5 := sW2 _ _ hZ5
      have hL3 := sW2 _ _ hL3
      have hO3 := sW2 _ _ hO3
      have hW1 := sW2 _ _ hW1
      have itS := itS.move (.of_same sW2)
      have S9 := S9.same sW2
      have ball := ball.trans (.of_same sW2)
      clear sW2 nW2
      refine ⟨cc.2, rfl, by show 2 ≤ sizeLine; decide, fun W3 nW3 => ?_⟩
      generalize hh : upd H9xW2 W3 _ = H9xW3
      have sW3 : Same H9xW2 H9xW3 := by rw [← hh]; exact same_upd nW3
      have hW3 : H9xW3 W3 = some (.tup [.ref W2, cc.2]) := by rw [← hh]; exact upd_same
      clear hh
      have W3n := S9.nn nW3
      have hS9 := sW3 _ _ hS9
      have hO9 := sW3 _ _ hO9
      have hZ1 := sW3 _ _ hZ1
      have hZ2 := sW3 _ _ hZ2
      have hZ3 := sW3 _ _ hZ3
      have hZ4 := sW3 _ _ hZ4
      have hZ5 := sW3 _ _ hZ5
      have hL3 := sW3 _ _ hL3
      have hO3 := sW3 _ _ hO3
      have hW1 := sW3 _ _ hW1
      have hW2 := sW3 _ _ hW2
      have itS := itS.move (.of_same sW3)
      have S9 := S9.same sW3
      have ball := ball.trans (.of_same sW3)
      clear sW3 nW3
      refine ⟨.str cc.1, rfl, fun W4 nW4 => ?_⟩
      generalize hh : upd H9xW3 W4 _ = H9xW4
      have sW4 : Same H9xW3 H9xW4 := by rw [← hh]; exact same_upd nW4
      have hW4 : H9xW4 W4 = some (.dK []) := by rw [← hh]; exact upd_same
      clear hh
      have W4n := S9.nn nW4
      have hS9 := sW4 _ _ hS9
      have hO9 := sW4 _ _ hO9
      have hZ1 := sW4 _ _ hZ1
      have hZ2 := sW4 _ _ hZ2
      have hZ3 := sW4 _ _ hZ3
      have hZ4 := sW4 _ _ hZ4
      have hZ5 := sW4 _ _ hZ5
      have hL3 := sW4 _ _ hL3
      have hO3 := sW4 _ _ hO3
      have hW1 := sW4 _ _ hW1
      have hW2 := sW4 _ _ hW2
      have hW3 := sW4 _ _ hW3
      have itS := itS.move (.of_same sW4)
      have S9 := S9.same sW4
      have ball := ball.trans (.of_same sW4)
      clear sW4 nW4
      refine ⟨by show 2 ≤ sizeLine; decide, fun W5 nW5 => ?_⟩
      generalize hh : upd H9xW4 W5 _ = H9xW5
      have sW5 : Same H9xW4 H9xW5 := by rw [← hh]; exact same_upd nW5
      have hW5 : H9xW5 W5 = some (.tup [.str cc.1, .ref W4]) := by rw [← hh]; exact upd_same
      clear hh
      have W5n := S9.nn nW5
      have hS9 := sW5 _ _ hS9
      have hO9 := sW5 _ _ hO9
      have hZ1 := sW5 _ _ hZ1
      have hZ2 := sW5 _ _ hZ2
      have hZ3 := sW5 _ _ hZ3
      have hZ4 := sW5 _ _ hZ4
      have hZ5 := sW5 _ _ hZ5
      have hL3 := sW5 _ _ hL3
      have hO3 := sW5 _ _ hO3
      have hW1 := sW5 _ _ hW1
      have hW2 := sW5 _ _ hW2
      have hW3 := sW5 _ _ hW3
      have hW4 := sW5 _ _ hW4
      have itS := itS.move (.of_same sW5)
      have S9 := S9.same sW5
      have ball := ball.trans (.of_same sW5)
      clear sW5 nW5
      refine ⟨by show 2 ≤ sizeLine; decide, fun L4 nL4 => ?_⟩
      generalize hh : upd H9xW5 L4 _ = H9xL4
      have sL4 : Same H9xW5 H9xL4 := by rw [← hh]; exact same_upd nL4
      have hL4 : H9xL4 L4 = some (.lst [.ref W3, .ref W5]) := by rw [← hh]; exact upd_same
      clear hh
      have L4n := S9.nn nL4
      have hS9 := sL4 _ _ hS9
      have hO9 := sL4 _ _ hO9
      have hZ1 := sL4 _ _ hZ1
      have hZ2 := sL4 _ _ hZ2
      have hZ3 := sL4 _ _ hZ3
      have hZ4 := sL4 _ _ hZ4
      have hZ5 := sL4 _ _ hZ5
      have hL3 := sL4 _ _ hL3
      have hO3 := sL4 _ _ hO3
      have hW1 := sL4 _ _ hW1
      have hW2 := sL4 _ _ hW2
      have hW3 := sL4 _ _ hW3
      have hW4 := sL4 _ _ hW4
      have hW5 := sL4 _ _ hW5
      have itS := itS.move (.of_same sL4)
      have S9 := S9.same sL4
      have ball := ball.trans (.of_same sL4)
      clear sL4 nL4
      refine ⟨O3, L4, _, _, rfl, rfl, hO3, hL4, by rw [List.length_append, vol]; show 20 ≤ sizeLine; decide, fun O4 nO4 => ?_⟩
      generalize hh : upd H9xL4 O4 _ = H9xO4
      have sO4 : Same H9xL4 H9xO4 := by rw [← hh]; exact same_upd nO4
      have hO4 : H9xO4 O4 = some (.lst (vo ++ [.ref Z2, .ref Z3, .ref Z4, .ref Z5] ++ [.ref W3, .ref W5])) := by rw [← hh]; exact upd_same
      clear hh
      have O4n := S9.nn nO4
      have hS9 := sO4 _ _ hS9
      have hO9 := sO4 _ _ hO9
      have hZ1 := sO4 _ _ hZ1
      have hZ2 := sO4 _ _ hZ2
      have hZ3 := sO4 _ _ hZ3
      have hZ4 := sO4 _ _ hZ4
      have hZ5 := sO4 _ _ hZ5
      have hL3 := sO4 _ _ hL3
      have hO3 := sO4 _ _ hO3
      have hW1 := sO4 _ _ hW1
      have hW2 := sO4 _ _ hW2
      have hW3 := sO4 _ _ hW3
      have hW4 := sO4 _ _ hW4
      have hW5 := sO4 _ _ hW5
      have hL4 := sO4 _ _ hL4
      have itS := itS.move (.of_same sO4)
      have S9 := S9.same sO4
      have ball := ball.trans (.of_same sO4)
      clear sO4 nO4
      have sp2 : (cc.1 ++ " " : Str) ∉ cs.map (·.1) := fun h => by
        obtain ⟨c', hc', e⟩ := List.mem_map.mp h
        have hb := csb c' hc'
        rw [show c'.1 = cc.1 ++ " " from e] at hb
        have := bits_iff.mp hb 32 (by rw [sg_app]; exact List.mem_append_right _ (by decide))
        omega
      have ok2s : OkD 2 610 (.str (cc.1 ++ " ")) := ((Sm.app (m := 1) ccs ⟨by decide, by decide⟩).ok (B := 402) (by decide)).mono (by decide) (by decide)
      have th2 : ∀ v ∈ ([.ref Z2, .ref Z3, .ref Z4, .ref Z5] : List V), Thing K p F H9xO4 cs cc v := by
        refine List.forall_mem_cons.mpr ⟨.plain (.tup Z2n (SqT.of hZ2) (.cons (.tup Z1n (SqT.of hZ1) (.cons (.str _) .nil)) (.cons ccv.dr .nil))) (ok3 (Nat.le_of_ble_eq_true rfl) (ok_two ((OkD.tuple (n := 1) (Nat.le_of_ble_eq_true rfl) (ok_one (L := 0) (B := 322) (ccs.ok (by decide)))).mono (by decide) (by decide)) okn)) (fun _ _ e => by cases e),
          List.forall_mem_cons.mpr ⟨.pair (.tup Z3n (SqT.of hZ3) (.cons (.str _) (.cons (.bl true) .nil))) (ok3 (Nat.le_of_ble_eq_true rfl) (ok_two okp ⟨by decide +kernel, by decide +kernel, by decide +kernel⟩)) (.inl rfl) (step_at ps.nd ccm (by rcases ccv with h | ⟨x, h, _⟩ <;> rw [h] <;> rfl)),
          List.forall_mem_cons.mpr ⟨.pair (.tup Z4n (SqT.of hZ4) (.cons (.str _) (.cons (.int _) .nil))) (ok3 (Nat.le_of_ble_eq_true rfl) (ok_two okp ⟨by decide +kernel, by decide +kernel, by decide +kernel⟩)) (.inl rfl) (step_at ps.nd ccm (by rcases ccv with h | ⟨x, h, _⟩ <;> rw [h] <;> rfl)),
          List.forall_mem_cons.mpr ⟨.pair (.tup Z5n (SqT.of hZ5) (.cons (.str _) (.cons ccv.dr .nil))) (ok3 (Nat.le_of_ble_eq_true rfl) (ok_two ok2s okn)) (.inl ccv.sh) (not_step sp2), List.forall_mem_nil _⟩⟩⟩⟩
      have th3 : ∀ v ∈ ([.ref W3, .ref W5] : List V), Thing K p F H9xO4 cs cc v := by
        refine List.forall_mem_cons.mpr ⟨.plain (.tup W3n (SqT.of hW3) (.cons (.tup W2n (SqT.of hW2) (.cons (.lst W1n (SqL.of hW1) .nil) .nil)) (.cons ccv.dr .nil))) (ok3 (Nat.le_of_ble_eq_true rfl) (ok_two ⟨by decide +kernel, by decide +kernel, by decide +kernel⟩ okn)) (fun _ _ e => by cases e),
          List.forall_mem_cons.mpr ⟨.pair (.tup W5n (SqT.of hW5) (.cons (.str _) (.cons (.dic W4n (.inl hW4) .nil) .nil))) (ok3 (Nat.le_of_ble_eq_true rfl) (ok_two okp ⟨by decide +kernel, by decide +kernel, by decide +kernel⟩)) (.inr ⟨_, rfl⟩) (step_at ps.nd ccm (by rcases ccv with h | ⟨x, h, _⟩ <;> rw [h] <;> rfl)), List.forall_mem_nil _⟩⟩
      refine ⟨O4, _, rfl, hO4, O4n, fun v hv => ?_, by rw [List.length_append, List.length_append, vol]; rfl, hS9, itS, S9, b9.trans ball⟩
      rcases List.mem_append.mp hv with hv | hv
      · rcases List.mem_append.mp hv with hv | hv
        · exact (th9 v hv).move ball
        · exact th2 v hv
      · exact th3 v hv
    clear hO9 th9 hS9 S9 b9 ball
    rintro σ HA ⟨O5, vo5, rfl, hO, On5, tho, vol5, hSA, itS5, SA, bA⟩
    -- early
    have hgA := SA.b _ _ gp hg
    refine ⟨.ref p, rfl, .int (s : Int), rfl, _, 1, rfl, rfl, p, c, n + 30 + 1, m, _, rfl, SA.pn, by show n + 30 + 1 ≤ 1000000000000; omega, by omega, by omega, fun ea HB ea0 ea1 bB pB => ?_⟩
    obtain ⟨j, rfl⟩ : ∃ j : Nat, ea = (j : Int) := ⟨ea.toNat, by omega⟩
    have SB := SA.draw Fp bB pB
    have hO := bB _ _ On5.1 hO
    have hSB := bB _ _ Sn.1 hSA
    have itS := itS5.move (.of_but bB)
    have tho := fun v hv => (tho v hv).move (.of_but bB)
    have haB := SB.b _ _ ap ha
    have hbB := SB.b _ _ bp hb
    clear SA bA hgA hSA itS5 bB pB
    refine ⟨fun σ H' => ∃ (x13 : Option V) (fs' : List V), σ = [some (.ref p), some (.int (z : Int)), some (.ref g), some (.ref a), some (.ref b), some (.str bits), some (.ref F), some (.ref Cg), x8, some (.ref Sm_), some (.str cc.1), some (.ref Gn), some (.int (s : Int)), x13, some cc.2, some (.ref O5), some (.int (j : Int)), none, none] ∧ fs'.length ≤ 50 ∧ SpSt K p c F H H' cs fs' (n + 30 + 1 + 1) m ∧ ButF p F HB H', ?_, ?_⟩
    · have bBB : ButF p F HB HB := .refl
      refine ⟨.ref a, rfl, a, rfl, .inl ⟨_, .inl haB⟩, .str cc.1, rfl, _, DGet.k (k := .inr cc.1) haB, .ref b, rfl, b, rfl, .inl ⟨_, .inl hbB⟩, .str cc.1, rfl, 1, rfl, -1, rfl, cc.1, rfl, Nat.le_trans ccs.ln (by decide), _, DGet.k (k := .inr (cutS cc.1 none (some (-1)))) hbB, by show 5 ≤ sizeLine; decide, fun Y nY => ?_⟩
      generalize hh : upd HB Y _ = HBxY
      have sY : Same HB HBxY := by rw [← hh]; exact same_upd nY
      have hY : HBxY Y = some (.lst [gV ks cc.1, .non, .str "a", .str "ab", gV ls (cutS cc.1 none (some (-1)))]) := by rw [← hh]; exact upd_same
      clear hh
      have Yn := SB.nn nY
      have SB := SB.same sY
      have bBB := bBB.trans (.of_same sY)
      clear sY nY
      have vts : ∀ v ∈ ([gV ks cc.1, .non, .str "a", .str "ab", gV ls (cutS cc.1 none (some (-1)))] : List V), VT v := by
        refine List.forall_mem_cons.mpr ⟨.of (gV_or ok1' _), List.forall_mem_cons.mpr ⟨.inl rfl, List.forall_mem_cons.mpr ⟨vtS (by decide +kernel), List.forall_mem_cons.mpr ⟨vtS (by decide +kernel), List.forall_mem_cons.mpr ⟨.of (gV_or ok2' _), List.forall_mem_nil _⟩⟩⟩⟩⟩
      have vl : ([gV ks cc.1, .non, .str "a", .str "ab", gV ls (cutS cc.1 none (some (-1)))] : List V).length = 5 := rfl
      generalize ([gV ks cc.1, .non, .str "a", .str "ab", gV ls (cutS cc.1 none (some (-1)))] : List V) = stp at hY vts vl
      refine ⟨Y, rfl, ⟨_, SqL.of hY⟩, for_list (K := K) (a := Y) (xs := stp) (fun i σ H' => (∃ (x13 : Option V) (fs' : List V), σ = [some (.ref p), some (.int (z : Int)), some (.ref g), some (.ref a), some (.ref b), some (.str bits), some (.ref F), some (.ref Cg), x8, some (.ref Sm_), some (.str cc.1), some (.ref Gn), some (.int (s : Int)), x13, some cc.2, some (.ref O5), some (.int (j : Int)), none, none] ∧ fs'.length ≤ 40 + i ∧ SpSt K p c F H H' cs fs' (n + 30 + 1 + 1) m) ∧ ButF p F HBxY H') ⟨⟨_, fs2, rfl, by omega, SB⟩, .refl⟩ (fun _ _ _ _ h => SqL.of (h.2 _ _ Yn.1 Yn.2 hY)) ?_ ?_⟩
      rotate_left
      · rintro σ H9 ⟨⟨x13, fs', rfl, fl', S9⟩, b9⟩
        exact ⟨_, fs', rfl, by omega, S9, bBB.trans b9⟩
      rintro i v σ H9 hv ⟨⟨x13, fs', rfl, fl', S9⟩, b9⟩
      have vv := vts v (List.mem_of_getElem? hv)
      have iil := (List.getElem?_eq_some_iff.mp hv).1
      have hg9 := S9.b _ _ gp hg
      refine ⟨.ref F, rfl, .inl ⟨rfl, _, SqL.of S9.hF⟩, ?_⟩
      refine ⟨.ref g, rfl, .int (j : Int), rfl, (j : Int), rfl, g, _, rfl, SqL.of hg9, fun A nA => ?_⟩
      generalize hh : upd H9 A _ = H9xA
      have sA : Same H9 H9xA := by rw [← hh]; exact same_upd nA
      have hA : H9xA A = some (.lst ((ts.map V.ref).take j)) := by rw [← hh, upd_same, cut_to _ _ (by rw [List.length_map]; omega)]
      clear hh
      have An := S9.nn nA
      have hg9 := sA _ _ hg9
      have S9 := S9.same sA
      have b9 := b9.trans (.of_same sA)
      clear sA nA
      refine ⟨.str cc.1, rfl, v, rfl, by show 2 ≤ sizeLine; decide, fun T nT => ?_⟩
      generalize hh : upd H9xA T _ = H9xT
      have sT : Same H9xA H9xT := by rw [← hh]; exact same_upd nT
      have hT : H9xT T = some (.tup [.str cc.1, v]) := by rw [← hh]; exact upd_same
      clear hh
      have Tn := S9.nn nT
      have hg9 := sT _ _ hg9
      have hA := sT _ _ hA
      have S9 := S9.same sT
      have b9 := b9.trans (.of_same sT)
      clear sT nT
      refine ⟨by show 1 ≤ sizeLine; decide, fun B nB => ?_⟩
      generalize hh : upd H9xT B _ = H9xB
      have sB : Same H9xT H9xB := by rw [← hh]; exact same_upd nB
      have hB : H9xB B = some (.lst [.ref T]) := by rw [← hh]; exact upd_same
      clear hh
      have Bn := S9.nn nB
      have hg9 := sB _ _ hg9
      have hA := sB _ _ hA
      have hT := sB _ _ hT
      have S9 := S9.same sB
      have b9 := b9.trans (.of_same sB)
      clear sB nB
      refine ⟨A, B, _, _, rfl, rfl, hA, hB, by simp only [List.length_append, List.length_map, List.length_cons, List.length_nil, List.length_take, List.length_drop]; exact big_of (by omega), fun E nE => ?_⟩
      generalize hh : upd H9xB E _ = H9xE
      have sE : Same H9xB H9xE := by rw [← hh]; exact same_upd nE
      have hE : H9xE E = some (.lst ((ts.map V.ref).take j ++ [.ref T])) := by rw [← hh]; exact upd_same
      clear hh
      have En := S9.nn nE
      have hg9 := sE _ _ hg9
      have hA := sE _ _ hA
      have hT := sE _ _ hT
      have hB := sE _ _ hB
      have S9 := S9.same sE
      have b9 := b9.trans (.of_same sE)
      clear sE nE
      refine ⟨.ref g, rfl, .int (j : Int), rfl, (j : Int), rfl, g, _, rfl, SqL.of hg9, fun G nG => ?_⟩
      generalize hh : upd H9xE G _ = H9xG
      have sG : Same H9xE H9xG := by rw [← hh]; exact same_upd nG
      have hG : H9xG G = some (.lst ((ts.map V.ref).drop j)) := by rw [← hh, upd_same, cut_from]
      clear hh
      have hg9 := sG _ _ hg9
      have hA := sG _ _ hA
      have hT := sG _ _ hT
      have hB := sG _ _ hB
      have hE := sG _ _ hE
      have S9 := S9.same sG
      have b9 := b9.trans (.of_same sG)
      refine ⟨E, G, _, _, rfl, rfl, hE, hG, by simp only [List.length_append, List.length_map, List.length_cons, List.length_nil, List.length_take, List.length_drop]; exact big_of (by omega), fun R nR => ?_⟩
      generalize hh : upd H9xG R _ = H9xR
      have sR : Same H9xG H9xR := by rw [← hh]; exact same_upd nR
      have hR : H9xR R = some (.lst ((ts.map V.ref).take j ++ [.ref T] ++ (ts.map V.ref).drop j)) := by rw [← hh]; exact upd_same
      clear hh
      have Rn := S9.nn nR
      have hg9 := sR _ _ hg9
      have hA := sR _ _ hA
      have hT := sR _ _ hT
      have hB := sR _ _ hB
      have hE := sR _ _ hE
      have hG := sR _ _ hG
      have S9 := S9.same sR
      have b9 := b9.trans (.of_same sR)
      clear sR nR
      have i1 := ItAll.pair (K := K) hT Tn (ccs.mono (by decide)) vv
      have itR := (((S9.ga F0 tp hp cv).take j).app i1).app ((S9.ga F0 tp hp cv).drop j)
      have isR := itR.spoilt (cs := cs) hR Rn (by rw [len_mid]; show _ + 1 ≤ _; omega) (.inl (by rw [len_mid]; show _ + 1 ≠ _; omega))
      exact ⟨F, _, _, rfl, rfl, S9.hF, big_lt (by omega), ⟨_, _, rfl, by rw [List.length_append]; show fs'.length + 1 ≤ _; omega, S9.push F0 Fp Fc isR⟩, b9.trans .upd⟩
    rintro σ HC ⟨x13, fs3, rfl, fl3, SC, bC⟩
    have hO := bC _ _ On5.1 On5.2 hO
    have hSB := bC _ _ Sn.1 Sn.2 hSB
    have itS := itS.move bC
    have tho := fun v hv => (tho v hv).move bC
    clear SB haB hbB bC
    have hgC := SC.b _ _ gp hg
    have ball : ButF p F HC HC := .refl
    refine ⟨.ref g, rfl, .int (s : Int), rfl, (s : Int), rfl, g, _, rfl, SqL.of hgC, fun A nA => ?_⟩
    generalize hh : upd HC A _ = HCxA
    have sA : Same HC HCxA := by rw [← hh]; exact same_upd nA
    have hA : HCxA A = some (.lst ((ts.map V.ref).take s)) := by rw [← hh, upd_same, cut_to _ _ (by rw [List.length_map]; omega)]
    clear hh
    have An := SC.nn nA
    have hgC := sA _ _ hgC
    have hSB := sA _ _ hSB
    have hO := sA _ _ hO
    have itS := itS.move (.of_same sA)
    have SC := SC.same sA
    have ball := ball.trans (.of_same sA)
    clear sA nA
    refine ⟨.ref g, rfl, .int (s : Int), rfl, (s : Int), 1, rfl, rfl, _, rfl, g, _, rfl, SqL.of hgC, fun B nB => ?_⟩
    rw [show (s : Int) + 1 = ((s + 1 : Nat) : Int) by omega]
    generalize hh : upd HCxA B _ = HCxB
    have sB : Same HCxA HCxB := by rw [← hh]; exact same_upd nB
    have hB : HCxB B = some (.lst ((ts.map V.ref).drop (s + 1))) := by rw [← hh, upd_same, cut_from]
    clear hh
    have Bn := SC.nn nB
    have hgC := sB _ _ hgC
    have hSB := sB _ _ hSB
    have hO := sB _ _ hO
    have hA := sB _ _ hA
    have itS := itS.move (.of_same sB)
    have SC := SC.same sB
    have ball := ball.trans (.of_same sB)
    clear sB nB
    refine ⟨A, B, _, _, rfl, rfl, hA, hB, by simp only [List.length_append, List.length_map, List.length_cons, List.length_nil, List.length_take, List.length_drop]; exact big_of (by omega), fun Rr nRr => ?_⟩
    generalize hh : upd HCxB Rr _ = HCxRr
    have sRr : Same HCxB HCxRr := by rw [← hh]; exact same_upd nRr
    have hRr : HCxRr Rr = some (.lst ((ts.map V.ref).take s ++ (ts.map V.ref).drop (s + 1))) := by rw [← hh]; exact upd_same
    clear hh
    have Rrn := SC.nn nRr
    have hgC := sRr _ _ hgC
    have hSB := sRr _ _ hSB
    have hO := sRr _ _ hO
    have hA := sRr _ _ hA
    have hB := sRr _ _ hB
    have itS := itS.move (.of_same sRr)
    have SC := SC.same sRr
    have ball := ball.trans (.of_same sRr)
    clear sRr nRr
    have gar := ((SC.ga F0 tp hp cv).take s).app ((SC.ga F0 tp hp cv).drop (s + 1))
    have rne := rest_ne ps.nd hcc
    have scl : s < cs.length := (List.getElem?_eq_some_iff.mp hcc).1
    have rl : ((cs.map cD).take s ++ (cs.map cD).drop (s + 1)).length + 1 = cs.length := by
      rw [List.length_append, List.length_take, List.length_drop, List.length_map]
      omega
    have tho := fun v hv => (tho v hv).move ball
    clear hA hB
    refine ⟨fun σ H' => ∃ (O : Addr) (vo : List V), σ = [some (.ref p), some (.int (z : Int)), some (.ref g), some (.ref a), some (.ref b), some (.str bits), some (.ref F), some (.ref Cg), x8, some (.ref Sm_), some (.str cc.1), some (.ref Gn), some (.int (s : Int)), x13, some cc.2, some (.ref O), some (.int (j : Int)), some (.ref Rr), none] ∧ H' O = some (.lst vo) ∧ NN p F O ∧ (∀ v ∈ vo, Thing K p F H' cs cc v) ∧ vo.length ≤ 100 ∧ ButF p F HCxRr H' ∧ SpSt K p c F H H' cs fs3 (n + 30 + 1 + 1) m, ?_, ?_⟩
    · have b2 : ButF p F HCxRr HCxRr := .refl
      refine ⟨.ref O5, rfl, .ref Rr, rfl, 3, rfl, Rr, _, rfl, SqL.of hRr, fun V1 nV1 => ?_⟩
      generalize hh : upd HCxRr V1 _ = HCxV1
      have sV1 : Same HCxRr HCxV1 := by rw [← hh]; exact same_upd nV1
      have hV1 : HCxV1 V1 = some (.lst (cutV ((ts.map V.ref).take s ++ (ts.map V.ref).drop (s + 1)) none (some 3))) := by rw [← hh]; exact upd_same
      clear hh
      have V1n := SC.nn nV1
      have hgC := sV1 _ _ hgC
      have hSB := sV1 _ _ hSB
      have hO := sV1 _ _ hO
      have hRr := sV1 _ _ hRr
      have itS := itS.move (.of_same sV1)
      have gar := gar.move (.of_same sV1)
      have SC := SC.same sV1
      have b2 := b2.trans (.of_same sV1)
      clear sV1 nV1
      have l1 := cutV_length ((ts.map V.ref).take s ++ (ts.map V.ref).drop (s + 1)) none (some 3)
      have l1' : ((ts.map V.ref).take s ++ (ts.map V.ref).drop (s + 1)).length ≤ 60 := by rw [List.length_append, List.length_take, List.length_drop, List.length_map]; omega
      refine ⟨O5, V1, _, _, rfl, rfl, hO, hV1, by rw [vol5]; exact big_of (by omega), fun O6 nO6 => ?_⟩
      generalize hh : upd HCxV1 O6 _ = HCxO6
      have sO6 : Same HCxV1 HCxO6 := by rw [← hh]; exact same_upd nO6
      have hO6 : HCxO6 O6 = some (.lst (vo5 ++ cutV ((ts.map V.ref).take s ++ (ts.map V.ref).drop (s + 1)) none (some 3))) := by rw [← hh]; exact upd_same
      clear hh
      have O6n := SC.nn nO6
      have hgC := sO6 _ _ hgC
      have hSB := sO6 _ _ hSB
      have hO := sO6 _ _ hO
      have hRr := sO6 _ _ hRr
      have hV1 := sO6 _ _ hV1
      have itS := itS.move (.of_same sO6)
      have gar := gar.move (.of_same sO6)
      have SC := SC.same sO6
      have b2 := b2.trans (.of_same sO6)
      clear sO6 nO6
      refine ⟨.ref Sm_, rfl, 1, rfl, Sm_, _, rfl, SqL.of hSB, fun V2 nV2 => ?_⟩
      generalize hh : upd HCxO6 V2 _ = HCxV2
      have sV2 : Same HCxO6 HCxV2 := by rw [← hh]; exact same_upd nV2
      have hV2 : HCxV2 V2 = some (.lst (cutV vsm none (some 1))) := by rw [← hh]; exact upd_same
      clear hh
      have V2n := SC.nn nV2
      have hgC := sV2 _ _ hgC
      have hSB := sV2 _ _ hSB
      have hO := sV2 _ _ hO
      have hRr := sV2 _ _ hRr
      have hV1 := sV2 _ _ hV1
      have hO6 := sV2 _ _ hO6
      have itS := itS.move (.of_same sV2)
      have gar := gar.move (.of_same sV2)
      have SC := SC.same sV2
      have b2 := b2.trans (.of_same sV2)
      clear sV2 nV2
      have l2 := cutV_length vsm none (some 1)
      refine ⟨O6, V2, _, _, rfl, rfl, hO6, hV2, by rw [List.length_append, vol5]; exact big_of (by omega), fun O7 nO7 => ?_⟩
      generalize hh : upd HCxV2 O7 _ = HCxO7
      have sO7 : Same HCxV2 HCxO7 := by rw [← hh]; exact same_upd nO7
      have hO7 : HCxO7 O7 = some (.lst (vo5 ++ cutV ((ts.map V.ref).take s ++ (ts.map V.ref).drop (s + 1)) none (some 3) ++ cutV vsm none (some 1))) := by rw [← hh]; exact upd_same
      clear hh
      have O7n := SC.nn nO7
      have hgC := sO7 _ _ hgC
      have hSB := sO7 _ _ hSB
      have hO := sO7 _ _ hO
      have hRr := sO7 _ _ hRr
      have hV1 := sO7 _ _ hV1
      have hO6 := sO7 _ _ hO6
      have hV2 := sO7 _ _ hV2
      have itS := itS.move (.of_same sO7)
      have gar := gar.move (.of_same sO7)
      have SC := SC.same sO7
      have b2 := b2.trans (.of_same sO7)
      clear sO7 nO7
      refine ⟨O7, _, rfl, hO7, O7n, fun v hv => ?_, by rw [List.length_append, List.length_append, vol5]; omega, b2, SC⟩
      rcases List.mem_append.mp hv with hv | hv
      · rcases List.mem_append.mp hv with hv | hv
        · exact (tho v hv).move b2
        · exact gar.th (fun d hd => by
            obtain ⟨c', e, ne⟩ := rne d hd
            rw [e]
            exact .inr (cD_ne ne)) (cutV_mem hv)
      · exact itS.th (fun d hd => .inl (nso d hd)) (cutV_mem hv)
    clear hO tho hSB itS
    rintro σ HD' ⟨O7, vo7, rfl, hO, On7, tho, vol7, bD, SD⟩
    have hgD := SD.b _ _ gp hg
    have hRr := bD _ _ Rrn.1 Rrn.2 hRr
    have gar := gar.move bD
    clear hgC SC ball bD
    refine ⟨fun σ H' => ∃ (x8' : Option V) (F2 : Addr) (fs : List V), σ = [some (.ref p), some (.int (z : Int)), some (.ref g), some (.ref a), some (.ref b), some (.str bits), some (.ref F2), some (.ref Cg), x8', some (.ref Sm_), some (.str cc.1), some (.ref Gn), some (.int (s : Int)), x13, some cc.2, some (.ref O7), some (.int (j : Int)), some (.ref Rr), none] ∧ H' F2 = some (.lst fs) ∧ NN p F F2 ∧ (∀ v ∈ fs, ItS K p F H' cs v) ∧ fs.length ≤ 120 ∧ ButF p F HD' H' ∧ SpSt K p c F H H' cs fs3 (n + 30 + 1 + 1) m, ?_, ?_⟩
    · have b2 : ButF p F HD' HD' := .refl
      refine ⟨.ref F, rfl, .ref Rr, rfl, .ref g, rfl, .ref g, rfl, .int (s : Int), rfl, g, _, _, .ref t, rfl, rfl, SqL.of hgD, gat, by show 1 ≤ sizeLine; decide, fun G1 nG1 => ?_⟩
      generalize hh : upd HD' G1 _ = HD'xG1
      have sG1 : Same HD' HD'xG1 := by rw [← hh]; exact same_upd nG1
      have hG1 : HD'xG1 G1 = some (.lst [.ref t]) := by rw [← hh]; exact upd_same
      clear hh
      have G1n := SD.nn nG1
      have hgD := sG1 _ _ hgD
      have hRr := sG1 _ _ hRr
      have gar := gar.move (.of_same sG1)
      have SD := SD.same sG1
      have b2 := b2.trans (.of_same sG1)
      clear sG1 nG1
      refine ⟨g, G1, _, _, rfl, rfl, hgD, hG1, by simp only [List.length_append, List.length_map, List.length_cons, List.length_nil, List.length_take, List.length_drop]; exact big_of (by omega), fun K1 nK1 => ?_⟩
      generalize hh : upd HD'xG1 K1 _ = HD'xK1
      have sK1 : Same HD'xG1 HD'xK1 := by rw [← hh]; exact same_upd nK1
      have hK1 : HD'xK1 K1 = some (.lst ((ts.map V.ref) ++ [.ref t])) := by rw [← hh]; exact upd_same
      clear hh
      have K1n := SD.nn nK1
      have hgD := sK1 _ _ hgD
      have hRr := sK1 _ _ hRr
      have hG1 := sK1 _ _ hG1
      have gar := gar.move (.of_same sK1)
      have SD := SD.same sK1
      have b2 := b2.trans (.of_same sK1)
      clear sK1 nK1
      refine ⟨.ref g, rfl, .int (s : Int), rfl, g, _, _, .ref t, rfl, rfl, SqL.of hgD, gat, by show 1 ≤ sizeLine; decide, fun G2 nG2 => ?_⟩
      generalize hh : upd HD'xK1 G2 _ = HD'xG2
      have sG2 : Same HD'xK1 HD'xG2 := by rw [← hh]; exact same_upd nG2
      have hG2 : HD'xG2 G2 = some (.lst [.ref t]) := by rw [← hh]; exact upd_same
      clear hh
      have G2n := SD.nn nG2
      have hgD := sG2 _ _ hgD
      have hRr := sG2 _ _ hRr
      have hG1 := sG2 _ _ hG1
      have hK1 := sG2 _ _ hK1
      have gar := gar.move (.of_same sG2)
      have SD := SD.same sG2
      have b2 := b2.trans (.of_same sG2)
      clear sG2 nG2
      refine ⟨.ref g, rfl, G2, g, _, _, rfl, rfl, hG2, hgD, by simp only [List.length_append, List.length_map, List.length_cons, List.length_nil, List.length_take, List.length_drop]; exact big_of (by omega), fun K2 nK2 => ?_⟩
      generalize hh : upd HD'xG2 K2 _ = HD'xK2
      have sK2 : Same HD'xG2 HD'xK2 := by rw [← hh]; exact same_upd nK2
      have hK2 : HD'xK2 K2 = some (.lst ([.ref t] ++ (ts.map V.ref))) := by rw [← hh]; exact upd_same
      clear hh
      have K2n := SD.nn nK2
      have hgD := sK2 _ _ hgD
      have hRr := sK2 _ _ hRr
      have hG1 := sK2 _ _ hG1
      have hK1 := sK2 _ _ hK1
      have hG2 := sK2 _ _ hG2
      have gar := gar.move (.of_same sK2)
      have SD := SD.same sK2
      have b2 := b2.trans (.of_same sK2)
      clear sK2 nK2
      refine ⟨by show 3 ≤ sizeLine; decide, fun K3 nK3 => ?_⟩
      generalize hh : upd HD'xK2 K3 _ = HD'xK3
      have sK3 : Same HD'xK2 HD'xK3 := by rw [← hh]; exact same_upd nK3
      have hK3 : HD'xK3 K3 = some (.lst [.ref Rr, .ref K1, .ref K2]) := by rw [← hh]; exact upd_same
      clear hh
      have K3n := SD.nn nK3
      have hgD := sK3 _ _ hgD
      have hRr := sK3 _ _ hRr
      have hG1 := sK3 _ _ hG1
      have hK1 := sK3 _ _ hK1
      have hG2 := sK3 _ _ hG2
      have hK2 := sK3 _ _ hK2
      have gar := gar.move (.of_same sK3)
      have SD := SD.same sK3
      have b2 := b2.trans (.of_same sK3)
      clear sK3 nK3
      refine ⟨F, K3, _, _, rfl, rfl, SD.hF, hK3, by simp only [List.length_cons, List.length_nil]; exact big_of (by omega), fun K4 nK4 => ?_⟩
      generalize hh : upd HD'xK3 K4 _ = HD'xK4
      have sK4 : Same HD'xK3 HD'xK4 := by rw [← hh]; exact same_upd nK4
      have hK4 : HD'xK4 K4 = some (.lst (fs3 ++ [.ref Rr, .ref K1, .ref K2])) := by rw [← hh]; exact upd_same
      clear hh
      have K4n := SD.nn nK4
      have hgD := sK4 _ _ hgD
      have hRr := sK4 _ _ hRr
      have hG1 := sK4 _ _ hG1
      have hK1 := sK4 _ _ hK1
      have hG2 := sK4 _ _ hG2
      have hK2 := sK4 _ _ hK2
      have hK3 := sK4 _ _ hK3
      have gar := gar.move (.of_same sK4)
      have SD := SD.same sK4
      have b2 := b2.trans (.of_same sK4)
      clear sK4 nK4
      refine ⟨.ref Rr, rfl, 2, rfl, Rr, _, rfl, SqL.of hRr, fun V3 nV3 => ?_⟩
      generalize hh : upd HD'xK4 V3 _ = HD'xV3
      have sV3 : Same HD'xK4 HD'xV3 := by rw [← hh]; exact same_upd nV3
      have hV3 : HD'xV3 V3 = some (.lst (cutV ((ts.map V.ref).take s ++ (ts.map V.ref).drop (s + 1)) none (some 2))) := by rw [← hh]; exact upd_same
      clear hh
      have V3n := SD.nn nV3
      have hgD := sV3 _ _ hgD
      have hRr := sV3 _ _ hRr
      have hG1 := sV3 _ _ hG1
      have hK1 := sV3 _ _ hK1
      have hG2 := sV3 _ _ hG2
      have hK2 := sV3 _ _ hK2
      have hK3 := sV3 _ _ hK3
      have hK4 := sV3 _ _ hK4
      have gar := gar.move (.of_same sV3)
      have SD := SD.same sV3
      have b2 := b2.trans (.of_same sV3)
      clear sV3 nV3
      have gdD := gd_at (K := K) SD.b F0 tp hp
      have gaD := gdD.all cv
      have it1 : ItAll K p F HD'xV3 [.ref t] [cD cc] := ItAll.pair (SD.b _ _ (tp t (List.mem_of_getElem? tat)) htc) (gdD.ne t (List.mem_of_getElem? tat)) (ccs.mono (by decide)) ccv
      have l3 := cutV_length ((ts.map V.ref).take s ++ (ts.map V.ref).drop (s + 1)) none (some 2)
      have l3' : ((ts.map V.ref).take s ++ (ts.map V.ref).drop (s + 1)).length ≤ 60 := by rw [List.length_append, List.length_take, List.length_drop, List.length_map]; omega
      refine ⟨V3, rfl, ⟨_, SqL.of hV3⟩, fun D nD => ?_⟩
      refine lc_it (walk_list (K := K) (a := V3) (xs := cutV ((ts.map V.ref).take s ++ (ts.map V.ref).drop (s + 1)) none (some 2))) (fun i H' => ∃ rs : List V, H' D = some (.lst rs) ∧ rs.length = i ∧ (∀ v ∈ rs, Rec K p F D HD'xV3 H' cs v) ∧ Same HD'xV3 H') ⟨[], upd_same, rfl, fun _ h => absurd h List.not_mem_nil, same_upd nD⟩ (fun _ _ _ h => by obtain ⟨_, _, _, _, h⟩ := h; exact SqL.of (h _ _ hV3)) ?_ ?_
      · rintro i v HE HE' hi ⟨rs, hD, rsl, rec, sE⟩ ⟨rfl, hv⟩
        obtain ⟨d, dm, itv⟩ := gar.get (cutV_mem (List.mem_of_getElem? hv))
        obtain ⟨c', ed, cne⟩ := rne d dm
        have hRE := sE _ _ hRr
        refine ⟨rfl, yes_if ⟨.ref Rr, rfl, v, rfl, by show 1 ≤ sizeLine; decide, fun B nB => ?_⟩⟩
        generalize hh : upd HE' B _ = HG
        have sB : Same HE' HG := by rw [← hh]; exact same_upd nB
        have hB : HG B = some (.lst [v]) := by rw [← hh]; exact upd_same
        clear hh
        refine ⟨Rr, B, _, _, rfl, rfl, sB _ _ hRE, hB, by simp only [List.length_cons, List.length_nil]; exact big_of (by omega), fun R nR => ?_⟩
        generalize hh : upd HG R _ = HI
        have sR : Same HG HI := by rw [← hh]; exact same_upd nR
        have hR : HI R = some (.lst (((ts.map V.ref).take s ++ (ts.map V.ref).drop (s + 1)) ++ [v])) := by rw [← hh]; exact upd_same
        clear hh
        have hDI := sR _ _ (sB _ _ hD)
        have RD : R ≠ D := (ne_of_none (sB _ _ hD) nR).symm
        have Rn := SD.nn (sE.free (sB.free nR))
        refine ⟨_, hDI, by rw [rsl]; exact big_lt (by omega), rs ++ [.ref R], upd_same, by rw [List.length_append, rsl]; rfl, fun w hw => ?_, fun b' o eb => ?_⟩
        · rcases List.mem_append.mp hw with hw | hw
          · exact (rec w hw).move fun b' o nb e => by rw [upd_ne nb]; exact sR _ _ (sB _ _ e)
          · rw [List.mem_singleton.mp hw]
            refine ⟨R, _, _, rfl, RD, Rn, by rw [upd_ne RD]; exact hR, gar.app itv, by rw [List.length_append]; show _ + 1 ≤ 70; omega, .inr (.inr ⟨cc, ccm, fun x hx t' => ?_⟩)⟩
            rcases List.mem_append.mp hx with hx | hx
            · obtain ⟨c2, e2, n2⟩ := rne x hx
              rw [e2]
              exact cD_ne n2 t'
            · rw [List.mem_singleton.mp hx, ed]
              exact cD_ne cne t'
        · rw [upd_ne (ne_of_none eb nD)]
          exact sR _ _ (sB _ _ (sE _ _ eb))
      rintro HE ⟨rs, hD, rsl, rec, sE⟩
      have Dn := SD.nn nD
      refine ⟨K4, D, _, _, rfl, rfl, sE _ _ hK4, hD, by rw [List.length_append]; exact big_of (by show fs3.length + 3 + _ ≤ _; omega), fun F2 nF2 => ?_⟩
      generalize hh : upd HE F2 _ = HG
      have sF : Same HE HG := by rw [← hh]; exact same_upd nF2
      have hF2 : HG F2 = some (.lst (fs3 ++ [.ref Rr, .ref K1, .ref K2] ++ rs)) := by rw [← hh]; exact upd_same
      clear hh
      have sAll := sE.trans sF
      refine ⟨_, F2, _, rfl, hF2, SD.nn (sE.free nF2), fun v hv => ?_, by rw [List.length_append, List.length_append]; show fs3.length + 3 + _ ≤ _; omega, b2.trans (.of_same sAll), SD.same sAll⟩
      rcases List.mem_append.mp hv with hv | hv
      · refine ItS.move (.of_same sAll) ?_
        rcases List.mem_append.mp hv with hv | hv
        · exact SD.fok v hv
        · simp only [List.mem_cons, List.not_mem_nil, or_false] at hv
          rcases hv with rfl | rfl | rfl
          · exact gar.spoilt hRr Rrn (by omega) (.inl (by omega))
          · exact (gaD.app it1).spoilt hK1 K1n (by rw [List.length_append, List.length_map]; show _ + 1 ≤ _; omega) (.inl (by rw [List.length_append, List.length_map]; show _ + 1 ≠ _; omega))
          · exact (it1.app gaD).spoilt hK2 K2n (by rw [List.length_append, List.length_map]; show 1 + _ ≤ _; omega) (.inl (by rw [List.length_append, List.length_map]; show 1 + _ ≠ _; omega))
      · exact ((rec v hv).move fun b' o _ e => sF _ _ e).done sAll
    rintro σ HF ⟨x8', F2, fs4, rfl, hF2, F2n, fok4, fl4, bF, SF⟩
    have hgF := SF.b _ _ gp hg
    have hO := bF _ _ On7.1 On7.2 hO
    have tho := fun v hv => (tho v hv).move bF
    have gar := gar.move bF
    clear hgD hRr SD bF
    clear gar
    refine ⟨.ref F2, rfl, .ref O7, rfl, O7, rfl, ⟨_, SqL.of hO⟩, fun D nD => ?_⟩
    refine lc_it (walk_list (K := K) (a := O7) (xs := vo7)) (fun i H' => ∃ rs : List V, H' D = some (.lst rs) ∧ rs.length = i ∧ (∀ v ∈ rs, Rec K p F D HF H' cs v) ∧ Same HF H') ⟨[], upd_same, rfl, fun _ h => absurd h List.not_mem_nil, same_upd nD⟩ (fun _ _ _ h => by obtain ⟨_, _, _, _, h⟩ := h; exact SqL.of (h _ _ hO)) ?_ ?_
    · rintro i v _ HE hi ⟨rs, hD, rsl, rec, sE⟩ ⟨rfl, hv⟩
      obtain ⟨d, itv, alt⟩ := tho v (List.mem_of_getElem? hv)
      have SE := SF.same sE
      have Dn := SF.nn nD
      have hgE := sE _ _ hgF
      have bE : ButF p F HE HE := .refl
      have sC : Same HE HE := .refl _
      refine ⟨rfl, yes_if ?_⟩
      refine ⟨.ref g, rfl, .int (s : Int), rfl, (s : Int), rfl, g, _, rfl, SqL.of hgE, fun A nA => ?_⟩
      generalize hh : upd HE A _ = HExA
      have sA : Same HE HExA := by rw [← hh]; exact same_upd nA
      have hA : HExA A = some (.lst ((ts.map V.ref).take s)) := by rw [← hh, upd_same, cut_to _ _ (by rw [List.length_map]; omega)]
      clear hh
      have An := SE.nn nA
      have hgE := sA _ _ hgE
      have hD := sA _ _ hD
      have SE := SE.same sA
      have bE := bE.trans (.of_same sA)
      have sC := sC.trans sA
      clear sA nA
      refine ⟨v, rfl, by show 1 ≤ sizeLine; decide, fun B nB => ?_⟩
      generalize hh : upd HExA B _ = HExB
      have sB : Same HExA HExB := by rw [← hh]; exact same_upd nB
      have hB : HExB B = some (.lst [v]) := by rw [← hh]; exact upd_same
      clear hh
      have Bn := SE.nn nB
      have hgE := sB _ _ hgE
      have hD := sB _ _ hD
      have hA := sB _ _ hA
      have SE := SE.same sB
      have bE := bE.trans (.of_same sB)
      have sC := sC.trans sB
      clear sB nB
      refine ⟨A, B, _, _, rfl, rfl, hA, hB, by simp only [List.length_append, List.length_map, List.length_cons, List.length_nil, List.length_take, List.length_drop]; exact big_of (by omega), fun E nE => ?_⟩
      generalize hh : upd HExB E _ = HExE
      have sE : Same HExB HExE := by rw [← hh]; exact same_upd nE
      have hE : HExE E = some (.lst ((ts.map V.ref).take s ++ [v])) := by rw [← hh]; exact upd_same
      clear hh
      have En := SE.nn nE
      have hgE := sE _ _ hgE
      have hD := sE _ _ hD
      have hA := sE _ _ hA
      have hB := sE _ _ hB
      have SE := SE.same sE
      have bE := bE.trans (.of_same sE)
      have sC := sC.trans sE
      clear sE nE
      refine ⟨.ref g, rfl, .int (s : Int), rfl, (s : Int), 1, rfl, rfl, _, rfl, g, _, rfl, SqL.of hgE, fun G nG => ?_⟩
      rw [show (s : Int) + 1 = ((s + 1 : Nat) : Int) by omega]
      generalize hh : upd HExE G _ = HExG
      have sG : Same HExE HExG := by rw [← hh]; exact same_upd nG
      have hG : HExG G = some (.lst ((ts.map V.ref).drop (s + 1))) := by rw [← hh, upd_same, cut_from]
      clear hh
      have hgE := sG _ _ hgE
      have hD := sG _ _ hD
      have hA := sG _ _ hA
      have hB := sG _ _ hB
      have hE := sG _ _ hE
      have SE := SE.same sG
      have sC := sC.trans sG
      have bE := bE.trans (.of_same sG)
      refine ⟨E, G, _, _, rfl, rfl, hE, hG, by simp only [List.length_append, List.length_map, List.length_cons, List.length_nil, List.length_take, List.length_drop]; exact big_of (by omega), fun R nR => ?_⟩
      generalize hh : upd HExG R _ = HExR
      have sR : Same HExG HExR := by rw [← hh]; exact same_upd nR
      have hR : HExR R = some (.lst ((ts.map V.ref).take s ++ [v] ++ (ts.map V.ref).drop (s + 1))) := by rw [← hh]; exact upd_same
      clear hh
      have Rn := SE.nn nR
      have RD : R ≠ D := (ne_of_none hD nR).symm
      have hgE := sR _ _ hgE
      have hD := sR _ _ hD
      have hA := sR _ _ hA
      have hB := sR _ _ hB
      have hE := sR _ _ hE
      have hG := sR _ _ hG
      have SE := SE.same sR
      have bE := bE.trans (.of_same sR)
      have sC := sC.trans sR
      clear sR nR
      refine ⟨_, hD, by rw [rsl]; exact big_lt (by omega), rs ++ [.ref R], upd_same, by rw [List.length_append, rsl]; rfl, fun w hw => ?_, fun b' o eb => ?_⟩
      · rcases List.mem_append.mp hw with hw | hw
        · exact (rec w hw).move fun b' o nb e => by rw [upd_ne nb]; exact sC _ _ e
        · rw [List.mem_singleton.mp hw]
          have dl : ((cs.map cD).take s ++ [d] ++ (cs.map cD).drop (s + 1)).length = cs.length := by
            rw [List.length_append, List.length_append, List.length_take, List.length_drop, List.length_map]
            show _ + 1 + _ = _
            omega
          refine ⟨R, _, _, rfl, RD, Rn, by rw [upd_ne RD]; exact hR, (((SF.ga F0 tp hp cv).take s).app itv).app ((SF.ga F0 tp hp cv).drop (s + 1)), by omega, ?_⟩
          rcases alt with alt | alt
          · exact .inr (.inl ⟨d, List.mem_append_left _ (List.mem_append_right _ List.mem_cons_self), alt⟩)
          · refine .inr (.inr ⟨cc, ccm, fun x hx t' => ?_⟩)
            rcases List.mem_append.mp hx with hx | hx
            · rcases List.mem_append.mp hx with hx | hx
              · obtain ⟨c2, e2, n2⟩ := rne x (List.mem_append_left _ hx)
                rw [e2]
                exact cD_ne n2 t'
              · rw [List.mem_singleton.mp hx]
                exact alt t'
            · obtain ⟨c2, e2, n2⟩ := rne x (List.mem_append_right _ hx)
              rw [e2]
              exact cD_ne n2 t'
      · rw [upd_ne (ne_of_none eb nD)]
        exact sC _ _ (sE _ _ eb)
    rintro HE ⟨rs, hD, rsl, rec, sE⟩
    refine ⟨F2, D, _, _, rfl, rfl, sE _ _ hF2, hD, big_of (by omega), fun R nR => ?_⟩
    generalize hh : upd HE R _ = HG
    have sR : Same HE HG := by rw [← hh]; exact same_upd nR
    have hR : HG R = some (.lst (fs4 ++ rs)) := by rw [← hh]; exact upd_same
    clear hh
    have sAll := sE.trans sR
    have SG := SF.same sAll
    have Rn := SF.nn (sE.free nR)
    refine q R _ HG SG.b (SF.b.free Rn.1 (sE.free nR)) hR (by rw [List.length_append]; omega) (fun v hv => ?_) (SG.pn.mono (by omega))
    have it : ItS K p F HG cs v := by
      rcases List.mem_append.mp hv with hv | hv
      · exact (fok4 v hv).move (.of_same sAll)
      · exact ((rec v hv).move fun b' o _ e => sR _ _ e).done sAll
    obtain ⟨d, h1, h2⟩ := it
    exact ⟨d, h1.move (fun _ _ _ e => e) (fun _ n => n.1), h2⟩
end

theorem okc {cs : List (Str × V)} (cv : ∀ c ∈ cs, Sm 32 c.1 ∧ VT c.2) : ∀ d ∈ cs.map cD, OkD 4 2000 d := fun d hd => by
  obtain ⟨c, hc, rfl⟩ := List.mem_map.mp hd
  exact pair_ok ((cv c hc).1.mono (by decide)) (cv c hc).2
theorem dr_cs' {K : PySem.W.Frag} {H : Hp} {N : Addr → Prop} : ∀ {ts : List Addr} {cs : List (Str × V)}, Paired (fun t (c : Str × V) => H t = some (.tup [.str c.1, c.2])) ts cs → (∀ t ∈ ts, N t) → (∀ c ∈ cs, Sm 32 c.1 ∧ VT c.2) → DrAll K H N (ts.map V.ref) (cs.map cD)
  | _, _, .nil, _, _ => .nil
  | _, _, .cons h t, n, q => .cons (.tup (n _ List.mem_cons_self) (SqT.of h) (.cons (.str _) (.cons (q _ List.mem_cons_self).2.dr .nil))) (dr_cs' t (fun t ht => n t (List.mem_cons_of_mem _ ht)) fun c hc => q c (List.mem_cons_of_mem _ hc))
theorem dr_kv {K : PySem.W.Frag} {H : Hp} {N : Addr → Prop} : ∀ {cs : List (Str × V)}, (∀ c ∈ cs, Sm 32 c.1 ∧ VT c.2) → DrKv K H N (cs.map fun c => ((.inr c.1 : Key), c.2)) (cs.map fun c => (PyData.str c.1, vD c.2))
  | [], _ => .nil
  | c :: cs, q => .cons (k := .inr c.1) (q c List.mem_cons_self).2.dr (dr_kv fun c hc => q c (List.mem_cons_of_mem _ hc))
theorem okc1 {cs : List (Str × V)} (cv : ∀ c ∈ cs, Sm 32 c.1 ∧ VT c.2) : ∀ d ∈ cs.map cD, OkD 1 2000 d := fun d hd => by
  obtain ⟨c, hc, rfl⟩ := List.mem_map.mp hd
  refine (OkD.tuple (L := 0) (B := 602) (n := 2) (Nat.le_refl _) fun d hd => ?_).mono (by decide) (by decide)
  simp only [List.mem_cons, List.not_mem_nil, or_false] at hd
  rcases hd with rfl | rfl
  · exact (cv c hc).1.ok (by decide)
  · exact (cv c hc).2.ok
theorem okp1 {cs : List (Str × V)} (cv : ∀ c ∈ cs, Sm 32 c.1 ∧ VT c.2) : ∀ d ∈ (cs.map fun c => (PyData.str c.1, vD c.2)), OkD 0 402 d.1 ∧ OkD 0 602 d.2 := fun d hd => by
  obtain ⟨c, hc, rfl⟩ := List.mem_map.mp hd
  exact ⟨(cv c hc).1.ok (by decide), (cv c hc).2.ok⟩
theorem prd_kv {K : PySem.W.Frag} {H H' : Hp} (k : Same H H') {ts : List Addr} {cs : List (Str × V)} (h : Paired (fun t (c : Str × V) => H t = some (.tup [.str c.1, c.2])) ts cs) : Paired (fun p (kv : Key × V) => SqT K H' p [kV kv.1, kv.2]) ts (cs.map fun c => ((.inr c.1 : Key), c.2)) := by
  induction h with
  | nil => exact .nil
  | cons h _ ih => exact .cons (SqT.of (k _ _ h)) ih
theorem nd_kv {cs : List (Str × V)} (h : (cs.map (·.1)).Nodup) : ((cs.map fun c => ((.inr c.1 : Key), c.2)).map (·.1)).Nodup := by
  rw [List.map_map]
  have : ((fun x : Key × V => x.1) ∘ fun c : Str × V => ((.inr c.1 : Key), c.2)) = Sum.inr ∘ (fun c : Str × V => c.1) := rfl
  rw [this, ← List.map_map]
  exact h.map Sum.inr fun _ _ n e => n (Sum.inr.inj e)
def ItO (K : PySem.W.Frag) (p : Addr) (H : Hp) (cs : List (Str × V)) (v : V) : Prop := ∃ d, Dr K H (fun a => a ≠ p) v d ∧ OkD 5 150000 d ∧ Spoilt cs d
theorem ItO.same {K : PySem.W.Frag} {p : Addr} {H H' : Hp} {cs : List (Str × V)} {v : V} (b : But p H H') (h : ItO K p H cs v) : ItO K p H' cs v := by
  obtain ⟨d, h1, h2⟩ := h
  exact ⟨d, h1.move (fun a o n e => b a o n e) (fun _ q => q), h2⟩
def spLaw (K : PySem.W.Frag) : Sp := fun vs H Q _ => ∃ (a : Addr) (ns : List Int), vs = [.ref a] ∧ SqL K H a (ns.map V.int) ∧ ns.length ≤ 63 ∧ ∀ H', Q (.bl true) H'
abbrev sL : Stmt := top 42
section
variable {P : Program} {w : World} {K : PySem.W.Frag} {mg : Str → Option Value} {base : Heap}
abbrev NL : List Str := ["script", "pen", "turn", "size", "one", "two", "first", "second", "good", "things", "thing", "seen"]
theorem scL : FnScope NL ["script"] (defScope sL) := ⟨rfl, rfl, rfl, by decide +kernel, rfl, by decide +kernel, by decide +kernel⟩
set_option maxHeartbeats 8000000 in
theorem ok_L {f fP fS fTw fT fCh fSp fSa fSt CC : Addr} {fd fdP fdS fdTw fdT fdCh fdSp fdSa fdSt : FuncData} {k : Nat} (F : Fun K "law" "law" sL f fd) (sys : ∃ mm, base.Ns sysModules mm)
    (GP : FnOk P w K mg base CX0 k fP fdP ["script"] (spPen K))
    (FP : Fun K "_law_pen" "_law_pen" sP fP fdP) (bP : Binds K fdP ["script"] []) (gP : mg "_law_pen" = some (.ref fP))
    (m_range : mg "range" = none)
    (GS : FnOk P w K mg base CX0 k fS fdS ["pen"] spSize)
    (FS : Fun K "_law_size" "_law_size" sS fS fdS) (bS : Binds K fdS ["pen"] []) (gS : mg "_law_size" = some (.ref fS))
    (GTw : FnOk P w K mg base CX0 k fTw fdTw ["pen", "size", "most"] spTwo)
    (FTw : Fun K "_law_two" "_law_two" sTw fTw fdTw) (bTw : Binds K fdTw ["pen", "size", "most"] []) (gTw : mg "_law_two" = some (.ref fTw))
    (GT : FnOk P w K mg base CX0 k fT fdT ["self", "width", "rows"] (spInit K CC isTgtV))
    (MC : Mk K CC fT) (gC : mg "Table" = some (.ref CC))
    (bT : Binds K fdT ["self", "width", "rows"] [])
    (GCh : FnOk P w K mg base (L2.CX P w) k fCh fdCh ["old", "new"] (spCh CC CIP))
    (FCh : Fun K "changes" "changes" sCh fCh fdCh) (bCh : Binds K fdCh ["old", "new"] []) (gCh : mg "changes" = some (.ref fCh))
    (m_tuple : mg "tuple" = none)
    (m_dict : mg "dict" = none)
    (GSp : FnOk P w K mg base CX0 k fSp fdSp ["pen", "size", "good", "one", "two"] ((spSp K)))
    (FSp : Fun K "_law_spoiled" "_law_spoiled" sSp fSp fdSp) (bSp : Binds K fdSp ["pen", "size", "good", "one", "two"] []) (gSp : mg "_law_spoiled" = some (.ref fSp))
    (m_repr : mg "repr" = none)
    (GSa : FnOk P w K mg base CX0 k fSa fdSa ["old", "new", "thing"] ((spSaX K CC)))
    (FSa : Fun K "is_safe" "is_safe" sSa fSa fdSa) (bSa : Binds K fdSa ["old", "new", "thing"] []) (gSa : mg "is_safe" = some (.ref fSa))
    (GSt : FnG P w K mg base k fSt fdSt ["made", "size", "lines"] (spStays CC))
    (FSt : Fun K "_law_stays" "_law_stays" sSt fSt fdSt) (bSt : Binds K fdSt ["made", "size", "lines"] []) (gSt : mg "_law_stays" = some (.ref fSt))
    : FnG P w K mg base (k + 2) f fd ["script"] (spLaw K) := by
  refine okG F scL (fun vs H Q E h => ?_) (fun cdv A outer s H vs Q g hr h => ?_)
  · obtain ⟨a0, ns, rfl, _⟩ := h
    rfl
  · obtain ⟨a0, ns, rfl, hS, hlen, q⟩ := h
    have nd := scL.nd
    have hu := hr.units
    have hu1 := hu_of hr
    have hr1 := hr.mono (Nat.le_succ k)
    refine ⟨_, pss_cons (ps_set (i := 1) nd rfl (.inl rfl) (pe_call GP hr1 (by rfl) gP FP.kp bP .nil pass0 (pa_cons (pv 0) pa_nil)))
      (pss_cons (ps_for PassesOwn.never rfl (pi_range1 (by rfl) m_range (pa_cons pe_int pa_nil)) (pg_name (i := 2) nd rfl (.inl rfl))
        (pss_cons (ps_set (i := 3) nd rfl (.inl rfl) (pe_call GS hr1 (by rfl) gS FS.kp bS .nil pass0 (pa_cons (pv 1) pa_nil)))
        (pss_cons (ps_asg (pe_call GTw hr1 (by rfl) gTw FTw.kp bTw .nil pass0 (pa_cons (pv 1) (pa_cons (pv 3) (pa_cons pe_int pa_nil)))) (pg_tup rfl (pgs_cons (pg_name (i := 4) nd rfl (.inl rfl)) (pgs_cons (pg_name (i := 5) nd rfl (.inl rfl)) pgs_nil))))
        (pss_cons (ps_par (i := 6) (j := 7) (by rfl) nd rfl rfl (by decide) rfl rfl (pa_cons (pe_make MC GT hr (by rfl) gC bT .nil pass0 (pa_cons (pv 3) (pa_cons (pv 4) pa_nil))) (pa_cons (pe_make MC GT hr (by rfl) gC bT .nil pass0 (pa_cons (pv 3) (pa_cons (pv 5) pa_nil))) pa_nil)) (by rfl))
        (pss_cons (ps_set (i := 8) nd rfl (.inl rfl) (pe_call GCh hr1 (by rfl) gCh FCh.kp bCh .nil (passes_call takes0 (fun _ _ _ _ h => h)) (pa_cons (pv 6) (pa_cons (pv 7) pa_nil))))
        (pss_cons (ps_set (i := 9) nd rfl (.inl rfl) (pe_lst (pa_cons pe_non (pa_cons (pe_callTy call_tuple_of (by rfl) m_tuple (by decide +kernel) (pa_cons (pv 8) pa_nil)) (pa_cons pe_str (pa_cons pe_str (pa_cons pe_int (pa_cons pe_bl (pa_cons pe_dnewK (pa_cons (pe_callTy (call_dictPn rfl) (by rfl) m_dict (by decide +kernel) (pa_cons (pv 8) pa_nil)) (pa_cons (pe_lst (pa_cons (pv 8) pa_nil)) (pa_cons (pe_op op_pow pe_int pe_int) pa_nil))))))))))))
        (pss_cons (ps_for PassesOwn.never rfl (pi_list (pe_op op_cat (pv 9) (pe_call GSp hr1 (by rfl) gSp FSp.kp bSp .nil pass0 (pa_cons (pv 1) (pa_cons (pv 3) (pa_cons (pv 8) (pa_cons (pv 4) (pa_cons (pv 5) pa_nil)))))))) (pg_name (i := 10) nd rfl (.inl rfl))
          (pss_cons (ps_set (i := 11) nd rfl (.inl rfl) (pe_callB (call_repr g hu sys) (by rfl) m_repr (by decide +kernel) (pa_cons (pv 10) pa_nil)))
          (pss_one (ps_if (PW.pt (pw_or (pt_cmpR op_notBl (pe_call GSa hr1 (by rfl) gSa FSa.kp bSa .nil pass0 (pa_cons (pv 6) (pa_cons (pv 7) (pa_cons (pv 10) pa_nil)))) pe_bl (nomark _)) (pw_or1 (pt_cmpR op_ne (pe_callB (call_repr g hu sys) (by rfl) m_repr (by decide +kernel) (pa_cons (pv 10) pa_nil)) (pv 11) (nomark _)))))
            (pss_one (ps_ret pe_bl)) pss_nil))))
        (pss_one (ps_if (PW.pt (pw_or (pt_not (pt_val (pe_callG GSt g hr1 (by rfl) gSt FSt.kp bSt (pa_cons (pv 6) (pa_cons (pv 3) (pa_cons (pv 4) pa_nil)))))) (pw_or (pt_not (pt_val (pe_callG GSt g hr1 (by rfl) gSt FSt.kp bSt (pa_cons (pv 7) (pa_cons (pv 3) (pa_cons (pv 5) pa_nil)))))) (pw_or1 (pt_not (pt_val (pe_call GSa hr1 (by rfl) gSa FSa.kp bSa .nil pass0 (pa_cons (pv 6) (pa_cons (pv 7) (pa_cons (pv 8) pa_nil))))))))))
          (pss_one (ps_ret pe_bl)) pss_nil)))))))))
      (pss_one (ps_ret pe_bl))), ?_⟩
    refine ⟨.ref a0, rfl, a0, ns, rfl, hS, hlen, fun H0 p c sm0 np nc hp => ?_⟩
    refine ⟨4, rfl, by decide, by decide, for_range (n := 4) (fun i σ H' => (∃ x2 x3 x4 x5 x6 x7 x8 x9 x10 x11, σ = [some (.ref a0), some (.ref p), x2, x3, x4, x5, x6, x7, x8, x9, x10, x11]) ∧ ∃ m, m.length ≤ 1 ∧ Pen H' p c (9000 * i) m) ⟨⟨_, _, _, _, _, _, _, _, _, _, rfl⟩, [], by decide, hp⟩ ?_ ?_⟩
    rotate_left
    · rintro σ H1 ⟨⟨x2, x3, x4, x5, x6, x7, x8, x9, x10, x11, rfl⟩, m, hm, hp1⟩
      exact q _
    rintro i σ H1 hi ⟨⟨x2, x3, x4, x5, x6, x7, x8, x9, x10, x11, rfl⟩, m, hm, hp1⟩
    refine ⟨.ref p, rfl, p, c, 9000 * i, m, rfl, hp1, by show 9000 * i + 100 ≤ 1000000000000; omega, hm, fun z m' H2 b2 p2 hm' z1 z32 => ?_⟩
    refine ⟨.ref p, rfl, .int z, rfl, p, c, _, z, 5, m', rfl, p2, by show 9000 * i + 1 + 4000 ≤ 1000000000000; omega, z32, by decide, fun t a b xs zs ks ls H3 b3 nt na nb ht ha hb ok1 ok2 l1 l2 p3 => ?_⟩
    refine ⟨t, _, rfl, SqT.of ht, rfl, _, _, rfl, _, _, rfl, rfl, ?_⟩
    refine ⟨.int z, rfl, .ref a, rfl, fun x dx nx ndx nex => ?_⟩
    refine ⟨x, dx, a, z, xs, ks, rfl, upd_same, z1, z32, by rw [upd_ne (ne_of_none ha nx), upd_ne (ne_of_none ha ndx)]; exact ha, ok1.of4, by omega, fun e ys1 k1 H4 ne hs1 hm1 keep1 => ⟨rfl, ?_⟩⟩
    have s4 : Same H3 H4 := Same.made nx ndx keep1
    have hb4 := s4 _ _ hb
    refine ⟨.int z, rfl, .ref b, rfl, fun y dy ny ndy ney => ?_⟩
    refine ⟨y, dy, b, z, zs, ls, rfl, upd_same, z1, z32, by rw [upd_ne (ne_of_none hb4 ny), upd_ne (ne_of_none hb4 ndy)]; exact hb4, ok2.of4, by omega, fun e2 ys2 k2 H5 ne2 hs2 hm2 keep2 => ⟨rfl, _, _, rfl, ?_⟩⟩
    have s5 : Same H4 H5 := Same.made ny ndy keep2
    have s35 := s4.trans s5
    have hm1 := hm1.same s5
    have ha5 := s35 _ _ ha
    have hb5 := s35 _ _ hb
    have p5 := p3.keep s35
    have okk1 := hs1.rows ok1.of4
    have okk2 := hs2.rows ok2.of4
    have yl1 : ys1.length = xs.length := hs1.perm.length_eq
    have yl2 : ys2.length = zs.length := hs2.perm.length_eq
    clear s4 s5 s35 keep1 keep2 hb4 ht b3 b2
    refine ⟨.ref x, rfl, .ref y, rfl, x, y, e, e2, z, z, ys1, ys2, k1, k2, rfl, hm1, hm2, okk1, okk2, z32, z32, by omega, by omega, fun ne => absurd rfl ne, fun _ l0 ts cs A B H6 s6 nl0 hl0 hpr isq => ?_⟩
    have pl := prd_len hpr
    have p6 := p5.keep s6
    obtain ⟨lp, lc⟩ : l0 ≠ p ∧ l0 ≠ c := ⟨p5.ne_p nl0, p5.ne_c nl0⟩
    have ps0 := isq.perm
    have hm1 := hm1.same s6
    have hm2 := hm2.same s6
    have ha6 := s6 _ _ ha5
    have hb6 := s6 _ _ hb5
    have gvk : ∀ u, gV k1 u = gV ks u := gV_sorted ok1.of4 okk1 hs1
    have gvl : ∀ u, gV k2 u = gV ls u := gV_sorted ok2.of4 okk2 hs2
    have cv : ∀ c ∈ cs, Sm 32 c.1 ∧ VT c.2 := fun c hc => by
      obtain ⟨h1, h2⟩ := (ps0.mem c).mp hc
      have hb : isBits c.1 = true ∧ c.1.length ≤ z := by
        rcases gV_in okk1 okk2 h1 with h | h
        · exact ⟨okk1.pfx.bits _ h, okk1.pfx.len _ h⟩
        · exact ⟨okk2.pfx.bits _ h, okk2.pfx.len _ h⟩
      exact ⟨⟨Nat.le_trans hb.2 z32, fun ch hch => by rcases bits_iff.mp hb.1 ch hch with e | e <;> omega⟩, .of (by rw [h2]; exact gV_or okk2 c.1)⟩
    have cntS : ∀ us : List Str, us.Nodup → (∀ u ∈ us, u ∈ ys1 ∨ u ∈ ys2) → us.length < 60 := fun us nd h => by
      have h1 := nd_len (m := ys1 ++ ys2) nd fun u hu => List.mem_append.mpr (h u hu)
      rw [List.length_append] at h1
      omega
    have cl : cs.length ≤ 59 := by
      have h1 := cntS (cs.map (·.1)) ps0.nd fun u hu => by
        obtain ⟨c, hc, rfl⟩ := List.mem_map.mp hu
        exact gV_in okk1 okk2 ((ps0.mem c).mp hc).1
      rw [List.length_map] at h1
      omega
    have ps2 : PermSeq ks ls cs := ps0.congr (fun u => (gvk u).symm) (fun u => (gvl u).symm)
    have tp : ∀ t ∈ ts, t ≠ p := fun t ht => by
      obtain ⟨c', hc'⟩ : ∃ c' : Str × V, H6 t = some (.tup [.str c'.1, c'.2]) := by
        clear cv cntS cl ps2 ps0 isq pl hl0
        induction hpr with
        | nil => exact absurd ht List.not_mem_nil
        | cons h _ ih => exact (List.mem_cons.mp ht).elim (fun e => e ▸ ⟨_, h⟩) ih
      exact (pen_ne p6 hc' (fun _ q => nomatch q)).1
    clear s6 p5 ha5 hb5 nl0
    have dcs : DrAll K H6 (fun a => a ≠ p) (ts.map V.ref) (cs.map cD) := dr_cs' hpr tp cv
    refine ⟨.ref l0, rfl, l0, _, rfl, .inl ⟨SqL.of hl0, fun P1 nP1 => ?_⟩⟩
    have sP := same_upd (o := .tup (ts.map V.ref)) nP1
    generalize hh : upd H6 P1 _ = Ha at sP
    have hP : Ha P1 = some (.tup (ts.map V.ref)) := by rw [← hh]; exact upd_same
    clear hh
    have P1p : P1 ≠ p := p6.ne_p nP1
    refine fun D1 nD1 => ?_
    have sD := same_upd (o := .dK []) nD1
    have D1p : D1 ≠ p := (p6.keep sP).ne_p nD1
    generalize hh : upd Ha D1 _ = Hb at sD
    have hD : Hb D1 = some (.dK []) := by rw [← hh]; exact upd_same
    clear hh
    have s6b := sP.trans sD
    refine ⟨.ref l0, rfl, l0, ts, cs.map fun c => ((.inr c.1 : Key), c.2), rfl, SqL.of (s6b _ _ hl0), prd_kv s6b hpr, fun D2 nD2 => ?_⟩
    rw [mergeK_nd _ [] (by rw [List.nil_append]; exact nd_kv ps0.nd), List.nil_append]
    have sD2 := same_upd (o := .dK (cs.map fun c => ((.inr c.1 : Key), c.2))) nD2
    have D2p : D2 ≠ p := (p6.keep s6b).ne_p nD2
    generalize hh : upd Hb D2 _ = Hc at sD2
    have hD2 : Hc D2 = some (.dK (cs.map fun c => ((.inr c.1 : Key), c.2))) := by rw [← hh]; exact upd_same
    clear hh
    have s6c := s6b.trans sD2
    refine ⟨.ref l0, rfl, by show 1 ≤ sizeLine; decide, fun L1 nL1 => ?_⟩
    have sL := same_upd (o := .lst [.ref l0]) nL1
    have L1p : L1 ≠ p := (p6.keep s6c).ne_p nL1
    generalize hh : upd Hc L1 _ = Hd at sL
    have hL : Hd L1 = some (.lst [.ref l0]) := by rw [← hh]; exact upd_same
    clear hh
    have s6d := s6c.trans sL
    refine ⟨10, 39, rfl, rfl, by unfold CPow; decide, ?_⟩
    refine ⟨by show 10 ≤ sizeLine; decide, fun TH nTH => ?_⟩
    generalize hh : upd Hd TH _ = He
    have sT : Same Hd He := by rw [← hh]; exact same_upd nTH
    have hT : He TH = some (.lst [.non, .ref P1, .str "", .str "a", .int 0, .bl true, .ref D1, .ref D2, .ref L1, .int (10 ^ (39 : Int).toNat)]) := by rw [← hh]; exact upd_same
    clear hh
    have THp : TH ≠ p := (p6.keep s6d).ne_p nTH
    have s6e := s6d.trans sT
    have dcsE : DrAll K He (fun a => a ≠ p) (ts.map V.ref) (cs.map cD) := dcs.move (fun a o _ h => s6e a o h) (fun _ q => q)
    have hP := sT _ _ (sL _ _ (sD2 _ _ (sD _ _ hP)))
    have hD := sT _ _ (sL _ _ (sD2 _ _ hD))
    have hD2 := sT _ _ (sL _ _ hD2)
    have hL := sT _ _ hL
    have hlE := s6e _ _ hl0
    have its : ∀ v ∈ [V.non, .ref P1, .str "", .str "a", .int 0, .bl true, .ref D1, .ref D2, .ref L1, .int (10 ^ (39 : Int).toNat)], ItO K p He cs v := fun v hv => by
      simp only [List.mem_cons, List.not_mem_nil, or_false] at hv
      rcases hv with rfl | rfl | rfl | rfl | rfl | rfl | rfl | rfl | rfl | rfl
      · exact ⟨_, .non, ⟨by decide +kernel, by decide +kernel, by decide +kernel⟩, .inl fun _ q => nomatch q⟩
      · exact ⟨_, .tup P1p (SqT.of hP) dcsE, (OkD.tuple (n := 60) (by rw [List.length_map]; omega) (okc1 cv)).mono (by decide) (by decide), .inl fun _ q => nomatch q⟩
      · exact ⟨_, .str _, ⟨by decide +kernel, by decide +kernel, by decide +kernel⟩, .inl fun _ q => nomatch q⟩
      · exact ⟨_, .str _, ⟨by decide +kernel, by decide +kernel, by decide +kernel⟩, .inl fun _ q => nomatch q⟩
      · exact ⟨_, .int _, ⟨by decide +kernel, by decide +kernel, by decide +kernel⟩, .inl fun _ q => nomatch q⟩
      · exact ⟨_, .bl _, ⟨by decide +kernel, by decide +kernel, by decide +kernel⟩, .inl fun _ q => nomatch q⟩
      · exact ⟨_, .dic D1p (.inl hD) .nil, ⟨by decide +kernel, by decide +kernel, by decide +kernel⟩, .inl fun _ q => nomatch q⟩
      · exact ⟨_, .dic D2p (.inl hD2) (dr_kv cv), (OkD.dict (n := 60) (by rw [List.length_map]; omega) (okp1 cv)).mono (by decide) (by decide), .inl fun _ q => nomatch q⟩
      · refine ⟨.list [.list (cs.map cD)], .lst L1p (SqL.of hL) (.cons (.lst lp (SqL.of hlE) dcsE) .nil), (OkD.list (L := 3) (B := 140000) (n := 1) (Nat.le_refl _) fun d hd => ?_).mono (by decide) (by decide), .inr ⟨_, rfl, fun d hd => ?_, by show 1 ≤ 1000; decide, .inr (.inl ⟨_, List.mem_cons_self, ?_⟩)⟩⟩
        · rw [List.mem_singleton.mp hd]
          exact (OkD.list (n := 60) (by rw [List.length_map]; omega) (okc1 cv)).mono (by decide) (by decide)
        · rw [List.mem_singleton.mp hd]
          exact fun _ _ q => nomatch q
        · rintro ⟨_, _, _, q, _⟩
          cases q
      · exact ⟨_, .int _, ⟨by decide +kernel, by decide +kernel, by decide +kernel⟩, .inl fun _ q => nomatch q⟩
    have hm1 := hm1.same s6e
    have hm2 := hm2.same s6e
    have haE := s6e _ _ ha6
    have hbE := s6e _ _ hb6
    have pE := p6.keep s6e
    have hprE := hpr.mono fun _ _ h => s6e _ _ h
    clear dcs dcsE hP hD hD2 hL sT sL sD2 sD sP s6b s6c s6d s6e nP1 nD1 nD2 nL1 nTH hl0 hpr ha6 hb6 p6
    refine ⟨.ref TH, rfl, .ref p, rfl, .int z, rfl, .ref l0, rfl, .ref a, rfl, .ref b, rfl, p, c, l0, a, b, _, z, m', xs, zs, ks, ls, ts, cs, rfl, pE, by show 9000 * i + 1 + 1200 + 200 ≤ 1000000000000; omega, z32, haE, hbE, ok1, ok2, by omega, by omega, hlE, lp, hprE, tp, ps2, by omega, fun R vs' H7 b7 nR hR vl its7 p7 => ?_⟩
    obtain ⟨⟨dx7, hx7⟩, he7⟩ := id hm1
    obtain ⟨⟨dy7, hy7⟩, hf7⟩ := id hm2
    have off : ∀ {q : Addr} {o : HO}, He q = some o → (∀ xs, o ≠ .lst xs) → q ≠ p := fun h n => (pen_ne pE h n).1
    have hm1 := hm1.but b7 (off hx7 (fun _ q => nomatch q)) (off he7 (fun _ q => nomatch q))
    have hm2 := hm2.but b7 (off hy7 (fun _ q => nomatch q)) (off hf7 (fun _ q => nomatch q))
    have ha7 := b7 _ _ (off haE (fun _ q => nomatch q)) haE
    have hb7 := b7 _ _ (off hbE (fun _ q => nomatch q)) hbE
    have hl7 := b7 _ _ lp hlE
    have hpr7 := hprE.mono fun _ _ h => b7 _ _ (off h (fun _ q => by cases q)) h
    refine ⟨TH, R, _, _, rfl, rfl, b7 _ _ THp hT, hR, big_of (by show 10 + _ ≤ 1000; omega), fun C nC => ?_⟩
    generalize hh : upd H7 C _ = HG
    have sC : Same H7 HG := by rw [← hh]; exact same_upd nC
    have hC : HG C = some (.lst ([V.non, .ref P1, .str "", .str "a", .int 0, .bl true, .ref D1, .ref D2, .ref L1, .int (10 ^ (39 : Int).toNat)] ++ vs')) := by rw [← hh]; exact upd_same
    clear hh
    have all : ∀ v ∈ [V.non, .ref P1, .str "", .str "a", .int 0, .bl true, .ref D1, .ref D2, .ref L1, .int (10 ^ (39 : Int).toNat)] ++ vs', ItO K p HG cs v := fun v hv => by
      rcases List.mem_append.mp hv with hv | hv
      · exact ((its v hv).same b7).same (.of_same sC)
      · exact ItO.same (.of_same sC) (its7 v hv)
    have hm1 := hm1.same sC
    have hm2 := hm2.same sC
    have haG := sC _ _ ha7
    have hbG := sC _ _ hb7
    have hlG := sC _ _ hl7
    have hprG := hpr7.mono fun _ _ h => sC _ _ h
    have pG := p7.keep sC
    clear its its7 hT hR vl sC nC ha7 hb7 hl7 hpr7 off
    refine ⟨C, rfl, ⟨_, SqL.of hC⟩, for_list (K := K) (a := C) (xs := [V.non, .ref P1, .str "", .str "a", .int 0, .bl true, .ref D1, .ref D2, .ref L1, .int (10 ^ (39 : Int).toNat)] ++ vs') (fun j σ H' => (∃ y10 y11, σ = [some (.ref a0), some (.ref p), some (.int (0 + i)), some (.int z), some (.ref a), some (.ref b), some (.ref x), some (.ref y), some (.ref l0), some (.ref TH), y10, y11]) ∧ Same HG H') ⟨⟨_, _, rfl⟩, .refl _⟩ (fun _ _ _ _ h => SqL.of (h.2 _ _ hC)) ?_ ?_⟩
    · rintro j v σ HA hv ⟨⟨y10, y11, rfl⟩, sA⟩
      obtain ⟨d, dr, okd, sp⟩ := all v (List.mem_of_getElem? hv)
      have drA : Dr K HA (fun _ => True) v d := dr.move (fun a o _ h => sA a o h) (fun _ _ => trivial)
      refine ⟨v, rfl, v, d, _, rfl, drA, okd.sh, Nat.le_trans okd.dp (by decide), Nat.le_trans okd.ln (by decide), ?_⟩
      refine ⟨.ref x, rfl, .ref y, rfl, v, rfl, [.ref x, .ref y, v], rfl, rfl, .inr ⟨x, y, e, e2, z, ys1, ys2, k1, k2, cs, v, d, _, rfl, hm1.same sA, hm2.same sA, okk1, okk2, by omega, by omega, drA, sp, ps0, fun HB sB => ?_⟩⟩
      refine ⟨false, false, rfl, rfl, _, rfl, iteF ?_⟩
      have drB : Dr K HB (fun _ => True) v d := drA.move (fun a o _ h => sB a o h) (fun _ _ => trivial)
      exact ⟨v, rfl, v, d, _, rfl, drB, okd.sh, Nat.le_trans okd.dp (by decide), Nat.le_trans okd.ln (by decide), _, rfl, rfl, _, rfl, iteNS rfl ⟨⟨_, _, rfl⟩, sA.trans sB⟩⟩
    rintro σ HA ⟨⟨y10, y11, rfl⟩, sA⟩
    refine ⟨.ref x, rfl, .int z, rfl, .ref a, rfl, x, e, a, z, xs, ys1, ks, k1, rfl, hm1.same sA, sA _ _ haG, ok1.of4, hs1, by omega, z1, z32, fun HD sD => ⟨_, rfl, iteF ?_⟩⟩
    have sAD := sA.trans sD
    refine ⟨.ref y, rfl, .int z, rfl, .ref b, rfl, y, e2, b, z, zs, ys2, ls, k2, rfl, hm2.same sAD, sAD _ _ hbG, ok2.of4, hs2, by omega, z1, z32, fun HE sE2 => ⟨_, rfl, iteF ?_⟩⟩
    have sAE := sAD.trans sE2
    refine ⟨.ref x, rfl, .ref y, rfl, .ref l0, rfl, [.ref x, .ref y, .ref l0], rfl, rfl, .inl ⟨x, y, e, e2, l0, z, ys1, ys2, k1, k2, ts, cs, rfl, hm1.same sAE, hm2.same sAE, okk1, okk2, by omega, by omega, sAE _ _ hlG, hprG.mono fun _ _ h => sAE _ _ h, ps0, z1, z32, cntS, fun bA HB sB hbA => ?_⟩⟩
    rw [hbA.mpr (changes_safe okk1 okk2 isq)]
    refine ⟨_, rfl, iteF ?_⟩
    exact ⟨⟨_, _, _, _, _, _, _, _, _, _, rfl⟩, m', hm', (pG.keep (sAE.trans sB)).mono (by omega)⟩
end
abbrev sLaw : Stmt := sL
theorem all_mk {l : PySem.W.OpenLaw} {w : World} {K : PySem.W.Frag} {h : Heap} {mg : Str → Option Value} {fa fP fN fDr fB fS fX fH fI fA fWo fV fY fCk fWT fCh fNr fTw fRs fAc fIS fSS fSa fSt fSp fL fK fU fLo fLu fVw fWr fEq fG fR fPw fMd CD CC CIM CIP fT cdaT ccT pG pR pPw pMd : Addr} (X : K.In h) (G : h.Ns mainGlobals mg) (hfa : mg "law" = some (.ref fa))
    {odP anP odN anN odDr anDr odB anB odS anS odX anX odH anH odI anI odA anA odWo anWo odV anV odY anY odCk anCk odWT anWT odCh anCh odNr anNr odTw anTw odRs anRs odAc anAc odIS anIS odSS anSS odSa anSa odSt anSt odSp anSp odL anL odK anK odU anU odLo anLo odLu anLu odVw anVw odWr anWr odEq anEq odG anG odR anR odPw anPw odMd anMd : Option Addr} {slP slN slDr slB slS slX slH slI slA slWo slV slY slCk slWT slCh slNr slTw slRs slAc slIS slSS slSa slSt slSp slL slK slU slLo slLu slVw slWr slEq slG slR slPw slMd : Array (Option Value)} {ocP dcP pmP cdP ctP kVP ocN dcN pmN cdN ctN kVN ocDr dcDr pmDr cdDr ctDr kVDr ocB dcB pmB cdB ctB kVB ocS dcS pmS cdS ctS kVS ocX dcX pmX cdX ctX kVX ocH dcH pmH cdH ctH kVH ocI dcI pmI cdI ctI kVI ocA dcA pmA cdA ctA kVA ocWo dcWo pmWo cdWo ctWo kVWo ocV dcV pmV cdV ctV kVV ocY dcY pmY cdY ctY kVY ocCk dcCk pmCk cdCk ctCk kVCk ocWT dcWT pmWT cdWT ctWT kVWT ocCh dcCh pmCh cdCh ctCh kVCh ocNr dcNr pmNr cdNr ctNr kVNr ocTw dcTw pmTw cdTw ctTw kVTw ocRs dcRs pmRs cdRs ctRs kVRs ocAc dcAc pmAc cdAc ctAc kVAc ocIS dcIS pmIS cdIS ctIS kVIS ocSS dcSS pmSS cdSS ctSS kVSS ocSa dcSa pmSa cdSa ctSa kVSa ocSt dcSt pmSt cdSt ctSt kVSt ocSp dcSp pmSp cdSp ctSp kVSp ocL dcL pmL cdL ctL kVL ocK dcK pmK cdK ctK kVK ocU dcU pmU cdU ctU kVU ocLo dcLo pmLo cdLo ctLo kVLo ocLu dcLu pmLu cdLu ctLu kVLu ocVw dcVw pmVw cdVw ctVw kVVw ocWr dcWr pmWr cdWr ctWr kVWr ocEq dcEq pmEq cdEq ctEq kVEq ocG dcG pmG cdG ctG kVG ocR dcR pmR cdR ctR kVR ocPw dcPw pmPw cdPw ctPw kVPw ocMd dcMd pmMd cdMd ctMd kVMd : Value} {tkZ tkE tkO : Tok}
    {ocT kVT dcT pmT ctT ckT lkT : Value} {odT anT cddT ldT : Option Addr} {slT csT lsT : Array (Option Value)} {vsT : Array Value} {fiT : Str} {tfT : Tok}
    {rsG : List Value}
    {rsR : List Value}
    {rsPw : List Value}
    {rsMd : List Value}
    (aP : PySem.W.nsIn K mainGlobals "_law_pen" = some (some (.ref fP)))
    (lP : K.lookup fP = some ⟨ocP, odP, .func (PySem.W.fnOf "_law_pen" "_law_pen" (defArgs sP) (defBody sP) (defScope sP) .none kVP dcP pmP anP cdP ctP), slP⟩)
    (cP : PySem.W.codeIn K cdP "_law_pen" = true) (kP : PySem.W.keepIn K (.ref fP) = true)
    (aN : PySem.W.nsIn K mainGlobals "_law_next" = some (some (.ref fN)))
    (lN : K.lookup fN = some ⟨ocN, odN, .func (PySem.W.fnOf "_law_next" "_law_next" (defArgs sN) (defBody sN) (defScope sN) .none kVN dcN pmN anN cdN ctN), slN⟩)
    (cN : PySem.W.codeIn K cdN "_law_next" = true) (kN : PySem.W.keepIn K (.ref fN) = true)
    (aDr : PySem.W.nsIn K mainGlobals "_law_draw" = some (some (.ref fDr)))
    (lDr : K.lookup fDr = some ⟨ocDr, odDr, .func (PySem.W.fnOf "_law_draw" "_law_draw" (defArgs sDr) (defBody sDr) (defScope sDr) .none kVDr dcDr pmDr anDr cdDr ctDr), slDr⟩)
    (cDr : PySem.W.codeIn K cdDr "_law_draw" = true) (kDr : PySem.W.keepIn K (.ref fDr) = true)
    (aB : PySem.W.nsIn K mainGlobals "_law_bits" = some (some (.ref fB)))
    (lB : K.lookup fB = some ⟨ocB, odB, .func (PySem.W.fnOf "_law_bits" "_law_bits" (defArgs sB) (defBody sB) (defScope sB) .none kVB dcB pmB anB cdB ctB), slB⟩)
    (cB : PySem.W.codeIn K cdB "_law_bits" = true) (kB : PySem.W.keepIn K (.ref fB) = true)
    (aS : PySem.W.nsIn K mainGlobals "_law_size" = some (some (.ref fS)))
    (lS : K.lookup fS = some ⟨ocS, odS, .func (PySem.W.fnOf "_law_size" "_law_size" (defArgs sS) (defBody sS) (defScope sS) .none kVS dcS pmS anS cdS ctS), slS⟩)
    (cS : PySem.W.codeIn K cdS "_law_size" = true) (kS : PySem.W.keepIn K (.ref fS) = true)
    (aX : PySem.W.nsIn K mainGlobals "_law_prefixes" = some (some (.ref fX)))
    (lX : K.lookup fX = some ⟨ocX, odX, .func (PySem.W.fnOf "_law_prefixes" "_law_prefixes" (defArgs sX) (defBody sX) (defScope sX) .none kVX dcX pmX anX cdX ctX), slX⟩)
    (cX : PySem.W.codeIn K cdX "_law_prefixes" = true) (kX : PySem.W.keepIn K (.ref fX) = true)
    (aH : PySem.W.nsIn K mainGlobals "has_only" = some (some (.ref fH)))
    (lH : K.lookup fH = some ⟨ocH, odH, .func (PySem.W.fnOf "has_only" "has_only" (defArgs sH) (defBody sH) (defScope sH) .none kVH dcH pmH anH cdH ctH), slH⟩)
    (cH : PySem.W.codeIn K cdH "has_only" = true) (kH : PySem.W.keepIn K (.ref fH) = true)
    (aI : PySem.W.nsIn K mainGlobals "is_prefix" = some (some (.ref fI)))
    (lI : K.lookup fI = some ⟨ocI, odI, .func (PySem.W.fnOf "is_prefix" "is_prefix" (defArgs sI) (defBody sI) (defScope sI) .none kVI dcI pmI anI cdI ctI), slI⟩)
    (cI : PySem.W.codeIn K cdI "is_prefix" = true) (kI : PySem.W.keepIn K (.ref fI) = true)
    (aA : PySem.W.nsIn K mainGlobals "is_address" = some (some (.ref fA)))
    (lA : K.lookup fA = some ⟨ocA, odA, .func (PySem.W.fnOf "is_address" "is_address" (defArgs sA) (defBody sA) (defScope sA) .none kVA dcA pmA anA cdA ctA), slA⟩)
    (cA : PySem.W.codeIn K cdA "is_address" = true) (kA : PySem.W.keepIn K (.ref fA) = true)
    (aWo : PySem.W.nsIn K mainGlobals "is_whole" = some (some (.ref fWo)))
    (lWo : K.lookup fWo = some ⟨ocWo, odWo, .func (PySem.W.fnOf "is_whole" "is_whole" (defArgs sWo) (defBody sWo) (defScope sWo) .none kVWo dcWo pmWo anWo cdWo ctWo), slWo⟩)
    (cWo : PySem.W.codeIn K cdWo "is_whole" = true) (kWo : PySem.W.keepIn K (.ref fWo) = true)
    (aV : PySem.W.nsIn K mainGlobals "is_width" = some (some (.ref fV)))
    (lV : K.lookup fV = some ⟨ocV, odV, .func (PySem.W.fnOf "is_width" "is_width" (defArgs sV) (defBody sV) (defScope sV) .none kVV dcV pmV anV cdV ctV), slV⟩)
    (cV : PySem.W.codeIn K cdV "is_width" = true) (kV : PySem.W.keepIn K (.ref fV) = true)
    (aY : PySem.W.nsIn K mainGlobals "_law_lines" = some (some (.ref fY)))
    (lY : K.lookup fY = some ⟨ocY, odY, .func (PySem.W.fnOf "_law_lines" "_law_lines" (defArgs sY) (defBody sY) (defScope sY) .none kVY dcY pmY anY cdY ctY), slY⟩)
    (cY : PySem.W.codeIn K cdY "_law_lines" = true) (kY : PySem.W.keepIn K (.ref fY) = true)
    (aCk : PySem.W.nsIn K mainGlobals "check_pair" = some (some (.ref fCk)))
    (lCk : K.lookup fCk = some ⟨ocCk, odCk, .func (PySem.W.fnOf "check_pair" "check_pair" (defArgs sCk) (defBody sCk) (defScope sCk) .none kVCk dcCk pmCk anCk cdCk ctCk), slCk⟩)
    (cCk : PySem.W.codeIn K cdCk "check_pair" = true) (kCk : PySem.W.keepIn K (.ref fCk) = true)
    (aWT : PySem.W.nsIn K mainGlobals "wanted_targets" = some (some (.ref fWT)))
    (lWT : K.lookup fWT = some ⟨ocWT, odWT, .func (PySem.W.fnOf "wanted_targets" "wanted_targets" (defArgs sWT) (defBody sWT) (defScope sWT) .none kVWT dcWT pmWT anWT cdWT ctWT), slWT⟩)
    (cWT : PySem.W.codeIn K cdWT "wanted_targets" = true) (kWT : PySem.W.keepIn K (.ref fWT) = true)
    (aCh : PySem.W.nsIn K mainGlobals "changes" = some (some (.ref fCh)))
    (lCh : K.lookup fCh = some ⟨ocCh, odCh, .func (PySem.W.fnOf "changes" "changes" (defArgs sCh) (defBody sCh) (defScope sCh) .none kVCh dcCh pmCh anCh cdCh ctCh), slCh⟩)
    (cCh : PySem.W.codeIn K cdCh "changes" = true) (kCh : PySem.W.keepIn K (.ref fCh) = true)
    (aNr : PySem.W.nsIn K mainGlobals "_law_near" = some (some (.ref fNr)))
    (lNr : K.lookup fNr = some ⟨ocNr, odNr, .func (PySem.W.fnOf "_law_near" "_law_near" (defArgs sNr) (defBody sNr) (defScope sNr) .none kVNr dcNr pmNr anNr cdNr ctNr), slNr⟩)
    (cNr : PySem.W.codeIn K cdNr "_law_near" = true) (kNr : PySem.W.keepIn K (.ref fNr) = true)
    (aTw : PySem.W.nsIn K mainGlobals "_law_two" = some (some (.ref fTw)))
    (lTw : K.lookup fTw = some ⟨ocTw, odTw, .func (PySem.W.fnOf "_law_two" "_law_two" (defArgs sTw) (defBody sTw) (defScope sTw) .none kVTw dcTw pmTw anTw cdTw ctTw), slTw⟩)
    (cTw : PySem.W.codeIn K cdTw "_law_two" = true) (kTw : PySem.W.keepIn K (.ref fTw) = true)
    (aRs : PySem.W.nsIn K mainGlobals "run_starts" = some (some (.ref fRs)))
    (lRs : K.lookup fRs = some ⟨ocRs, odRs, .func (PySem.W.fnOf "run_starts" "run_starts" (defArgs sRs) (defBody sRs) (defScope sRs) .none kVRs dcRs pmRs anRs cdRs ctRs), slRs⟩)
    (cRs : PySem.W.codeIn K cdRs "run_starts" = true) (kRs : PySem.W.keepIn K (.ref fRs) = true)
    (aAc : PySem.W.nsIn K mainGlobals "after_change" = some (some (.ref fAc)))
    (lAc : K.lookup fAc = some ⟨ocAc, odAc, .func (PySem.W.fnOf "after_change" "after_change" (defArgs sAc) (defBody sAc) (defScope sAc) .none kVAc dcAc pmAc anAc cdAc ctAc), slAc⟩)
    (cAc : PySem.W.codeIn K cdAc "after_change" = true) (kAc : PySem.W.keepIn K (.ref fAc) = true)
    (aIS : PySem.W.nsIn K mainGlobals "is_sequence" = some (some (.ref fIS)))
    (lIS : K.lookup fIS = some ⟨ocIS, odIS, .func (PySem.W.fnOf "is_sequence" "is_sequence" (defArgs sIS) (defBody sIS) (defScope sIS) .none kVIS dcIS pmIS anIS cdIS ctIS), slIS⟩)
    (cIS : PySem.W.codeIn K cdIS "is_sequence" = true) (kIS : PySem.W.keepIn K (.ref fIS) = true)
    (aSS : PySem.W.nsIn K mainGlobals "stays_safe" = some (some (.ref fSS)))
    (lSS : K.lookup fSS = some ⟨ocSS, odSS, .func (PySem.W.fnOf "stays_safe" "stays_safe" (defArgs sSS) (defBody sSS) (defScope sSS) .none kVSS dcSS pmSS anSS cdSS ctSS), slSS⟩)
    (cSS : PySem.W.codeIn K cdSS "stays_safe" = true) (kSS : PySem.W.keepIn K (.ref fSS) = true)
    (aSa : PySem.W.nsIn K mainGlobals "is_safe" = some (some (.ref fSa)))
    (lSa : K.lookup fSa = some ⟨ocSa, odSa, .func (PySem.W.fnOf "is_safe" "is_safe" (defArgs sSa) (defBody sSa) (defScope sSa) .none kVSa dcSa pmSa anSa cdSa ctSa), slSa⟩)
    (cSa : PySem.W.codeIn K cdSa "is_safe" = true) (kSa : PySem.W.keepIn K (.ref fSa) = true)
    (aSt : PySem.W.nsIn K mainGlobals "_law_stays" = some (some (.ref fSt)))
    (lSt : K.lookup fSt = some ⟨ocSt, odSt, .func (PySem.W.fnOf "_law_stays" "_law_stays" (defArgs sSt) (defBody sSt) (defScope sSt) .none kVSt dcSt pmSt anSt cdSt ctSt), slSt⟩)
    (cSt : PySem.W.codeIn K cdSt "_law_stays" = true) (kSt : PySem.W.keepIn K (.ref fSt) = true)
    (aSp : PySem.W.nsIn K mainGlobals "_law_spoiled" = some (some (.ref fSp)))
    (lSp : K.lookup fSp = some ⟨ocSp, odSp, .func (PySem.W.fnOf "_law_spoiled" "_law_spoiled" (defArgs sSp) (defBody sSp) (defScope sSp) .none kVSp dcSp pmSp anSp cdSp ctSp), slSp⟩)
    (cSp : PySem.W.codeIn K cdSp "_law_spoiled" = true) (kSp : PySem.W.keepIn K (.ref fSp) = true)
    (aL : PySem.W.nsIn K mainGlobals "law" = some (some (.ref fL)))
    (lL : K.lookup fL = some ⟨ocL, odL, .func (PySem.W.fnOf "law" "law" (defArgs sL) (defBody sL) (defScope sL) .none kVL dcL pmL anL cdL ctL), slL⟩)
    (cL : PySem.W.codeIn K cdL "law" = true) (kL : PySem.W.keepIn K (.ref fL) = true)
    (aD : PySem.W.nsIn K mainGlobals "PrefixMap" = some (some (.ref CD))) (pgD : PySem.W.plainGet K CD Str.empty = true) (hdD : PySem.W.hasDictIn K CD = true) (poD : PySem.W.plainOver K CD = true) (saD : PySem.W.findIn K (.ref CD) "__setattr__" = some (some (.builtin "object.__setattr__"))) (mkD : PySem.W.makesIn K CD = true) (kcD : PySem.W.keepIn K (.ref CD) = true)
    (aC : PySem.W.nsIn K mainGlobals "Table" = some (some (.ref CC))) (pgC : PySem.W.plainGet K CC Str.empty = true) (hdC : PySem.W.hasDictIn K CC = true) (poC : PySem.W.plainOver K CC = true) (saC : PySem.W.findIn K (.ref CC) "__setattr__" = some (some (.builtin "object.__setattr__"))) (mkC : PySem.W.makesIn K CC = true) (kcC : PySem.W.keepIn K (.ref CC) = true)
    (nC_width : PySem.W.findIn K (.ref CC) "_width" = some none)
    (nC_rows : PySem.W.findIn K (.ref CC) "_rows" = some none)
    (aK : PySem.W.findIn K (.ref CC) "_checked" = some (some (.ref fK))) (iK : PySem.W.isFn K (.ref fK) = true)
    (lK : K.lookup fK = some ⟨ocK, odK, .func (PySem.W.fnOf "_checked" "Table._checked" (defArgs sK) (defBody sK) (defScope sK) .none kVK dcK pmK anK cdK ctK), slK⟩)
    (cK : PySem.W.codeIn K cdK "Table._checked" = true) (kK : PySem.W.keepIn K (.ref fK) = true)
    (aU : PySem.W.findIn K (.ref CD) "__init__" = some (some (.ref fU))) (iU : PySem.W.isFn K (.ref fU) = true)
    (lU : K.lookup fU = some ⟨ocU, odU, .func (PySem.W.fnOf "__init__" "PrefixMap.__init__" (defArgs sU) (defBody sU) (defScope sU) .none kVU dcU pmU anU cdU ctU), slU⟩)
    (cU : PySem.W.codeIn K cdU "PrefixMap.__init__" = true) (kU : PySem.W.keepIn K (.ref fU) = true)
    (aLo : PySem.W.findIn K (.ref CC) "longest" = some (some (.ref fLo))) (iLo : PySem.W.isFn K (.ref fLo) = true)
    (lLo : K.lookup fLo = some ⟨ocLo, odLo, .func (PySem.W.fnOf "longest" "PrefixMap.longest" (defArgs sLo) (defBody sLo) (defScope sLo) .none kVLo dcLo pmLo anLo cdLo ctLo), slLo⟩)
    (cLo : PySem.W.codeIn K cdLo "PrefixMap.longest" = true) (kLo : PySem.W.keepIn K (.ref fLo) = true)
    (aLu : PySem.W.findIn K (.ref CC) "lookup" = some (some (.ref fLu))) (iLu : PySem.W.isFn K (.ref fLu) = true)
    (lLu : K.lookup fLu = some ⟨ocLu, odLu, .func (PySem.W.fnOf "lookup" "Table.lookup" (defArgs sLu) (defBody sLu) (defScope sLu) .none kVLu dcLu pmLu anLu cdLu ctLu), slLu⟩)
    (cLu : PySem.W.codeIn K cdLu "Table.lookup" = true) (kLu : PySem.W.keepIn K (.ref fLu) = true)
    (aVw : PySem.W.findIn K (.ref CC) "with_row" = some (some (.ref fVw))) (iVw : PySem.W.isFn K (.ref fVw) = true)
    (lVw : K.lookup fVw = some ⟨ocVw, odVw, .func (PySem.W.fnOf "with_row" "PrefixMap.with_row" (defArgs sVw) (defBody sVw) (defScope sVw) .none kVVw dcVw pmVw anVw cdVw ctVw), slVw⟩)
    (cVw : PySem.W.codeIn K cdVw "PrefixMap.with_row" = true) (kVw : PySem.W.keepIn K (.ref fVw) = true)
    (aWr : PySem.W.findIn K (.ref CC) "without" = some (some (.ref fWr))) (iWr : PySem.W.isFn K (.ref fWr) = true)
    (lWr : K.lookup fWr = some ⟨ocWr, odWr, .func (PySem.W.fnOf "without" "PrefixMap.without" (defArgs sWr) (defBody sWr) (defScope sWr) .none kVWr dcWr pmWr anWr cdWr ctWr), slWr⟩)
    (cWr : PySem.W.codeIn K cdWr "PrefixMap.without" = true) (kWr : PySem.W.keepIn K (.ref fWr) = true)
    (aEq : PySem.W.findIn K (.ref CC) "__eq__" = some (some (.ref fEq))) (iEq : PySem.W.isFn K (.ref fEq) = true)
    (lEq : K.lookup fEq = some ⟨ocEq, odEq, .func (PySem.W.fnOf "__eq__" "PrefixMap.__eq__" (defArgs sEq) (defBody sEq) (defScope sEq) .none kVEq dcEq pmEq anEq cdEq ctEq), slEq⟩)
    (cEq : PySem.W.codeIn K cdEq "PrefixMap.__eq__" = true) (kEq : PySem.W.keepIn K (.ref fEq) = true)
    (aT : PySem.W.findIn K (.ref CC) "__init__" = some (some (.ref fT))) (iT : PySem.W.isFn K (.ref fT) = true)
    (lT : K.lookup fT = some ⟨ocT, odT, .func (PySem.W.ksFn "__init__" "Table.__init__" (defArgs sT) (defBody sT) (defScope sT) .none kVT dcT pmT anT (.ref cdaT) ctT ccT), slT⟩)
    (cT : PySem.W.codeIn K (.ref cdaT) "Table.__init__" = true) (kT : PySem.W.keepIn K (.ref fT) = true) (qT : K.lookup cdaT = some ⟨ckT, cddT, .fields vsT, csT⟩) (xT : vsT[2]? = some (.str fiT tfT)) (uT : K.lookup ccT = some ⟨lkT, ldT, .cell (some (.ref CC)), lsT⟩)
    (hcT : PySem.W.isClsIn K CC = true) (hsT : PySem.W.mroIn K CC (.ref CC) = some true) (hmT : PySem.W.ks_superIn K CC CC "__init__" = some (some (.ref fU))) (hnT : PySem.W.fnIn K fU = true) (hpT : PySem.W.nsIn K cStatics "thirdparty.any" = some none)
    (hfT : ((l.prog.main.file : Str) == fiT) = true) (htT : (l.prog.main.scope.names.lookup ("super" : Str)).isSome = false)
    (aG : PySem.W.findIn K (.ref CC) "is_target" = some (some (.ref pG))) (tyG : PySem.W.typeIn K (.ref pG) = some (.type "staticmethod")) (ggG : PySem.W.specialIn K (.ref pG) "__get__" = some (some (.builtin "staticmethod.__get__"))) (tkG : PySem.W.takesIn K (.ref pG) = some false) (rcG : PySem.W.recIn K pG "staticmethod" = some (.ref fG :: rsG))
    (lG : K.lookup fG = some ⟨ocG, odG, .func (PySem.W.fnOf "is_target" "Table.is_target" (defArgs sG) (defBody sG) (defScope sG) .none kVG dcG pmG anG cdG ctG), slG⟩)
    (cG : PySem.W.codeIn K cdG "Table.is_target" = true) (kG : PySem.W.keepIn K (.ref fG) = true)
    (aR : PySem.W.findIn K (.ref CC) "rows" = some (some (.ref pR))) (ggR : PySem.W.specialIn K (.ref pR) "__get__" = some (some (.builtin "property.__get__"))) (tkR : PySem.W.takesIn K (.ref pR) = some true) (rcR : PySem.W.recIn K pR "property" = some (.ref fR :: rsR))
    (lR : K.lookup fR = some ⟨ocR, odR, .func (PySem.W.fnOf "rows" "PrefixMap.rows" (defArgs sR) (defBody sR) (defScope sR) .none kVR dcR pmR anR cdR ctR), slR⟩)
    (cR : PySem.W.codeIn K cdR "PrefixMap.rows" = true) (kR : PySem.W.keepIn K (.ref fR) = true)
    (aPw : PySem.W.findIn K (.ref CC) "width" = some (some (.ref pPw))) (ggPw : PySem.W.specialIn K (.ref pPw) "__get__" = some (some (.builtin "property.__get__"))) (tkPw : PySem.W.takesIn K (.ref pPw) = some true) (rcPw : PySem.W.recIn K pPw "property" = some (.ref fPw :: rsPw))
    (lPw : K.lookup fPw = some ⟨ocPw, odPw, .func (PySem.W.fnOf "width" "PrefixMap.width" (defArgs sPw) (defBody sPw) (defScope sPw) .none kVPw dcPw pmPw anPw cdPw ctPw), slPw⟩)
    (cPw : PySem.W.codeIn K cdPw "PrefixMap.width" = true) (kPw : PySem.W.keepIn K (.ref fPw) = true)
    (aMd : PySem.W.findIn K (.ref CC) "_made" = some (some (.ref pMd))) (tyMd : PySem.W.typeIn K (.ref pMd) = some (.type "classmethod")) (ggMd : PySem.W.specialIn K (.ref pMd) "__get__" = some (some (.builtin "classmethod.__get__"))) (tkMd : PySem.W.takesIn K (.ref pMd) = some false) (rcMd : PySem.W.recIn K pMd "classmethod" = some (.ref fMd :: rsMd)) (hnMd : PySem.W.fnIn K fMd = true) (icMd : PySem.W.isClsIn K CC = true)
    (lMd : K.lookup fMd = some ⟨ocMd, odMd, .func (PySem.W.fnOf "_made" "PrefixMap._made" (defArgs sMd) (defBody sMd) (defScope sMd) .none kVMd dcMd pmMd anMd cdMd ctMd), slMd⟩)
    (cMd : PySem.W.codeIn K cdMd "PrefixMap._made" = true) (kMd : PySem.W.keepIn K (.ref fMd) = true)
    (aIM : PySem.W.nsIn K mainGlobals "InvalidMap" = some (some (.ref CIM))) (exIM : PySem.W.excIn K CIM [.type "ValueError", .type "Exception", .type "BaseException", .type "object"] "ValueError.__new__" = true) (ekIM : PySem.W.keepIn K (.ref CIM) = true) (ebIM : PySem.W.subIn K (.ref CIM) (.type "BaseException") = some true) (etIM : PySem.W.typeIn K (.ref CIM) = some (.type "type")) (eiIM : PySem.W.isClsIn K CIM = true) (ehIM : PySem.W.hasDictIn K CIM = true)
    (aIP : PySem.W.nsIn K mainGlobals "InvalidPair" = some (some (.ref CIP))) (exIP : PySem.W.excIn K CIP [.type "ValueError", .type "Exception", .type "BaseException", .type "object"] "ValueError.__new__" = true) (ekIP : PySem.W.keepIn K (.ref CIP) = true) (ebIP : PySem.W.subIn K (.ref CIP) (.type "BaseException") = some true) (etIP : PySem.W.typeIn K (.ref CIP) = some (.type "type")) (eiIP : PySem.W.isClsIn K CIP = true) (ehIP : PySem.W.hasDictIn K CIP = true)
    (q1 : PySem.W.findIn K (.ref CC) "__class__" = some (some (.builtin "object.__class__")))
    (q2 : PySem.W.specialIn K (.builtin "object.__class__") "__get__" = some (some (.builtin "getset_descriptor.__get__")))
    (q3 : PySem.W.takesIn K (.builtin "object.__class__") = some true)
    (q4 : PySem.W.mroIn K CC (.type "object") = some true)
    (q5 : PySem.W.findIn K (.ref CC) "__ne__" = some (some (.builtin "object.__ne__")))
    (q6 : PySem.W.isClsIn K CD = true)
    (q7 : PySem.W.typeIn K (.ref CD) = some (.type "type"))
    (q8 : PySem.W.mroIn K CC (.ref CD) = some true)
    (vZ : PySem.W.nsIn K mainGlobals "WIDEST" = some (some (.int 32 tkZ)))
    (vE : PySem.W.nsIn K mainGlobals "LONGEST_TARGET" = some (some (.int 8 tkE)))
    (vO : PySem.W.nsIn K mainGlobals "LETTERS" = some (some (.str letters tkO)))
    (z0 : PySem.W.nsIn K mainGlobals "list" = some none)
    (z1 : PySem.W.nsIn K mainGlobals "len" = some none)
    (z2 : PySem.W.nsIn K mainGlobals "range" = some none)
    (z3 : PySem.W.nsIn K mainGlobals "min" = some none)
    (z4 : PySem.W.nsIn K mainGlobals "isinstance" = some none)
    (z5 : PySem.W.nsIn K mainGlobals "str" = some none)
    (z6 : PySem.W.nsIn K mainGlobals "int" = some none)
    (z7 : PySem.W.nsIn K mainGlobals "bool" = some none)
    (z8 : PySem.W.nsIn K mainGlobals "dict" = some none)
    (z9 : PySem.W.nsIn K mainGlobals "sorted" = some none)
    (z10 : PySem.W.nsIn K mainGlobals "super" = some none)
    (z11 : PySem.W.nsIn K mainGlobals "set" = some none)
    (z12 : PySem.W.nsIn K mainGlobals "tuple" = some none)
    (z13 : PySem.W.nsIn K mainGlobals "type" = some none)
    (z14 : PySem.W.nsIn K mainGlobals "repr" = some none)
    : ∃ fd : FuncData, (∀ (s : Shared) (v : Value), BindsTo s fd ⟨[v], []⟩ [("script", v)]) ∧ ∀ base : Heap, K.In base → base.Ns mainGlobals mg → (∃ mm, base.Ns sysModules mm) → FnG l.prog w K mg base 15 fa fd ["script"] (spLaw K) := by
  have e := hfa.symm.trans (PySem.W.mg_of X G aL)
  cases e
  have FP := fun_mk (st := sP) lP cP kP
  have bP := FP.binds (ps := ["script"]) fun _ _ _ _ _ _ us hl => match us, hl with | [_], _ => rfl
  have gP := PySem.W.mg_of X G aP
  have FN := fun_mk (st := sN) lN cN kN
  have bN := FN.binds (ps := ["pen"]) fun _ _ _ _ _ _ us hl => match us, hl with | [_], _ => rfl
  have gN := PySem.W.mg_of X G aN
  have FDr := fun_mk (st := sDr) lDr cDr kDr
  have bDr := FDr.binds (ps := ["pen", "below"]) fun _ _ _ _ _ _ us hl => match us, hl with | [_, _], _ => rfl
  have gDr := PySem.W.mg_of X G aDr
  have FB := fun_mk (st := sB) lB cB kB
  have bB := FB.binds (ps := ["pen", "size"]) fun _ _ _ _ _ _ us hl => match us, hl with | [_, _], _ => rfl
  have gB := PySem.W.mg_of X G aB
  have FS := fun_mk (st := sS) lS cS kS
  have bS := FS.binds (ps := ["pen"]) fun _ _ _ _ _ _ us hl => match us, hl with | [_], _ => rfl
  have gS := PySem.W.mg_of X G aS
  have FX := fun_mk (st := sX) lX cX kX
  have bX := FX.binds (ps := ["pen", "size", "most"]) fun _ _ _ _ _ _ us hl => match us, hl with | [_, _, _], _ => rfl
  have gX := PySem.W.mg_of X G aX
  have FH := fun_mk (st := sH) lH cH kH
  have bH := FH.binds (ps := ["text", "signs"]) fun _ _ _ _ _ _ us hl => match us, hl with | [_, _], _ => rfl
  have gH := PySem.W.mg_of X G aH
  have FI := fun_mk (st := sI) lI cI kI
  have bI := FI.binds (ps := ["thing", "width"]) fun _ _ _ _ _ _ us hl => match us, hl with | [_, _], _ => rfl
  have gI := PySem.W.mg_of X G aI
  have FA := fun_mk (st := sA) lA cA kA
  have bA := FA.binds (ps := ["thing", "width"]) fun _ _ _ _ _ _ us hl => match us, hl with | [_, _], _ => rfl
  have gA := PySem.W.mg_of X G aA
  have FWo := fun_mk (st := sWo) lWo cWo kWo
  have bWo := FWo.binds (ps := ["thing"]) fun _ _ _ _ _ _ us hl => match us, hl with | [_], _ => rfl
  have gWo := PySem.W.mg_of X G aWo
  have FV := fun_mk (st := sV) lV cV kV
  have bV := FV.binds (ps := ["thing"]) fun _ _ _ _ _ _ us hl => match us, hl with | [_], _ => rfl
  have gV := PySem.W.mg_of X G aV
  have FY := fun_mk (st := sY) lY cY kY
  have bY := FY.binds (ps := ["pen", "size", "most"]) fun _ _ _ _ _ _ us hl => match us, hl with | [_, _, _], _ => rfl
  have gY := PySem.W.mg_of X G aY
  have FCk := fun_mk (st := sCk) lCk cCk kCk
  have bCk := FCk.binds (ps := ["one", "two"]) fun _ _ _ _ _ _ us hl => match us, hl with | [_, _], _ => rfl
  have gCk := PySem.W.mg_of X G aCk
  have FWT := fun_mk (st := sWT) lWT cWT kWT
  have bWT := FWT.binds (ps := ["old", "new"]) fun _ _ _ _ _ _ us hl => match us, hl with | [_, _], _ => rfl
  have gWT := PySem.W.mg_of X G aWT
  have FCh := fun_mk (st := sCh) lCh cCh kCh
  have bCh := FCh.binds (ps := ["old", "new"]) fun _ _ _ _ _ _ us hl => match us, hl with | [_, _], _ => rfl
  have gCh := PySem.W.mg_of X G aCh
  have FNr := fun_mk (st := sNr) lNr cNr kNr
  have bNr := FNr.binds (ps := ["pen", "size", "lines"]) fun _ _ _ _ _ _ us hl => match us, hl with | [_, _, _], _ => rfl
  have gNr := PySem.W.mg_of X G aNr
  have FTw := fun_mk (st := sTw) lTw cTw kTw
  have bTw := FTw.binds (ps := ["pen", "size", "most"]) fun _ _ _ _ _ _ us hl => match us, hl with | [_, _, _], _ => rfl
  have gTw := PySem.W.mg_of X G aTw
  have FRs := fun_mk (st := sRs) lRs cRs kRs
  have bRs := FRs.binds (ps := ["width", "prefixes"]) fun _ _ _ _ _ _ us hl => match us, hl with | [_, _], _ => rfl
  have gRs := PySem.W.mg_of X G aRs
  have FAc := fun_mk (st := sAc) lAc cAc kAc
  have bAc := FAc.binds (ps := ["table", "prefix", "target"]) fun _ _ _ _ _ _ us hl => match us, hl with | [_, _, _], _ => rfl
  have gAc := PySem.W.mg_of X G aAc
  have FIS := fun_mk (st := sIS) lIS cIS kIS
  have bIS := FIS.binds (ps := ["old", "new", "thing"]) fun _ _ _ _ _ _ us hl => match us, hl with | [_, _, _], _ => rfl
  have gIS := PySem.W.mg_of X G aIS
  have FSS := fun_mk (st := sSS) lSS cSS kSS
  have bSS := FSS.binds (ps := ["old", "new", "sequence"]) fun _ _ _ _ _ _ us hl => match us, hl with | [_, _, _], _ => rfl
  have gSS := PySem.W.mg_of X G aSS
  have FSa := fun_mk (st := sSa) lSa cSa kSa
  have bSa := FSa.binds (ps := ["old", "new", "thing"]) fun _ _ _ _ _ _ us hl => match us, hl with | [_, _, _], _ => rfl
  have gSa := PySem.W.mg_of X G aSa
  have FSt := fun_mk (st := sSt) lSt cSt kSt
  have bSt := FSt.binds (ps := ["made", "size", "lines"]) fun _ _ _ _ _ _ us hl => match us, hl with | [_, _, _], _ => rfl
  have gSt := PySem.W.mg_of X G aSt
  have FSp := fun_mk (st := sSp) lSp cSp kSp
  have bSp := FSp.binds (ps := ["pen", "size", "good", "one", "two"]) fun _ _ _ _ _ _ us hl => match us, hl with | [_, _, _, _, _], _ => rfl
  have gSp := PySem.W.mg_of X G aSp
  have FL := fun_mk (st := sL) lL cL kL
  have clD : Cls K CD := ⟨pgD, hdD, poD, saD⟩
  have gD := PySem.W.mg_of X G aD
  have clC : Cls K CC := ⟨pgC, hdC, poC, saC⟩
  have gC := PySem.W.mg_of X G aC
  have FK := fun_mk (st := sK) lK cK kK
  have bK := FK.binds (ps := ["self", "value"]) fun _ _ _ _ _ _ us hl => match us, hl with | [_, _], _ => rfl
  have mtK : Meth K CC "_checked" fK := ⟨aK, iK, kK⟩
  have FU := fun_mk (st := sU) lU cU kU
  have bU := FU.binds (ps := ["self", "width", "rows"]) fun _ _ _ _ _ _ us hl => match us, hl with | [_, _, _], _ => rfl
  have MD : Mk K CD fU := ⟨mkD, aU, iU, kcD⟩
  have FLo := fun_mk (st := sLo) lLo cLo kLo
  have bLo := FLo.binds (ps := ["self", "prefix"]) fun _ _ _ _ _ _ us hl => match us, hl with | [_, _], _ => rfl
  have mtLo : Meth K CC "longest" fLo := ⟨aLo, iLo, kLo⟩
  have FLu := fun_mk (st := sLu) lLu cLu kLu
  have bLu := FLu.binds (ps := ["self", "address"]) fun _ _ _ _ _ _ us hl => match us, hl with | [_, _], _ => rfl
  have mtLu : Meth K CC "lookup" fLu := ⟨aLu, iLu, kLu⟩
  have FVw := fun_mk (st := sVw) lVw cVw kVw
  have bVw := FVw.binds (ps := ["self", "prefix", "value"]) fun _ _ _ _ _ _ us hl => match us, hl with | [_, _, _], _ => rfl
  have mtVw : Meth K CC "with_row" fVw := ⟨aVw, iVw, kVw⟩
  have FWr := fun_mk (st := sWr) lWr cWr kWr
  have bWr := FWr.binds (ps := ["self", "prefix"]) fun _ _ _ _ _ _ us hl => match us, hl with | [_, _], _ => rfl
  have mtWr : Meth K CC "without" fWr := ⟨aWr, iWr, kWr⟩
  have FEq := fun_mk (st := sEq) lEq cEq kEq
  have bEq := FEq.binds (ps := ["self", "other"]) fun _ _ _ _ _ _ us hl => match us, hl with | [_, _], _ => rfl
  have mtEq : Meth K CC "__eq__" fEq := ⟨aEq, iEq, kEq⟩
  have FT : FunS K fiT "__init__" "Table.__init__" sT fT CC _ := ⟨⟨_, _, _, _, _, _, _, _, _, _, _, _, _, _, _, _, _, _, rfl, lT, cT, qT, xT, uT⟩, kT⟩
  have bT : L2.Binds K (PySem.W.ksFn "__init__" "Table.__init__" (defArgs sT) (defBody sT) (defScope sT) .none kVT dcT pmT anT (.ref cdaT) ctT ccT) ["self", "width", "rows"] [] := .all fun us hl => match us, hl with | [_, _, _], _ => rfl
  have MC : Mk K CC fT := ⟨mkC, aT, iT, kcC⟩
  have FG := fun_mk (st := sG) lG cG kG
  have bG := FG.binds (ps := ["thing"]) fun _ _ _ _ _ _ us hl => match us, hl with | [_], _ => rfl
  have SG : SMeth K CC "is_target" pG fG := ⟨aG, tyG, ggG, tkG, by decide +kernel, ⟨_, rcG⟩, kG⟩
  have FR := fun_mk (st := sR) lR cR kR
  have bR := FR.binds (ps := ["self"]) fun _ _ _ _ _ _ us hl => match us, hl with | [_], _ => rfl
  have PR : PropOf K CC "rows" pR fR := ⟨aR, ggR, tkR, ⟨_, rcR⟩⟩
  have FPw := fun_mk (st := sPw) lPw cPw kPw
  have bPw := FPw.binds (ps := ["self"]) fun _ _ _ _ _ _ us hl => match us, hl with | [_], _ => rfl
  have PPw : PropOf K CC "width" pPw fPw := ⟨aPw, ggPw, tkPw, ⟨_, rcPw⟩⟩
  have FMd := fun_mk (st := sMd) lMd cMd kMd
  have bMd := FMd.binds (ps := ["cls", "width", "rows"]) fun _ _ _ _ _ _ us hl => match us, hl with | [_, _, _], _ => rfl
  have CMd_ : ClX.CInst K CC "_made" pMd fMd := ⟨pgC, icMd, aMd, tyMd, ggMd, tkMd, by decide +kernel, ⟨_, rcMd⟩, hnMd⟩
  have gIM := PySem.W.mg_of X G aIM
  have EIM : ExF K CIM := ⟨exIM, ekIM, ebIM, etIM, eiIM⟩
  have gIP := PySem.W.mg_of X G aIP
  have EIP : ExF K CIP := ⟨exIP, ekIP, ebIP, etIP, eiIP⟩
  have wZ := PySem.W.mg_of X G vZ
  have wE := PySem.W.mg_of X G vE
  have wO := PySem.W.mg_of X G vO
  have m_list := PySem.W.mg_none_of X G z0
  have m_len := PySem.W.mg_none_of X G z1
  have m_range := PySem.W.mg_none_of X G z2
  have m_min := PySem.W.mg_none_of X G z3
  have m_isinstance := PySem.W.mg_none_of X G z4
  have m_str := PySem.W.mg_none_of X G z5
  have m_int := PySem.W.mg_none_of X G z6
  have m_bool := PySem.W.mg_none_of X G z7
  have m_dict := PySem.W.mg_none_of X G z8
  have m_sorted := PySem.W.mg_none_of X G z9
  have m_super := PySem.W.mg_none_of X G z10
  have m_set := PySem.W.mg_none_of X G z11
  have m_tuple := PySem.W.mg_none_of X G z12
  have m_type := PySem.W.mg_none_of X G z13
  have m_repr := PySem.W.mg_none_of X G z14
  refine ⟨PySem.W.fnOf "law" "law" (defArgs sLaw) (defBody sLaw) (defScope sLaw) .none kVL dcL pmL anL cdL ctL, fun s v => .of_eq rfl, fun base _ _ sys => ?_⟩
  have OCC : ObjC K CC := ⟨q1, q2, q3, q4, q5⟩
  have GP := (ok_pen (P := l.prog) (w := w) (base := base) (mg := mg) (k := 0) FP m_list)
  have GDr := (ok_draw (P := l.prog) (w := w) (base := base) (mg := mg) (k := 0) FDr FN bN gN m_len)
  have GB := (ok_bits (P := l.prog) (w := w) (base := base) (mg := mg) FB GDr FDr bDr gDr m_range)
  have GS := (ok_size (P := l.prog) (w := w) (base := base) (mg := mg) FS GDr FDr bDr gDr m_len)
  have GX := (ok_prefixes (P := l.prog) (w := w) (base := base) (mg := mg) FX (GDr.mono (by decide)) FDr bDr gDr GB FB bB gB m_range m_len m_min)
  have GI := (ok_pfx (P := l.prog) (w := w) (base := base) (mg := mg) (k := 0) FI FH bH gH m_isinstance m_str m_len)
  have GA := (ok_adr (P := l.prog) (w := w) (base := base) (mg := mg) FA GI FI bI gI m_len)
  have GWo := (ok_whole (P := l.prog) (w := w) (base := base) (mg := mg) (k := 0) FWo m_isinstance m_int m_bool)
  have GV := (ok_width (P := l.prog) (w := w) (base := base) (mg := mg) FV GWo FWo bWo gWo wZ)
  have GY := (ok_lines (P := l.prog) (w := w) (base := base) (mg := mg) FY (GDr.mono (by decide)) FDr bDr gDr GX FX bX gX m_dict)
  have GG := (ok_tgt (P := l.prog) (w := w) (base := base) (mg := mg) (k := 0) FG FH bH gH m_isinstance m_str m_len wE wO)
  have GK := (ok_tchk (P := l.prog) (w := w) (base := base) (mg := mg) (C := CC) FK (⟨clC, nC_width, nC_rows⟩ : ClsF K CC) SG GG bG)
  have GU := (ok_init (P := l.prog) (w := w) (base := base) (mg := mg) FU (⟨clC, nC_width, nC_rows⟩ : ClsF K CC) (GV.mono (by decide : _ ≤ 3)) FV bV gV (GI.mono (by decide : _ ≤ 3)) FI bI gI GK mtK bK m_isinstance m_dict m_sorted)
  have GT := (ok_tinit (P := l.prog) (w := w) (base := base) (mg := mg) FT GU bU hnT (beq_iff_eq.mp iU) (Option.isSome_iff_exists.mp hcT) hsT hmT hpT m_super hfT htT)
  have GR := (ok_rows (P := l.prog) (w := w) (base := base) (mg := mg) (k := 0) FR (⟨clC, nC_width, nC_rows⟩ : ClsF K CC) m_dict)
  have GPw := (ok_widthP (P := l.prog) (w := w) (base := base) (mg := mg) (k := 0) FPw (⟨clC, nC_width, nC_rows⟩ : ClsF K CC))
  have GLo := (ok_longest (P := l.prog) (w := w) (base := base) (mg := mg) FLo (⟨clC, nC_width, nC_rows⟩ : ClsF K CC) GI FI bI gI m_range m_len)
  have GLu := (ok_look (P := l.prog) (w := w) (base := base) (mg := mg) FLu (⟨clC, nC_width, nC_rows⟩ : ClsF K CC) GA FA bA gA (GLo.mono (by decide)) mtLo bLo)
  have GMd := (show FnR l.prog w K mg base CX0 _ fMd (spMade CC isTgtV) from ((ok_made (P := l.prog) (w := w) (base := base) (mg := mg) FMd MC GT bT).raw bMd .nil).imp fun vs H Q E h => by rw [List.append_nil]; exact h)
  have GVw := (ok_with (P := l.prog) (w := w) (base := base) (mg := mg) FVw (⟨clC, nC_width, nC_rows⟩ : ClsF K CC) (GI.mono (by decide)) FI bI gI CMd_ GMd)
  have GWr := (ok_without (P := l.prog) (w := w) (base := base) (mg := mg) FWr (⟨clC, nC_width, nC_rows⟩ : ClsF K CC) m_isinstance m_str CMd_ GMd)
  have GCk := ok_Ck (P := l.prog) (w := w) (base := base) (mg := mg) (k := 1) FCk (GPw.mono (by decide)) PPw bPw clC EIP gIP
  have GWT := ok_WT (P := l.prog) (w := w) (base := base) (mg := mg) (k := 1) FWT (GR.mono (by decide)) PR bR clC
  have GCh := ok_Ch (P := l.prog) (w := w) (base := base) (mg := mg) (k := 3) FCh (GCk.mono (by decide)) FCk bCk gCk (GWT.mono (by decide)) FWT bWT gWT m_len m_sorted
  have GNr := ok_Nr (P := l.prog) (w := w) (base := base) (mg := mg) (k := 4) FNr (GDr.mono (by decide)) FDr bDr gDr m_dict (GX.mono (by decide)) FX bX gX m_list
  have GTw := ok_Tw (P := l.prog) (w := w) (base := base) (mg := mg) (k := 5) FTw (GY.mono (by decide)) FY bY gY (GNr.mono (by decide)) FNr bNr gNr (GDr.mono (by decide)) FDr bDr gDr
  have GRs := ok_Rs (P := l.prog) (w := w) (base := base) (mg := mg) (k := 0) FRs m_sorted
  have GAc := ok_Ac (P := l.prog) (w := w) (base := base) (mg := mg) (k := 9) FAc clC (GWr.mono (by decide)) mtWr bWr (GVw.mono (by decide)) mtVw bVw
  have GIS := ok_IS (P := l.prog) (w := w) (base := base) (mg := mg) (k := 3) FIS (GWT.mono (by decide)) FWT bWT gWT m_len m_list m_isinstance m_set m_tuple m_str
  have GSS := ok_SS (P := l.prog) (w := w) (base := base) (mg := mg) (k := 10) FSS (GPw.mono (by decide)) PPw bPw clC (GR.mono (by decide)) PR bR m_list (GRs.mono (by decide)) FRs bRs gRs (GLu.mono (by decide)) mtLu bLu (GAc.mono (by decide)) FAc bAc gAc
  have GSa := ok_Sa (P := l.prog) (w := w) (base := base) (mg := mg) (k := 12) FSa (GCk.mono (by decide)) FCk bCk gCk (GSS.mono (by decide)) FSS bSS gSS (GIS.mono (by decide)) FIS bIS gIS
  have GEq := (ok_eqm (P := l.prog) (w := w) (base := base) (mg := mg) (k := 0) FEq (⟨clC, nC_width, nC_rows⟩ : ClsF K CC) m_isinstance m_type gD (kit_own q6 q7 q8) mkC (⟨q1, q2, q3, q4, q5⟩ : ObjC K CC))
  have GSt := ok_St (P := l.prog) (w := w) (base := base) (mg := mg) (k := 5) FSt sys (GR.mono (by decide)) PR bR clC m_repr m_sorted m_dict (GT.mono (by decide)) MC gC bT (GEq.mono (by decide)) OCC aEq iEq bEq
  have GSp := ok_Sp (P := l.prog) (w := w) (base := base) (mg := mg) (k := 2) FSp m_len (GDr.mono (by decide)) FDr bDr gDr
  exact (ok_L (P := l.prog) (w := w) (base := base) (mg := mg) (k := 13) FL sys (GP.mono (by decide)) FP bP gP m_range (GS.mono (by decide)) FS bS gS (GTw.mono (by decide)) FTw bTw gTw (GT.mono (by decide)) MC gC bT (GCh.mono (by decide)) FCh bCh gCh m_tuple m_dict (GSp.mono (by decide)) FSp bSp gSp m_repr (GSa.mono (by decide)) FSa bSa gSa (GSt.mono (by decide)) FSt bSt gSt).mono (by decide)
end Kt
open PySem PySem.W PyProof.Rows
set_option maxRecDepth 100000 in
set_option maxHeartbeats 0 in
theorem PySem.Challenge.cw_keptroutes_k45_sequences_that_are_none_holds : PySem.Challenge.rw_keptroutes_k45_sequences_that_are_none.Holds := by
  refine Kt.head0 ?_
  k_fill
  refine Kt.walkG (l := PySem.Challenge.rw_keptroutes_k45_sequences_that_are_none) (n := 63) (k := 15) (x := "script") (sp := fun w => Kt.spLaw _) rfl (by decide) rfl ?him ⟨rfl, by decide, by decide⟩ (fun w h Y => PySem.W.kIn_of Y) ?F (fun _ _ a ns hl hS => ⟨a, ns, rfl, hS, hl, fun _ => rfl⟩)
  case him => rfl
  case F =>
    intro w mg fa h KX G hmg
    refine' Kt.all_mk KX G hmg ?aP ?lP ?cP ?kP ?aN ?lN ?cN ?kN ?aDr ?lDr ?cDr ?kDr ?aB ?lB ?cB ?kB ?aS ?lS ?cS ?kS ?aX ?lX ?cX ?kX ?aH ?lH ?cH ?kH ?aI ?lI ?cI ?kI ?aA ?lA ?cA ?kA ?aWo ?lWo ?cWo ?kWo ?aV ?lV ?cV ?kV ?aY ?lY ?cY ?kY ?aCk ?lCk ?cCk ?kCk ?aWT ?lWT ?cWT ?kWT ?aCh ?lCh ?cCh ?kCh ?aNr ?lNr ?cNr ?kNr ?aTw ?lTw ?cTw ?kTw ?aRs ?lRs ?cRs ?kRs ?aAc ?lAc ?cAc ?kAc ?aIS ?lIS ?cIS ?kIS ?aSS ?lSS ?cSS ?kSS ?aSa ?lSa ?cSa ?kSa ?aSt ?lSt ?cSt ?kSt ?aSp ?lSp ?cSp ?kSp ?aL ?lL ?cL ?kL ?aD ?pgD ?hdD ?poD ?saD ?mkD ?kcD ?aC ?pgC ?hdC ?poC ?saC ?mkC ?kcC ?nC_width ?nC_rows ?aK ?iK ?lK ?cK ?kK ?aU ?iU ?lU ?cU ?kU ?aLo ?iLo ?lLo ?cLo ?kLo ?aLu ?iLu ?lLu ?cLu ?kLu ?aVw ?iVw ?lVw ?cVw ?kVw ?aWr ?iWr ?lWr ?cWr ?kWr ?aEq ?iEq ?lEq ?cEq ?kEq ?aT ?iT ?lT ?cT ?kT ?qT ?xT ?uT ?hcT ?hsT ?hmT ?hnT ?hpT ?hfT ?htT ?aG ?tyG ?ggG ?tkG ?rcG ?lG ?cG ?kG ?aR ?ggR ?tkR ?rcR ?lR ?cR ?kR ?aPw ?ggPw ?tkPw ?rcPw ?lPw ?cPw ?kPw ?aMd ?tyMd ?ggMd ?tkMd ?rcMd ?hnMd ?icMd ?lMd ?cMd ?kMd ?aIM ?exIM ?ekIM ?ebIM ?etIM ?eiIM ?ehIM ?aIP ?exIP ?ekIP ?ebIP ?etIP ?eiIP ?ehIP ?q1 ?q2 ?q3 ?q4 ?q5 ?q6 ?q7 ?q8 ?vZ ?vE ?vO ?z0 ?z1 ?z2 ?z3 ?z4 ?z5 ?z6 ?z7 ?z8 ?z9 ?z10 ?z11 ?z12 ?z13 ?z14
    (case aP => k_is); (case lP => k_is); (case cP => k_is); (case kP => k_is); (case aN => k_is); (case lN => k_is); (case cN => k_is); (case kN => k_is); (case aDr => k_is); (case lDr => k_is); (case cDr => k_is); (case kDr => k_is); (case aB => k_is); (case lB => k_is); (case cB => k_is); (case kB => k_is); (case aS => k_is); (case lS => k_is); (case cS => k_is); (case kS => k_is); (case aX => k_is); (case lX => k_is); (case cX => k_is); (case kX => k_is); (case aH => k_is); (case lH => k_is); (case cH => k_is); (case kH => k_is); (case aI => k_is); (case lI => k_is); (case cI => k_is); (case kI => k_is); (case aA => k_is); (case lA => k_is); (case cA => k_is); (case kA => k_is); (case aWo => k_is); (case lWo => k_is); (case cWo => k_is); (case kWo => k_is); (case aV => k_is); (case lV => k_is); (case cV => k_is); (case kV => k_is); (case aY => k_is); (case lY => k_is); (case cY => k_is); (case kY => k_is); (case aCk => k_is); (case lCk => k_is); (case cCk => k_is); (case kCk => k_is); (case aWT => k_is); (case lWT => k_is); (case cWT => k_is); (case kWT => k_is); (case aCh => k_is); (case lCh => k_is); (case cCh => k_is); (case kCh => k_is); (case aNr => k_is); (case lNr => k_is); (case cNr => k_is); (case kNr => k_is); (case aTw => k_is); (case lTw => k_is); (case cTw => k_is); (case kTw => k_is); (case aRs => k_is); (case lRs => k_is); (case cRs => k_is); (case kRs => k_is); (case aAc => k_is); (case lAc => k_is); (case cAc => k_is); (case kAc => k_is); (case aIS => k_is); (case lIS => k_is); (case cIS => k_is); (case kIS => k_is); (case aSS => k_is); (case lSS => k_is); (case cSS => k_is); (case kSS => k_is); (case aSa => k_is); (case lSa => k_is); (case cSa => k_is); (case kSa => k_is); (case aSt => k_is); (case lSt => k_is); (case cSt => k_is); (case kSt => k_is); (case aSp => k_is); (case lSp => k_is); (case cSp => k_is); (case kSp => k_is); (case aL => k_is); (case lL => k_is); (case cL => k_is); (case kL => k_is); (case aD => k_is); (case pgD => k_is); (case hdD => k_is); (case poD => k_is); (case saD => k_is); (case mkD => k_is); (case kcD => k_is); (case aC => k_is); (case pgC => k_is); (case hdC => k_is); (case poC => k_is); (case saC => k_is); (case mkC => k_is); (case kcC => k_is); (case nC_width => k_is); (case nC_rows => k_is); (case aK => k_is); (case iK => k_is); (case lK => k_is); (case cK => k_is); (case kK => k_is); (case aU => k_is); (case iU => k_is); (case lU => k_is); (case cU => k_is); (case kU => k_is); (case aLo => k_is); (case iLo => k_is); (case lLo => k_is); (case cLo => k_is); (case kLo => k_is); (case aLu => k_is); (case iLu => k_is); (case lLu => k_is); (case cLu => k_is); (case kLu => k_is); (case aVw => k_is); (case iVw => k_is); (case lVw => k_is); (case cVw => k_is); (case kVw => k_is); (case aWr => k_is); (case iWr => k_is); (case lWr => k_is); (case cWr => k_is); (case kWr => k_is); (case aEq => k_is); (case iEq => k_is); (case lEq => k_is); (case cEq => k_is); (case kEq => k_is); (case aT => k_is); (case iT => k_is); (case lT => k_is); (case cT => k_is); (case kT => k_is); (case qT => k_is); (case xT => first | k_is | rfl | decide +kernel); (case uT => k_is); (case hcT => k_is); (case hsT => k_is); (case hmT => ks_is); (case hnT => k_is); (case hpT => k_is); (case hfT => first | k_is | rfl | decide +kernel); (case htT => first | k_is | rfl | decide +kernel); (case aG => k_is); (case tyG => k_is); (case ggG => k_is); (case tkG => k_is); (case rcG => k_is); (case lG => k_is); (case cG => k_is); (case kG => k_is); (case aR => k_is); (case ggR => k_is); (case tkR => k_is); (case rcR => k_is); (case lR => k_is); (case cR => k_is); (case kR => k_is); (case aPw => k_is); (case ggPw => k_is); (case tkPw => k_is); (case rcPw => k_is); (case lPw => k_is); (case cPw => k_is); (case kPw => k_is); (case aMd => k_is); (case tyMd => k_is); (case ggMd => k_is); (case tkMd => k_is); (case rcMd => k_is); (case hnMd => k_is); (case icMd => k_is); (case lMd => k_is); (case cMd => k_is); (case kMd => k_is); (case aIM => k_is); (case exIM => k_exc); (case ekIM => k_is); (case ebIM => k_is); (case etIM => k_is); (case eiIM => k_is); (case ehIM => k_is); (case aIP => k_is); (case exIP => k_exc); (case ekIP => k_is); (case ebIP => k_is); (case etIP => k_is); (case eiIP => k_is); (case ehIP => k_is); (case q1 => k_is); (case q2 => k_is); (case q3 => k_is); (case q4 => k_is); (case q5 => k_is); (case q6 => k_is); (case q7 => k_is); (case q8 => k_is); (case vZ => k_is); (case vE => k_is); (case vO => k_is); (case z0 => k_is); (case z1 => k_is); (case z2 => k_is); (case z3 => k_is); (case z4 => k_is); (case z5 => k_is); (case z6 => k_is); (case z7 => k_is); (case z8 => k_is); (case z9 => k_is); (case z10 => k_is); (case z11 => k_is); (case z12 => k_is); (case z13 => k_is); (case z14 => k_is)

import PyProof.Rows.All
import Wide.All
import OpenK.AllK
import Wide.FinOn
import HandS.ForMost
import HandS.Codes
import HandS.IsInst
import HandS.StrMore
import HandS.DictComp
import HandS.Walk
import HandS.Style
import HandS.Conv
import PyProof.ReprRoads
import HandS.Strs
import HandS.SetFor
import HandS.ClsMeth
import HandS.Property
import HandS.AnyAll
import PyProof.Rows.SortShellAny
import KE.RegKSuper
import PyProof.DictUpdate
import HandS.SetKeys
import HandS.MakeKwOnly
import HandS.GenList
import HandS.ListItems
import HandS.GenYield
import HandS.NoneIn
import HandS.Star
import HandS.DeepEq
import PyProof.Rows.StrPins
import PyProof.Rows.StrPadWhole
import PyProof.Rows.StrPadFill
import HandS.WordsExc
import HandS.ExcOwn
import HandS.ExcIs
import HandS.ExcValue
import HandS.DictTup
import KE.SortData
import KE.KRevSl
import KE.OsRunLaw
import KE.DataMinMax
import PySem.Challenge.RW_keptroutes_k11_wishes_made
set_option Elab.async false
set_option linter.all false
set_option maxRecDepth 100000
set_option maxHeartbeats 4000000
section
open PySem PySem.W PyProof.Rows
local macro_rules | `(tactic| k_head) => `(tactic| k_headL)
set_option maxHeartbeats 0 in
open_top Kt.head0 for PySem.Challenge.rw_keptroutes_k11_wishes_made
end
namespace Kt
open PySem PySem.Spec PyProof.Rows L2
/-! ### defs that may call repr: no repr is under way around them -/
structure FnG (P : Program) (w : World) (K : PySem.W.Frag) (mg : Str → Option Value) (base : Heap) (k : Nat) (f : Addr) (fd : FuncData) (ps : List Str) (sp : Sp) : Prop where
  many : ∀ vs H Q E, sp vs H Q E → vs.length = ps.length
  go : ∀ (A : Around), A.guards = some [] → ∀ (outer : List Env) (s : Shared) (H : Hp) (args : Args) (us : List Value) (vs : List V) (Q : VK), Room k A → Env0 P w K mg base A outer s H →
    BindsTo s fd args (ps.zip us) → Vals vs us → sp vs H Q E0 → codeAny (model P w) A (.call (.ref f) args) (CR CX0 outer P w H s Q E0) s
theorem FnG.mono {P : Program} {w : World} {K : PySem.W.Frag} {mg : Str → Option Value} {base : Heap} {j k : Nat} {f : Addr} {fd : FuncData} {ps : List Str} {sp : Sp} (F : FnG P w K mg base j f fd ps sp) (h : j ≤ k) : FnG P w K mg base k f fd ps sp :=
  ⟨F.many, fun A g outer s H args us vs Q hr => F.go A g outer s H args us vs Q (hr.mono h)⟩
section
variable {P : Program} {w : World} {K : PySem.W.Frag} {mg : Str → Option Value} {base : Heap}
/-- a def's promise, from its body, where no repr is under way -/
theorem okG {x qual : Str} {st : Stmt} {f : Addr} {fd : FuncData} {N ps : List Str} {k : Nat} {sp : Sp} (F : Fun K x qual st f fd) (S : FnScope N ps (defScope st)) (many : ∀ vs H Q E, sp vs H Q E → vs.length = ps.length)
    (body : ∀ (cdv : Value) (A : Around) (outer : List Env) (s : Shared) (H : Hp) (vs : List V) (Q : VK), A.guards = some [] → Room k (A.deeper (envOfC qual (defScope st) s.heap.objs.size f cdv)) → sp vs H Q E0 →
      ∃ t, PSs (cxOf CX0 P w K mg base N qual (defScope st) f cdv A outer s H E0).nox (defBody st) t ∧ t { nx := fun _ H' => Q .non H', rt := Q } (start N vs) H) : FnG P w K mg base (k + 1) f fd ps sp := by
  obtain ⟨oc, od, kV, doc, pm, an, cdv, ct, osl, rfl, lk, hcd⟩ := F.ex
  refine ⟨many, fun A g outer s H args us vs Q room e0 bind rel want => ?_⟩
  have old : ∀ b o, base.get? b = some o → s.heap.get? b = some o := fun b o e => (e0.bs b o e).1
  have KX : K.In s.heap := e0.mod.kin.keeps old
  have lim : s.heap.NoLimit := e0.mod.nolimit.keeps old
  have kinds : ∀ y ∈ ps.zip us, (defScope st).names.lookup y.1 = some .local ∨ ((defScope st).names.lookup y.1 = some .cell ∧ ((cellsFrom (s.heap.objs.size + 1) (defScope st).names []).lookup y.1).isSome = true) := by
    rintro ⟨n, v⟩ hy
    rcases S.par n (List.of_mem_zip hy).1 with q | q
    · exact .inl q
    · exact .inr ⟨q, PySem.W.cellsFrom_some _ _ _ (.inl q)⟩
  refine codeAny_call_function room.depth (KX _ _ lk) rfl S.co S.gen rfl (PySem.W.codeRec_of KX hcd) (bind _ _ _ _ (wpAny_newFunctionEnv_cells S.kind kinds fun env he s1 x => ?_))
  subst he
  obtain ⟨t, ht, hq⟩ := body cdv A outer s H vs Q g (room.deeper _) want
  have I := inv_start (CX := CX0) (E := E0) S room.hd e0 (many _ _ _ _ want) rel x
  refine ⟨lim.keeps x.toInCall.keep, codeAny_func (wpAny_mono (ht.nox.run [] s1 (start N vs) H _ I hq) (fun fl s' hs => ?_) fun e s' hs => hs)⟩
  cases fl with
  | ret u =>
    obtain ⟨v, σ', H', J, rv, q⟩ := hs
    exact ⟨v, H', J.os, J.bare, J.base, J.hok, rv, q⟩
  | next =>
    obtain ⟨σ', H', J, q⟩ := hs
    exact ⟨V.non, H', J.os, J.bare, J.base, J.hok, rfl, q⟩
  | brk =>
    obtain ⟨_, _, _, q⟩ := hs
    exact q.elim
  | cont =>
    obtain ⟨_, _, _, q⟩ := hs
    exact q.elim
end
/-- f(a, ..) of such a def, within such a def -/
theorem pe_callG {X : Cx} {k : Nat} {f : Addr} {fd : FuncData} {ps : List Str} {sp : Sp} {x : Str} {p pos : Pos} {e : Expr} {es : List Expr} {t : TA} (F : FnG X.prog X.w X.K X.mg X.base k f fd ps sp) (g : X.A.guards = some []) (hr : Room k X.A) (hg : Gl X x) (hm : X.mg x = some (.ref f))
    (hk : PySem.W.keepIn X.K (.ref f) = true) (hb : Binds X.K fd ps []) (ha : PA X (e :: es) t) (hdb : (x == ("__debug__" : Str)) = false := by decide)
    (he : starEach (e :: es) X.env = (false, eval e X.env) :: starEach es X.env := by rfl) (hpl : (backTo pos (starEach es X.env)).any (·.1) = false := by rfl) : PE X (.Call (.Name x p) (e :: es) [] pos) (tCall sp [] E0 t) := by
  constructor
  intro pins s σ H Q I h
  refine wpAny_Call_Name_kw (ld_glob I hg hm (PySem.W.callWith_K (h₀ := X.base) I.ok.mod.kin hk (thn (ha.run pos pins s σ H _ I h) ?_) he hpl) hdb)
  rintro us s1 ⟨vs, H1, I1, r, q⟩
  refine ⟨I1.kIn, ?_⟩
  have r2 : Vals (vs ++ []) (us ++ []) := r.append .nil
  have hl : (us ++ []).length = ps.length := by rw [← r2.length]; exact F.many _ _ _ _ q
  refine wpAny_call (codeAny_mono (F.go X.A g X.stack s1 H1 ⟨us, []⟩ (us ++ []) (vs ++ []) Q hr I1.env0 (hb s1 us I1.kIn hl) r2 q) fun res s' hq => ?_)
  match res, hq with
  | .ok (.ret u), hq => exact I1.after hq
/-! ### the end of a law whose promise is of this kind -/
theorem law_callG {P : Program} {w : World} {K : PySem.W.Frag} {mg mb : Str → Option Value} {k : Nat} {fa a : Addr} {fd : FuncData} {x : Str} {sp : Sp} {s₁ : Shared} {vs : List Value} {ns : List Int}
    (KX : K.In s₁.heap) (hns : s₁.heap.Ns mainGlobals mg) (hb : s₁.heap.Ns builtinsNs mb) (hbb : ∀ x : Str, x ≠ "__name__" → mb x = bootBuiltins x) (hlim : s₁.heap.NoLimit) (hsys : ∃ mm, s₁.heap.Ns sysModules mm) (hg : s₁.gens = #[])
    (ha : s₁.heap.get? a = some { cls := .type "list", data := .seq vs.toArray }) (hi : IntsAre vs ns) (hl : ns.length ≤ sizeLine) (hr : Room k callerA)
    (F : ∀ base : Heap, K.In base → base.Ns mainGlobals mg → (∃ mm, base.Ns sysModules mm) → FnG P w K mg base k fa fd [x] sp) (hbind : ∀ (s : Shared) (u : Value), BindsTo s fd ⟨[u], []⟩ [(x, u)])
    (hsp : ∀ H : Hp, SqL K H a (ns.map V.int) → sp [.ref a] H (fun v _ => v = .bl true) E0) :
    codeAny (model P w) callerA (.call (.ref fa) ⟨[.ref a], []⟩) (fun r s' => r = .ok (.ret (.bool true)) ∧ OldK s₁.heap s'.heap ∧ s'.os = s₁.os ∧ AllBare s'.gens) s₁ := by
  have rv := vals_ints hi
  have lenV := hi.length
  have main : ∀ H : Hp, SqL K H a (ns.map V.int) → HOk P w H s₁.heap → (∀ b, H b ≠ none → b = a ∧ K.lookup a = none ∧ ∃ u, H b = some (.frz { cls := .type "list", data := .seq vs.toArray } u)) →
      codeAny (model P w) callerA (.call (.ref fa) ⟨[.ref a], []⟩) (fun r s' => r = .ok (.ret (.bool true)) ∧ OldK s₁.heap s'.heap ∧ s'.os = s₁.os ∧ AllBare s'.gens) s₁ := by
    intro H hS ok only
    have free : ∀ {b : Addr} {o : Obj}, s₁.heap.get? b = some o → (H b ≠ none → False) → (hidT s₁.heap H).get? b = some o := fun {b o} e n => hidT_get e (by
      cases q : H b with
      | none => rfl
      | some u => exact (n (by rw [q]; exact fun z => nomatch z)).elim)
    have dct : ∀ {b : Addr} {m : Str → Option Value}, s₁.heap.Ns b m → (hidT s₁.heap H).Ns b m := by
      rintro b m ⟨o, es, ep, e, d, r⟩
      refine ⟨o, es, ep, free e fun n => ?_, d, r⟩
      obtain ⟨rfl, _, _⟩ := only b n
      rw [ha] at e
      cases e
      cases d
    have kin : K.In (hidT s₁.heap H) := fun b o e => free (KX b o e) fun n => by
      obtain ⟨rfl, z, _⟩ := only b n
      rw [z] at e
      cases e
    have mod : Mod K mg (hidT s₁.heap H) := ⟨kin, dct hns, ⟨mb, dct hb, hbb⟩, by obtain ⟨mc, h1, h2⟩ := hlim; exact ⟨mc, dct h1, h2⟩⟩
    have sys : ∃ mm, (hidT s₁.heap H).Ns sysModules mm := by obtain ⟨mm, h⟩ := hsys; exact ⟨mm, dct h⟩
    have env : Env0 P w K mg (hidT s₁.heap H) callerA [] s₁ H := ⟨rfl, mod, fun _ _ => of_hidT, Nat.le_of_eq (hidT_size _ _), trivial, fun _ hb => absurd hb List.not_mem_nil, ok, .of_eq hg⟩
    refine codeAny_mono ((F _ kin (dct hns) sys).go callerA rfl [] s₁ H ⟨[.ref a], []⟩ [.ref a] [.ref a] _ hr env (hbind s₁ (.ref a)) (.cons rfl .nil) (hsp H hS)) fun r s' h => ?_
    match r, h with
    | .ok (.ret u), ⟨v, H', os, bare, un, ok', rel, q⟩ =>
      subst q
      cases (show u = Value.bool true from rel)
      refine ⟨rfl, OldK.of_keep fun b o e => ?_, os, bare⟩
      cases q : H b with
      | none => exact un.keep b o e q (fun z => nomatch z) fun z => nomatch z
      | some u =>
        obtain ⟨rfl, _, u', z⟩ := only b (by rw [q]; exact fun z => nomatch z)
        rw [ha] at e
        cases e
        exact (ok' b _ (un.frzs b _ _ z)).1
  cases hk : K.lookup a with
  | some o =>
    have e := KX a o hk
    rw [ha] at e
    cases e
    exact main (fun _ => none) (.inr ⟨_, vs.toArray, _, hk, rfl, rfl, rfl, by rw [List.size_toArray, lenV]; exact hl, rv⟩) (fun b u z => nomatch (show (none : Option HO) = some u from z)) fun b z => absurd rfl z
  | none =>
    refine main (fun b => if b = a then some (.frz { cls := .type "list", data := .seq vs.toArray } (.lst (ns.map V.int))) else none) (.inl (.inr ⟨_, if_pos rfl⟩)) (fun b u z => ?_) fun b z => ?_
    · by_cases q : b = a
      · dsimp only at z
        rw [if_pos q] at z
        cases z
        rw [q]
        exact ⟨ha, by rw [List.length_map]; exact hl, vs, _, rv, ha⟩
      · dsimp only at z
        rw [if_neg q] at z
        cases z
    · by_cases q : b = a
      · exact ⟨q, hk, _, if_pos q⟩
      · exact absurd (if_neg q) z
theorem walkG {l : PySem.W.OpenLaw} {n k : Nat} {q : Program} {loose : List Str} {XP : (Str → Option Value) → Heap → Prop} {YP : World → Heap → Prop} {d : DefRec} {K : Params → PySem.W.Frag} {sp : World → Sp} {x : Str} (hn : l.most = some n) (hn2 : n ≤ sizeLine) (hdf : d.params.defaults = [])
    (him : importsNone q = true) (hr : Room k callerA) (hY : ∀ (w : World) (h : Heap), YP w h → (K w.params).In h)
    (F : ∀ (w : World) (mg : Str → Option Value) (fa : Addr) (h : Heap), (K w.params).In h → h.Ns mainGlobals mg → mg d.name = some (.ref fa) →
      ∃ fd : FuncData, (∀ (s : Shared) (u : Value), BindsTo s fd ⟨[u], []⟩ [(x, u)]) ∧ ∀ base : Heap, (K w.params).In base → base.Ns mainGlobals mg → (∃ mm, base.Ns sysModules mm) → FnG l.prog w (K w.params) mg base k fa fd [x] (sp w))
    (hsp : ∀ (w : World) (H : Hp) (a : Addr) (ns : List Int), ns.length ≤ n → SqL (K w.params) H a (ns.map V.int) → sp w [.ref a] H (fun v _ => v = .bl true) E0) : PySem.W.WalkO q loose XP YP l.row.toRowW d [] (fun f vs => PySem.call f vs) :=
  Att.attach_call hn hdf fun w _ _ mg _ fa _ _ _ _ a _ ns G Y _ _ _ hmg hobj hints hlen hg => by
    have KX := hY w _ Y
    obtain ⟨fd, hb, hF⟩ := F w mg fa _ KX G.T.g hmg
    obtain ⟨mm, hm, _⟩ := (G.T.seer him).mods
    exact law_callG KX G.T.g G.T.b G.T.builtins G.T.nolimit ⟨mm, hm⟩ hg hobj hints (Nat.le_trans hlen hn2) hr hF hb fun H hS => hsp w H a ns hlen hS
/-! ### repr of data: none, bools, ints, texts, lists, tuples, dicts by ints and texts -/
def keyD : Key → PyData
  | .inl i => .int i
  | .inr x => .str x
mutual
/-- in the heap H the value is this data -/
inductive Dr (K : PySem.W.Frag) (H : Hp) (N : Addr → Prop) : V → PyData → Prop
  | non : Dr K H N .non .none
  | bl (b : Bool) : Dr K H N (.bl b) (.bool b)
  | int (i : Int) : Dr K H N (.int i) (.int i)
  | str (x : Str) : Dr K H N (.str x) (.str x)
  | lst {a : Addr} {xs : List V} {ds : List PyData} (n : N a) (h : SqL K H a xs) (all : DrAll K H N xs ds) : Dr K H N (.ref a) (.list ds)
  | tup {a : Addr} {xs : List V} {ds : List PyData} (n : N a) (h : SqT K H a xs) (all : DrAll K H N xs ds) : Dr K H N (.ref a) (.tuple ds)
  | dic {a : Addr} {kvs : List (Key × V)} {ds : List (PyData × PyData)} (n : N a) (h : Rd H a (.dK kvs)) (all : DrKv K H N kvs ds) : Dr K H N (.ref a) (.dict ds)
inductive DrAll (K : PySem.W.Frag) (H : Hp) (N : Addr → Prop) : List V → List PyData → Prop
  | nil : DrAll K H N [] []
  | cons {v : V} {vs : List V} {d : PyData} {ds : List PyData} (h : Dr K H N v d) (t : DrAll K H N vs ds) : DrAll K H N (v :: vs) (d :: ds)
inductive DrKv (K : PySem.W.Frag) (H : Hp) (N : Addr → Prop) : List (Key × V) → List (PyData × PyData) → Prop
  | nil : DrKv K H N [] []
  | cons {k : Key} {v : V} {kvs : List (Key × V)} {d : PyData} {ds : List (PyData × PyData)} (h : Dr K H N v d) (t : DrKv K H N kvs ds) : DrKv K H N ((k, v) :: kvs) ((keyD k, d) :: ds)
end
mutual
theorem Dr.move {K : PySem.W.Frag} {H H' : Hp} {N N' : Addr → Prop} (k : ∀ a o, N a → H a = some o → H' a = some o) (m : ∀ a, N a → N' a) : ∀ {v : V} {d : PyData}, Dr K H N v d → Dr K H' N' v d
  | _, _, .non => .non
  | _, _, .bl b => .bl b
  | _, _, .int i => .int i
  | _, _, .str x => .str x
  | _, _, .lst (a := a) n h all => .lst (m _ n) (by
    rcases h with (h | ⟨o, h⟩) | h
    · exact .inl (.inl (k _ _ n h))
    · exact .inl (.inr ⟨o, k _ _ n h⟩)
    · exact .inr h) (all.move k m)
  | _, _, .tup n h all => .tup (m _ n) (by
    rcases h with (h | ⟨o, h⟩) | h
    · exact .inl (.inl (k _ _ n h))
    · exact .inl (.inr ⟨o, k _ _ n h⟩)
    · exact .inr h) (all.move k m)
  | _, _, .dic n h all => .dic (m _ n) (by
    rcases h with h | ⟨o, h⟩
    · exact .inl (k _ _ n h)
    · exact .inr ⟨o, k _ _ n h⟩) (all.move k m)
theorem DrAll.move {K : PySem.W.Frag} {H H' : Hp} {N N' : Addr → Prop} (k : ∀ a o, N a → H a = some o → H' a = some o) (m : ∀ a, N a → N' a) : ∀ {vs : List V} {ds : List PyData}, DrAll K H N vs ds → DrAll K H' N' vs ds
  | _, _, .nil => .nil
  | _, _, .cons h t => .cons (h.move k m) (t.move k m)
theorem DrKv.move {K : PySem.W.Frag} {H H' : Hp} {N N' : Addr → Prop} (k : ∀ a o, N a → H a = some o → H' a = some o) (m : ∀ a, N a → N' a) : ∀ {kvs : List (Key × V)} {ds : List (PyData × PyData)}, DrKv K H N kvs ds → DrKv K H' N' kvs ds
  | _, _, .nil => .nil
  | _, _, .cons h t => .cons (h.move k m) (t.move k m)
end
theorem DrAll.len {K : PySem.W.Frag} {H : Hp} {N : Addr → Prop} : ∀ {vs : List V} {ds : List PyData}, DrAll K H N vs ds → vs.length = ds.length
  | _, _, .nil => rfl
  | _, _, .cons _ t => congrArg (· + 1) t.len
theorem DrAll.snoc {K : PySem.W.Frag} {H : Hp} {N : Addr → Prop} {v : V} {d : PyData} (h : Dr K H N v d) : ∀ {vs : List V} {ds : List PyData}, DrAll K H N vs ds → DrAll K H N (vs ++ [v]) (ds ++ [d])
  | _, _, .nil => .cons h .nil
  | _, _, .cons h1 t => .cons h1 (t.snoc h)
theorem DrAll.get {K : PySem.W.Frag} {H : Hp} {N : Addr → Prop} : ∀ {vs : List V} {ds : List PyData} {i : Nat} {v : V}, DrAll K H N vs ds → vs[i]? = some v → ∃ d, ds[i]? = some d ∧ Dr K H N v d
  | _, _, _, _, .nil, e => by simp at e
  | _, _, 0, _, .cons h _, e => ⟨_, rfl, by
    have e' := Option.some.inj e
    rw [← e']
    exact h⟩
  | _, _, i + 1, v, .cons _ t, e => t.get (i := i) (v := v) e
theorem read_key {h : Heap} {k : Key} {u : Value} (e : keyIs k u = true) : Reads h u (keyD k) [] := by
  rcases keyIs_shape e with ⟨i, t, rfl, rfl⟩ | ⟨x, t, rfl, rfl⟩
  · exact .int i t
  · exact .str x t
section
variable {X : Cx} {pins : List (Addr × Obj)} {σ : L2.St} {H : Hp} {s : Shared} {N : Addr → Prop}
theorem no_sys_list (I : Inv X pins σ H s) (sys : ∃ mm, X.base.Ns sysModules mm) {a : Addr} {o : Obj} {its : Array Value} {n : Nat} (e : s.heap.get? a = some o) (d : o.data = .seq its n) : a ≠ sysModules := by
  rintro rfl
  obtain ⟨mm, o', es, ep, e', d', _⟩ := sys
  rw [I.bk _ _ e'] at e
  cases e
  rw [d] at d'
  cases d'
mutual
theorem Dr.reads (I : Inv X pins σ H s) (sys : ∃ mm, X.base.Ns sysModules mm) : ∀ (d : PyData) (v : V) (u : Value), Dr X.K H N v d → RelV v u → ∃ as, Reads s.heap u d as ∧ sysModules ∉ as
  | .none, _, _, h, r => by
    cases h
    cases r
    exact ⟨_, Reads.none, List.not_mem_nil⟩
  | .bool b, _, _, h, r => by
    cases h
    cases r
    exact ⟨_, Reads.bool b, List.not_mem_nil⟩
  | .int i, _, _, h, r => by
    cases h
    obtain ⟨t, rfl⟩ := r
    exact ⟨_, Reads.int i t, List.not_mem_nil⟩
  | .str x, _, _, h, r => by
    cases h
    obtain ⟨t, rfl⟩ := r
    exact ⟨_, Reads.str x t, List.not_mem_nil⟩
  | .list ds, _, _, h, r => by
    cases h with
    | lst _ hs ha =>
      cases r
      obtain ⟨its, rv, ⟨o, n, ho, hc, _, hd⟩, _⟩ := I.list hs
      obtain ⟨as, hr, hn⟩ := DrAll.reads I sys ds _ its ha rv
      exact ⟨_, Reads.list ho hc hd hr, fun m => (List.mem_cons.mp m).elim (fun e => no_sys_list I sys ho hd e.symm) hn⟩
  | .tuple ds, _, _, h, r => by
    cases h with
    | tup _ hs ha =>
      cases r
      obtain ⟨its, rv, ⟨o, ho, hc, n, hd⟩, _⟩ := I.tuple hs
      obtain ⟨as, hr, hn⟩ := DrAll.reads I sys ds _ its ha rv
      exact ⟨_, Reads.tuple ho hc hd hr, hn⟩
  | .dict ds, _, _, h, r => by
    cases h with
    | dic _ hs ha =>
      cases r
      obtain ⟨_, hsys, vs, rel, o, es, ep, ho, hc, hd, _, ps, _⟩ := dk_rd I.hok hs
      obtain ⟨as, bs, h1, h2, h3, h4⟩ := DrKv.reads I sys ds _ vs es.toList ha rel ps
      refine ⟨_, Reads.dict ho hc.1 hd h1 h2, fun m => ?_⟩
      rcases List.mem_append.mp m with m | m
      · rcases List.mem_cons.mp m with e | m
        · rw [← e] at hsys
          cases hsys
        · exact h3 m
      · exact h4 m
theorem DrAll.reads (I : Inv X pins σ H s) (sys : ∃ mm, X.base.Ns sysModules mm) : ∀ (ds : List PyData) (vs : List V) (us : List Value), DrAll X.K H N vs ds → Vals vs us → ∃ as, ReadsAll s.heap us ds as ∧ sysModules ∉ as
  | [], _, _, h, r => by
    cases h
    cases r
    exact ⟨_, ReadsAll.nil, List.not_mem_nil⟩
  | d :: ds, _, _, h, r => by
    cases h with
    | cons h1 h2 =>
      cases r with
      | cons r1 r2 =>
        obtain ⟨as, q1, n1⟩ := Dr.reads I sys d _ _ h1 r1
        obtain ⟨bs, q2, n2⟩ := DrAll.reads I sys ds _ _ h2 r2
        exact ⟨_, ReadsAll.cons q1 q2, fun m => (List.mem_append.mp m).elim n1 n2⟩
theorem DrKv.reads (I : Inv X pins σ H s) (sys : ∃ mm, X.base.Ns sysModules mm) : ∀ (ds : List (PyData × PyData)) (kvs : List (Key × V)) (vs : List (Key × Value)) (es : List DictEntry), DrKv X.K H N kvs ds → KV kvs vs → Pairs (mixKind X.prog X.w) es vs →
    ∃ as bs, ReadsAll s.heap (es.map (·.key)) (ds.map (·.1)) as ∧ ReadsAll s.heap (es.map (·.val)) (ds.map (·.2)) bs ∧ sysModules ∉ as ∧ sysModules ∉ bs
  | [], _, _, _, h, r, p => by
    cases h
    cases r
    cases p
    exact ⟨_, _, ReadsAll.nil, ReadsAll.nil, List.not_mem_nil, List.not_mem_nil⟩
  | (_, d) :: ds, _, _, _, h, r, p => by
    cases h with
    | cons h1 h2 =>
      cases r with
      | cons r1 r2 =>
        cases p with
        | cons p1 p2 p3 =>
          obtain ⟨e1, e2⟩ := r1
          obtain ⟨as, q1, n1⟩ := Dr.reads I sys d _ _ h1 e2
          obtain ⟨bs, cs, q2, q3, n2, n3⟩ := DrKv.reads I sys ds _ _ _ h2 r2 p3
          have e1' : _ = _ := e1
          rw [← e1'] at p1
          refine ⟨[] ++ bs, as ++ cs, ReadsAll.cons (read_key p1) q2, ReadsAll.cons (by show Reads _ (DictEntry.val _) d as; rw [p2]; exact q1) q3, by rw [List.nil_append]; exact n2, fun m => (List.mem_append.mp m).elim n1 n3⟩
end
end
/-- repr(x) -/
def rRepr (K : PySem.W.Frag) : List V → Hp → VK → Prop := fun xs H Q => ∃ (x : V) (d : PyData) (N : Addr → Prop), xs = [x] ∧ Dr K H N x d ∧ d.showable = true ∧ d.depth ≤ 60 ∧ d.shown.length ≤ sizeLine ∧ Q (.str d.shown) H
theorem call_repr {X : Cx} (g : X.A.guards = some []) (hu : X.A.units + 64 < cLine) (sys : ∃ mm, X.base.Ns sysModules mm) : CallR X (.builtin "repr") (rRepr X.K) := by
  intro pins s σ H xs us Q I r h
  obtain ⟨x, d, N, rfl, hd, hs, hz, hl, q⟩ := h
  obtain ⟨u, rfl, r1⟩ := vals1 r
  obtain ⟨as, hr, hn⟩ := Dr.reads I sys d x u hd r1
  have fin : ∀ (u : Tok) h' tk, (∀ b o, s.heap.get? b = some o → h'.get? b = some o) → EP X pins σ Q (.str d.shown u) { s with heap := h', toks := tk } := fun u h' tk hk => ⟨.str d.shown, H, I.kept hk, ⟨u, rfl⟩, q⟩
  cases hd with
  | non =>
    cases r1
    exact PySem.P.repr_of_none (fin _ s.heap _ fun _ _ e => e)
  | bl b =>
    cases r1
    cases b <;> exact PySem.P.repr_of_bool (fin _ s.heap _ fun _ _ e => e)
  | int i =>
    obtain ⟨t, rfl⟩ := r1
    exact PySem.P.repr_of_int (of_decide_eq_true (by simpa only [PyData.showable] using hs)) (fin _ s.heap _ fun _ _ e => e)
  | str z =>
    obtain ⟨t, rfl⟩ := r1
    exact PySem.P.repr_of_str (fin _ s.heap _ fun _ _ e => e) (by simpa only [PyData.shown] using hl)
  | lst _ h1 h2 =>
    cases r1
    exact repr_of_reads' (h₀ := s.heap) hr hs (fun _ => hn) g (by omega) (fun _ _ e => e) (fun h' u tk hk => fin u h' tk hk) hl
  | tup _ h1 h2 =>
    cases r1
    exact repr_of_reads' (h₀ := s.heap) hr hs (fun _ => hn) g (by omega) (fun _ _ e => e) (fun h' u tk hk => fin u h' tk hk) hl
  | dic _ h1 h2 =>
    cases r1
    exact repr_of_reads' (h₀ := s.heap) hr hs (fun _ => hn) g (by omega) (fun _ _ e => e) (fun h' u tk hk => fin u h' tk hk) hl
/-! ### texts -/
def onlyOf (y x : Str) : Bool := x.cps.toList.all fun c => y.cps.contains c
theorem takeWhile_full {α : Type} (p : α → Bool) : ∀ l : List α, decide ((l.takeWhile p).length = l.length) = l.all p
  | [] => rfl
  | a :: r => by
    have ih := takeWhile_full p r
    rw [List.takeWhile_cons, List.all_cons]
    cases ha : p a with
    | true =>
      rw [if_pos rfl, List.length_cons, List.length_cons, ← ih]
      simp
    | false =>
      rw [if_neg Bool.false_ne_true]
      simp
theorem empty_str : ("" : Str) = ⟨#[]⟩ := by decide +kernel
theorem str_ext {x y : Str} (h : x.cps.toList = y.cps.toList) : x = y := by
  cases x
  cases y
  congr 1
  exact Array.toList_inj.mp h
theorem lstrip_empty (x y : Str) : decide (V.str (Txt.lstripChars x y) = V.str "") = onlyOf y x := by
  have e : Txt.lstripChars x y = ⟨x.cps.extract (x.cps.toList.takeWhile y.cps.contains).length x.cps.size⟩ := stripBy_eq y.cps.contains true false x
  have h := takeWhile_full (fun c => y.cps.contains c) x.cps.toList
  unfold onlyOf
  rw [← h]
  apply decide_eq_decide.mpr
  have le : (x.cps.toList.takeWhile fun c => y.cps.contains c).length ≤ x.cps.toList.length := (List.takeWhile_sublist _).length_le
  constructor
  · intro q
    have q1 : Txt.lstripChars x y = "" := V.str.inj q
    rw [e, empty_str] at q1
    have q2 : (x.cps.extract (x.cps.toList.takeWhile y.cps.contains).length x.cps.size).size = 0 := by rw [Str.mk.inj q1]; rfl
    rw [Array.size_extract] at q2
    have q3 : x.cps.toList.length = x.cps.size := Array.length_toList
    have q4 : (x.cps.toList.takeWhile y.cps.contains).length ≤ x.cps.toList.length := le
    show (x.cps.toList.takeWhile y.cps.contains).length = _
    omega
  · intro q
    have q0 : (x.cps.toList.takeWhile y.cps.contains).length = x.cps.size := by
      rw [← Array.length_toList]
      exact q
    congr 1
    rw [e, empty_str, q0]
    congr 1
    simp
/-- bits alone -/
def isBits (x : Str) : Bool := onlyOf "01" x
/-- is_prefix -/
def isPfx (v : V) (w : Int) : Bool := match v with
  | .str x => decide ((x.length : Int) ≤ w) && isBits x
  | _ => false
def isStrV : V → Bool
  | .str _ => true
  | _ => false
/-- a value whose type isinstance reads: text or not -/
def TyS (K : PySem.W.Frag) (H : Hp) (v : V) : Prop := ∃ t : String, TyX K H v (.type t) ∧ PySem.W.kitOne K (.type t) (.type "str") = some (isStrV v)
theorem kit_f {K : PySem.W.Frag} {t : String} (h : kitB t "str" = some false) : PySem.W.kitOne K (.type t) (.type "str") = some false := kit_ty h
theorem TyS.of {K : PySem.W.Frag} {H : Hp} {N : Addr → Prop} {v : V} {d : PyData} (h : Dr K H N v d) : TyS K H v := by
  cases h with
  | non => exact ⟨_, .base .non, kit_f (by decide +kernel)⟩
  | bl b => exact ⟨_, .base (.bl b), kit_f (by decide +kernel)⟩
  | int i => exact ⟨_, .base (.int i), kit_f (by decide +kernel)⟩
  | str x => exact ⟨_, .base (.str x), kit_ty (r := true) (by decide +kernel)⟩
  | lst _ h _ =>
    rcases h with (h | ⟨o, h⟩) | ⟨o, _, _, h, hc, _⟩
    · exact ⟨_, .base (.lst h), kit_f (by decide +kernel)⟩
    · exact ⟨_, .base (.frz h), kit_f (by decide +kernel)⟩
    · exact ⟨_, .kList h hc, kit_f (by decide +kernel)⟩
  | tup _ h _ =>
    rcases h with (h | ⟨o, h⟩) | ⟨o, _, _, h, hc, _⟩
    · exact ⟨_, .base (.tup h), kit_f (by decide +kernel)⟩
    · exact ⟨_, .fTuple h, kit_f (by decide +kernel)⟩
    · exact ⟨_, .kTuple h hc, kit_f (by decide +kernel)⟩
  | dic _ h _ =>
    rcases h with h | ⟨o, h⟩
    · exact ⟨_, .base (.dK h), kit_f (by decide +kernel)⟩
    · exact ⟨_, .fDict h, kit_f (by decide +kernel)⟩
/-! ### the pen -/
/-- a pen stands at p: its numbers at c, its place i, its stock s, what was appended -/
def penL (c : Addr) (i s : Int) (m : List V) : HO := .lst (.ref c :: .int i :: .int s :: m)
structure PenAt (H : Hp) (p : Addr) (n : Nat) (m : List V) (c : Addr) (ns : List Int) (i s : Int) : Prop where
  at_ : H p = some (penL c i s m)
  cells : H c = some (.lst (ns.map V.int))
  len : ns.length ≤ 60
  i0 : 0 ≤ i
  i1 : i ≤ n
  s0 : 0 ≤ s
theorem PenAt.ne {H : Hp} {p c : Addr} {n : Nat} {m : List V} {ns : List Int} {i s : Int} (h : PenAt H p n m c ns i s) : c ≠ p := fun e => by
  have h1 := h.cells
  rw [e, h.at_] at h1
  have h2 := HO.lst.inj (Option.some.inj h1)
  cases ns with
  | nil => cases h2
  | cons x r => cases (List.cons.inj h2).1
theorem PenAt.mono {H : Hp} {p c : Addr} {n k : Nat} {m : List V} {ns : List Int} {i s : Int} (h : PenAt H p n m c ns i s) (hk : n ≤ k) : PenAt H p k m c ns i s :=
  ⟨h.at_, h.cells, h.len, h.i0, by have := h.i1; omega, h.s0⟩
/-- the pen behind a draw -/
theorem PenAt.next {H : Hp} {p c : Addr} {n k : Nat} {m : List V} {ns : List Int} {i s i' s' : Int} (h : PenAt H p n m c ns i s) (h0 : 0 ≤ i') (h1 : i' ≤ k) (h2 : 0 ≤ s') : PenAt (upd H p (penL c i' s' m)) p k m c ns i' s' :=
  ⟨upd_same, by rw [upd_ne h.ne]; exact h.cells, h.len, h0, h1, h2⟩
theorem PenAt.keep {H H' : Hp} {p c : Addr} {n : Nat} {m : List V} {ns : List Int} {i s : Int} (h : PenAt H p n m c ns i s) (k : Same H H') : PenAt H' p n m c ns i s :=
  ⟨k _ _ h.at_, k _ _ h.cells, h.len, h.i0, h.i1, h.s0⟩
/-- a pen at p, its numbers at c, whatever it holds -/
def Pen (H : Hp) (p c : Addr) (n : Nat) (m : List V) : Prop := ∃ ns i s, PenAt H p n m c ns i s
theorem Pen.keep {H H' : Hp} {p c : Addr} {n : Nat} {m : List V} (h : Pen H p c n m) (k : Same H H') : Pen H' p c n m := by
  obtain ⟨ns, i, s, h⟩ := h
  exact ⟨ns, i, s, h.keep k⟩
theorem Pen.mono {H : Hp} {p c : Addr} {n k : Nat} {m : List V} (h : Pen H p c n m) (hk : n ≤ k) : Pen H p c k m := by
  obtain ⟨ns, i, s, h⟩ := h
  exact ⟨ns, i, s, h.mono hk⟩
theorem Pen.ne_p {H : Hp} {p c : Addr} {n : Nat} {m : List V} (h : Pen H p c n m) {a : Addr} (e : H a = none) : a ≠ p := by
  obtain ⟨ns, i, s, h⟩ := h
  rintro rfl
  rw [h.at_] at e
  cases e
theorem Pen.ne_c {H : Hp} {p c : Addr} {n : Nat} {m : List V} (h : Pen H p c n m) {a : Addr} (e : H a = none) : a ≠ c := by
  obtain ⟨ns, i, s, h⟩ := h
  rintro rfl
  rw [h.cells] at e
  cases e
/-- a store elsewhere -/
theorem Pen.off {H : Hp} {p c : Addr} {n : Nat} {m : List V} (h : Pen H p c n m) {a : Addr} {o : HO} (h1 : a ≠ p) (h2 : a ≠ c) : Pen (upd H a o) p c n m := by
  obtain ⟨ns, i, s, h⟩ := h
  exact ⟨ns, i, s, by rw [upd_ne h1.symm]; exact h.at_, by rw [upd_ne h2.symm]; exact h.cells, h.len, h.i0, h.i1, h.s0⟩
/-- all but p is as it was -/
def But (p : Addr) (H H' : Hp) : Prop := ∀ b o, b ≠ p → H b = some o → H' b = some o
theorem But.refl (p : Addr) (H : Hp) : But p H H := fun _ _ _ e => e
theorem But.trans {p : Addr} {H H1 H2 : Hp} (a : But p H H1) (b : But p H1 H2) : But p H H2 := fun c o n e => b c o n (a c o n e)
theorem But.of_same {p : Addr} {H H' : Hp} (h : Same H H') : But p H H' := fun b o _ e => h b o e
theorem But.upd {p : Addr} {H : Hp} {o : HO} : But p H (upd H p o) := fun b x n e => by rw [upd_ne n]; exact e
/-- what is free behind was free ahead -/
theorem But.free {p : Addr} {H H' : Hp} (e : But p H H') {a : Addr} (n : a ≠ p) (h : H' a = none) : H a = none := by
  cases q : H a with
  | none => rfl
  | some o =>
    rw [e a o n q] at h
    cases h
theorem But.seq {K : PySem.W.Frag} {p : Addr} {H H' : Hp} {a : Addr} {xs : List V} (e : But p H H') (hn : a ≠ p) (h : SqL K H a xs) : SqL K H' a xs := by
  rcases h with (h | ⟨o, h⟩) | h
  · exact .inl (.inl (e _ _ hn h))
  · exact .inl (.inr ⟨o, e _ _ hn h⟩)
  · exact .inr h
theorem PenAt.but {H H' : Hp} {p c : Addr} {n k : Nat} {m : List V} {ns : List Int} {i s i' s' : Int} (h : PenAt H p n m c ns i s) (hb : But p H H') (e : H' p = some (penL c i' s' m)) (h0 : 0 ≤ i') (h1 : i' ≤ k) (h2 : 0 ≤ s') : PenAt H' p k m c ns i' s' :=
  ⟨e, hb _ _ h.ne h.cells, h.len, h0, h1, h2⟩
/-- no call makes more turns of the pen -/
abbrev PB : Nat := 1000000000000
def spPen (K : PySem.W.Frag) : Sp := fun vs H Q _ => ∃ (a : Addr) (ns : List Int), vs = [.ref a] ∧ SqL K H a (ns.map V.int) ∧ ns.length ≤ 63 ∧ ∀ H' p c, Same H H' → H p = none → H c = none → Pen H' p c 0 [] → Q (.ref p) H'
def spNext : Sp := fun vs H Q _ => ∃ (p : Addr) (n : Nat) (m : List V) (c : Addr) (ns : List Int) (i s : Int), vs = [.ref p] ∧ PenAt H p n m c ns i s ∧ n ≤ PB ∧
  ∀ (x : Int) (H' : Hp), 0 ≤ x → But p H H' → PenAt H' p (n + 1) m c ns (i + 1) s → Q (.int x) H'
def spDraw : Sp := fun vs H Q _ => ∃ (p c : Addr) (n : Nat) (m : List V) (below : Int), vs = [.ref p, .int below] ∧ Pen H p c n m ∧ n ≤ PB ∧ 0 < below ∧ below < 1073741824 ∧
  ∀ (d : Int) (H' : Hp), 0 ≤ d → d < below → But p H H' → Pen H' p c (n + 1) m → Q (.int d) H'
theorem sixty {ns : List Int} : HT.sIx ns.length 0 none = 0 ∧ HT.sIx ns.length ns.length (some 60) ≤ 60 := by
  refine ⟨HT.sIx_none _ _, ?_⟩
  rw [show HT.sIx ns.length ns.length (some 60) = min 60 ns.length from HT.sIx_nat ns.length ns.length 60]
  omega
theorem cut60 (ns : List Int) : ∃ ms : List Int, cutV (ns.map V.int) none (some 60) = ms.map V.int ∧ ms.length ≤ 60 := by
  unfold cutV
  refine ⟨(ns.drop (HT.sIx (ns.map V.int).length 0 none)).take (HT.sIx (ns.map V.int).length (ns.map V.int).length (some 60) - HT.sIx (ns.map V.int).length 0 none), ?_, ?_⟩
  · rw [List.map_take, List.map_drop]
  · rw [List.length_take, List.length_map]
    have h := (sixty (ns := ns)).2
    omega
theorem same_upd {H : Hp} {p : Addr} {o : HO} (h : H p = none) : Same H (upd H p o) := fun b x e => by
  rw [upd_ne (ne_of_none e h)]
  exact e
theorem ix1 {a b c : V} {m : List V} : ixN (a :: b :: c :: m).length 1 = some 1 := by
  unfold ixN
  rw [if_pos (by decide), if_pos (by rw [List.length_cons, List.length_cons]; omega)]
  rfl
theorem ix2 {a b c : V} {m : List V} : ixN (a :: b :: c :: m).length 2 = some 2 := by
  unfold ixN
  rw [if_pos (by decide), if_pos (by rw [List.length_cons, List.length_cons, List.length_cons]; omega)]
  rfl
theorem dpAll_ints {K : PySem.W.Frag} {H : Hp} : ∀ ns : List Int, DpAll K H (ns.map V.int) (ns.map PyData.int)
  | [] => .nil
  | n :: r => .cons (.int n) (dpAll_ints r)
theorem eqv_nil (ns : List Int) : PyData.eqv (.list (ns.map PyData.int)) (.list []) = decide (ns = []) := by
  cases ns with
  | nil => rfl
  | cons x r => rfl
/-! ### what the reprs of small data come to -/
structure OkD (L B : Nat) (d : PyData) : Prop where
  sh : d.showable = true
  dp : d.depth ≤ L
  ln : d.shown.length ≤ B
theorem OkD.mono {L B L' B' : Nat} {d : PyData} (h : OkD L B d) (h1 : L ≤ L') (h2 : B ≤ B') : OkD L' B' d := ⟨h.sh, Nat.le_trans h.dp h1, Nat.le_trans h.ln h2⟩
theorem comma_len : ((", " : String) : Str).length = 2 := by decide +kernel
theorem join_le : ∀ ts : List Str, (Str.join ", " ts).length ≤ (ts.map fun t => t.length + 2).sum
  | [] => Nat.zero_le _
  | [x] => by
    show x.length ≤ _
    rw [List.map_cons, List.sum_cons]
    omega
  | x :: y :: r => by
    have ih := join_le (y :: r)
    show (x ++ ((", " : String) : Str) ++ Str.join ", " (y :: r)).length ≤ _
    rw [strLen_append, strLen_append, comma_len, List.map_cons, List.sum_cons]
    omega
theorem sum_le_of {l : List Str} {B : Nat} (h : ∀ t ∈ l, t.length ≤ B) : (l.map fun t => t.length + 2).sum ≤ l.length * (B + 2) := by
  induction l with
  | nil => exact Nat.zero_le _
  | cons x r ih =>
    have h1 := h x List.mem_cons_self
    have h2 := ih fun t ht => h t (List.mem_cons_of_mem _ ht)
    rw [List.map_cons, List.sum_cons, List.length_cons, Nat.succ_mul]
    omega
theorem shownAll_map : ∀ ds : List PyData, PyData.shownAll ds = ds.map PyData.shown
  | [] => PyData.shownAll_nil
  | d :: ds => by rw [PyData.shownAll_cons, shownAll_map ds, List.map_cons]
theorem showableAll_all : ∀ {ds : List PyData}, (∀ d ∈ ds, d.showable = true) → PyData.showableAll ds = true := PySem.Spec.showableAll_of
theorem depthAll_le {L : Nat} : ∀ {ds : List PyData}, (∀ d ∈ ds, d.depth ≤ L) → PyData.depthAll ds ≤ L
  | [], _ => by simp only [PyData.depthAll]; exact Nat.zero_le _
  | d :: ds, h => by
    have h1 := h d List.mem_cons_self
    have h2 := depthAll_le fun x hx => h x (List.mem_cons_of_mem _ hx)
    simp only [PyData.depthAll]
    omega
theorem OkD.list {L B n : Nat} {ds : List PyData} (hn : ds.length ≤ n) (h : ∀ d ∈ ds, OkD L B d) : OkD (L + 1) (n * (B + 2) + 2) (.list ds) := by
  refine ⟨by simp only [PyData.showable]; exact showableAll_all fun d hd => (h d hd).sh, ?_, ?_⟩
  · have := depthAll_le fun d hd => (h d hd).dp
    simp only [PyData.depth]
    omega
  · rw [PyData.shown_list, shownAll_map, strLen_append, strLen_append]
    have h1 := join_le (ds.map PyData.shown)
    have h2 := sum_le_of (l := ds.map PyData.shown) (B := B) fun t ht => by
      obtain ⟨d, hd, rfl⟩ := List.mem_map.mp ht
      exact (h d hd).ln
    rw [List.length_map] at h2
    have h3 := Nat.mul_le_mul_right (B + 2) hn
    have e1 : ((("[" : String) : Str)).length = 1 := by decide +kernel
    have e2 : ((("]" : String) : Str)).length = 1 := by decide +kernel
    omega
theorem OkD.tuple {L B n : Nat} {ds : List PyData} (hn : ds.length ≤ n) (h : ∀ d ∈ ds, OkD L B d) : OkD (L + 1) (n * (B + 2) + 3) (.tuple ds) := by
  refine ⟨by simp only [PyData.showable]; exact showableAll_all fun d hd => (h d hd).sh, ?_, ?_⟩
  · have := depthAll_le fun d hd => (h d hd).dp
    simp only [PyData.depth]
    omega
  · rw [PyData.shown_tuple, shownAll_map, strLen_append, strLen_append]
    have h1 := join_le (ds.map PyData.shown)
    have h2 := sum_le_of (l := ds.map PyData.shown) (B := B) fun t ht => by
      obtain ⟨d, hd, rfl⟩ := List.mem_map.mp ht
      exact (h d hd).ln
    rw [List.length_map] at h2
    have h3 := Nat.mul_le_mul_right (B + 2) hn
    have e1 : ((("(" : String) : Str)).length = 1 := by decide +kernel
    have e2 : (((if (ds.length == 1) = true then ",)" else ")" : String) : Str)).length ≤ 2 := by split <;> decide +kernel
    omega
theorem depthKv_le {L : Nat} : ∀ {ds : List (PyData × PyData)}, (∀ d ∈ ds, d.1.depth ≤ L ∧ d.2.depth ≤ L) → PyData.depthKv ds ≤ L
  | [], _ => by simp only [PyData.depthKv]; exact Nat.zero_le _
  | (a, b) :: ds, h => by
    have h1 : a.depth ≤ L ∧ b.depth ≤ L := h (a, b) List.mem_cons_self
    have h2 := depthKv_le fun x hx => h x (List.mem_cons_of_mem _ hx)
    simp only [PyData.depthKv]
    omega
theorem shownKv_map : ∀ ds : List (PyData × PyData), PyData.shownKv ds = ds.map fun p => p.1.shown ++ ((": " : String) : Str) ++ p.2.shown
  | [] => PyData.shownKv_nil
  | (a, b) :: ds => by rw [PyData.shownKv_cons, shownKv_map ds, List.map_cons]
theorem OkD.dict {L B C n : Nat} {ds : List (PyData × PyData)} (hn : ds.length ≤ n) (h : ∀ d ∈ ds, OkD L C d.1 ∧ OkD L B d.2) : OkD (L + 1) (n * (C + B + 4) + 2) (.dict ds) := by
  refine ⟨by simp only [PyData.showable]; exact PySem.Spec.showableKv_of fun d hd => ⟨(h d hd).1.sh, (h d hd).2.sh⟩, ?_, ?_⟩
  · have := depthKv_le fun d hd => ⟨(h d hd).1.dp, (h d hd).2.dp⟩
    simp only [PyData.depth]
    omega
  · rw [PyData.shown_dict, shownKv_map, strLen_append, strLen_append]
    have h1 := join_le (ds.map fun p => p.1.shown ++ ((": " : String) : Str) ++ p.2.shown)
    have e0 : (((": " : String) : Str)).length = 2 := by decide +kernel
    have h2 := sum_le_of (l := ds.map fun p => p.1.shown ++ ((": " : String) : Str) ++ p.2.shown) (B := C + B + 2) fun t ht => by
      obtain ⟨d, hd, rfl⟩ := List.mem_map.mp ht
      have z1 := (h d hd).1.ln
      have z2 := (h d hd).2.ln
      rw [strLen_append, strLen_append, e0]
      omega
    rw [List.length_map] at h2
    have h3 := Nat.mul_le_mul_right (C + B + 2 + 2) hn
    have e1 : ((("{" : String) : Str)).length = 1 := by decide +kernel
    have e2 : ((("}" : String) : Str)).length = 1 := by decide +kernel
    have e3 : C + B + 2 + 2 = C + B + 4 := by omega
    rw [e3] at h2 h3
    omega
/-! ### dicts made of pairs -/
theorem putK_end {kvs : List (Key × V)} {k : Key} {v : V} (h : k ∉ kvs.map (·.1)) : putK kvs k v = kvs ++ [(k, v)] := by
  unfold putK
  rw [if_neg]
  intro q
  obtain ⟨p, hp, e⟩ := List.any_eq_true.mp q
  exact h (List.mem_map.mpr ⟨p, hp, of_decide_eq_true e⟩)
theorem mergeK_nd : ∀ (more kvs : List (Key × V)), ((kvs ++ more).map (·.1)).Nodup → mergeK kvs more = kvs ++ more
  | [], kvs, _ => (List.append_nil _).symm
  | (k, v) :: r, kvs, h => by
    have e : kvs ++ (k, v) :: r = (kvs ++ [(k, v)]) ++ r := by rw [List.append_assoc]; rfl
    have hk : k ∉ kvs.map (·.1) := fun m => by
      rw [List.map_append, List.nodup_append] at h
      exact h.2.2 k m k (by rw [List.map_cons]; exact List.mem_cons_self) rfl
    show mergeK (putK kvs k v) r = _
    rw [putK_end hk, e]
    rw [e] at h
    exact mergeK_nd r _ h
theorem DrKv.zip {K : PySem.W.Frag} {H : Hp} {N : Addr → Prop} : ∀ (ks : List Key) {vs : List V} {ds : List PyData}, DrAll K H N vs ds → DrKv K H N (ks.zip vs) ((ks.map keyD).zip ds)
  | [], _, _, _ => .nil
  | _ :: _, _, _, .nil => .nil
  | k :: ks, _, _, .cons h t => .cons h (DrKv.zip ks t)
theorem nodup_zip {α β : Type} {ks : List α} (h : ks.Nodup) : ∀ vs : List β, ((ks.zip vs).map (·.1)).Nodup := fun vs => by
  have e : (ks.zip vs).map (·.1) = ks.take vs.length := by
    induction ks generalizing vs with
    | nil => cases vs <;> rfl
    | cons k ks ih =>
      cases vs with
      | nil => rfl
      | cons v vs =>
        show k :: (ks.zip vs).map (·.1) = _
        rw [ih (List.nodup_cons.mp h).2]
        rfl
  rw [e]
  exact h.sublist (List.take_sublist _ _)
/-- a comprehension without tests: the item is kept -/
theorem yes_if {σ : L2.St} {H : Hp} {A B : Hp → Prop} (h : A H) : tYes σ H fun b H3 => if b = true then A H3 else B H3 := by
  unfold tYes
  dsimp only
  rw [if_pos rfl]
  exact h
/-! ### texts made of texts -/
/-- the signs of a text -/
abbrev sg (x : Str) : List Nat := x.cps.toList
theorem sg_len (x : Str) : (sg x).length = x.length := Array.length_toList
theorem sg_app (x y : Str) : sg (x ++ y) = sg x ++ sg y := by
  show ((x.cps ++ y.cps).toList : List Nat) = _
  rw [Array.toList_append]
theorem sg_empty : sg "" = [] := by rw [show ("" : Str) = ⟨#[]⟩ from empty_str]
theorem app_empty (x : Str) : x ++ ((("" : String) : Str)) = x := str_ext (by
  show sg (x ++ _) = sg x
  rw [sg_app, sg_empty, List.append_nil])
theorem sg_join : ∀ ys : List Str, sg (Txt.join "" ys) = (ys.map sg).flatten := by
  intro ys
  show sg (Builtin.Str.glued "" ys) = _
  rw [StrLaws.glued_eq_join]
  induction ys with
  | nil => rfl
  | cons y r ih =>
    cases r with
    | nil =>
      show sg y = _
      rw [List.map_cons, List.map_nil, List.flatten_cons, List.flatten_nil, List.append_nil]
    | cons z t =>
      show sg (y ++ ((("" : String) : Str)) ++ Str.join "" (z :: t)) = _
      rw [app_empty, sg_app, ih, List.map_cons (a := y), List.flatten_cons]
/-- a text that is not long, of signs that repr writes short -/
structure Sm (n : Nat) (x : Str) : Prop where
  ln : x.length ≤ n
  ch : ∀ c ∈ sg x, c < 128
theorem Sm.mono {n m : Nat} {x : Str} (h : Sm n x) (hm : n ≤ m) : Sm m x := ⟨Nat.le_trans h.ln hm, h.ch⟩
theorem Sm.app {n m : Nat} {x y : Str} (h : Sm n x) (h' : Sm m y) : Sm (n + m) (x ++ y) := ⟨by
  rw [strLen_append]
  exact Nat.add_le_add h.ln h'.ln, fun c hc => by
  rw [sg_app] at hc
  exact (List.mem_append.mp hc).elim (h.ch c) (h'.ch c)⟩
theorem Sm.cut {n : Nat} {x : Str} (h : Sm n x) (lo hi : Option Int) : Sm n (cutS x lo hi) := ⟨Nat.le_trans (cutS_length x lo hi) h.ln, fun c hc => by
  have e : sg (cutS x lo hi) = ((sg x).drop (HT.sIx x.length 0 lo)).take (HT.sIx x.length x.length hi - HT.sIx x.length 0 lo) := rfl
  rw [e] at hc
  exact h.ch c (List.mem_of_mem_drop (List.mem_of_mem_take hc))⟩
theorem Sm.one {c : Nat} (h : c < 128) : Sm 1 ⟨#[c]⟩ := ⟨Nat.le_refl _, fun d hd => by
  have hd' : d ∈ [c] := hd
  rw [List.mem_singleton.mp hd']
  exact h⟩
theorem Sm.join {ys : List Str} (h : ∀ y ∈ ys, Sm 1 y) : Sm ys.length (Txt.join "" ys) := by
  constructor
  · rw [← sg_len, sg_join]
    induction ys with
    | nil => exact Nat.le_refl _
    | cons y r ih =>
      have h1 := (h y List.mem_cons_self).ln
      have h2 := ih fun z hz => h z (List.mem_cons_of_mem _ hz)
      rw [List.map_cons, List.flatten_cons, List.length_append, List.length_cons, sg_len]
      omega
  · intro c hc
    rw [sg_join] at hc
    obtain ⟨l, hl, hc⟩ := List.mem_flatten.mp hc
    obtain ⟨y, hy, rfl⟩ := List.mem_map.mp hl
    exact (h y hy).ch c hc
theorem Sm.ok {n B : Nat} {x : Str} (h : Sm n x) (hb : 10 * n + 2 ≤ B) : OkD 0 B (.str x) := by
  refine ⟨by simp only [PyData.showable], by simp only [PyData.depth]; exact Nat.le_refl _, ?_⟩
  rw [PyData.shown_str]
  have h1 := StrLaws.reprText_len x fun c hc => Nat.lt_of_lt_of_le (h.ch c hc) (by decide)
  have h2 := h.ln
  omega
theorem sum_ones {ys : List Str} (h : ∀ y ∈ ys, Sm 1 y) : (ys.map (·.length)).sum ≤ ys.length := by
  induction ys with
  | nil => exact Nat.le_refl _
  | cons y r ih =>
    have h1 := (h y List.mem_cons_self).ln
    have h2 := ih fun z hz => h z (List.mem_cons_of_mem _ hz)
    rw [List.map_cons, List.sum_cons, List.length_cons]
    omega
/-- text * number -/
def rMulS : R2 := fun x y H Q => ∃ z n, x = .str z ∧ y = .int n ∧ MulOk z n ∧ Q (.str (Txt.mul z n)) H
theorem op_mulS {X : Cx} : OpR X (binaryOp .Mult) rMulS := by
  intro pins s σ H x y v u Q I rx ry h
  obtain ⟨z, n, rfl, rfl, ok, q⟩ := h
  obtain ⟨t, rfl⟩ := rx
  obtain ⟨t', rfl⟩ := ry
  exact SB.mul ok fun t k => ⟨.str _, H, I.tok _, ⟨_, rfl⟩, q⟩
theorem foldl_app (l : List (Array Nat)) : ∀ a : Array Nat, (l.foldl (· ++ ·) a).toList = a.toList ++ (l.map Array.toList).flatten := by
  induction l with
  | nil => intro a; simp
  | cons x r ih =>
    intro a
    rw [List.foldl_cons, ih, Array.toList_append, List.map_cons, List.flatten_cons, List.append_assoc]
theorem mul_sm {x : Str} {n : Nat} (h : Sm 1 x) (h1 : 2 ≤ n) (hx : (x.length == 0) = false) : Sm n (Txt.mul x (n : Int)) := by
  have e : Txt.mul x (n : Int) = ⟨(List.replicate n x.cps).foldl (· ++ ·) #[]⟩ := by
    unfold Txt.mul
    rw [if_neg (by omega), hx, show ((n : Int) == 1) = false from beq_eq_false_iff_ne.mpr (by omega)]
    rfl
  have e2 : sg (Txt.mul x (n : Int)) = (List.replicate n (sg x)).flatten := by
    rw [e]
    show ((List.replicate n x.cps).foldl (· ++ ·) #[]).toList = _
    rw [foldl_app, List.map_replicate]
    rfl
  constructor
  · rw [← sg_len, e2, List.length_flatten, List.map_replicate, List.sum_replicate_nat, sg_len]
    have := h.ln
    exact Nat.le_trans (Nat.mul_le_mul_left n this) (by omega)
  · intro c hc
    rw [e2] at hc
    obtain ⟨l, hl, hc⟩ := List.mem_flatten.mp hc
    rw [(List.mem_replicate.mp hl).2] at hc
    exact h.ch c hc
/-- bit in ['0', '1'] -/
theorem bit_in (c : Nat) : inV (.str ⟨#[c]⟩) [.str "0", .str "1"] = (("01" : Str)).cps.contains c := by
  have e0 : ("0" : Str) = ⟨#[48]⟩ := by decide +kernel
  have e1 : ("1" : Str) = ⟨#[49]⟩ := by decide +kernel
  have e2 : (("01" : Str)).cps = #[48, 49] := by decide +kernel
  have eq1 : ∀ d : Nat, eqV (.str ⟨#[d]⟩) (.str ⟨#[c]⟩) = (c == d) := fun d => by
    show ((⟨#[d]⟩ : Str) == ⟨#[c]⟩) = (c == d)
    rw [Bool.eq_iff_iff, beq_iff_eq, beq_iff_eq]
    constructor
    · intro h
      have h2 : ([d] : List Nat) = [c] := congrArg Array.toList (Str.mk.inj h)
      exact (List.cons.inj h2).1.symm
    · rintro rfl
      rfl
  rw [e0, e1, e2]
  show (eqV (.str ⟨#[48]⟩) (.str ⟨#[c]⟩) || (eqV (.str ⟨#[49]⟩) (.str ⟨#[c]⟩) || false)) = _
  rw [eq1, eq1, Bool.eq_iff_iff]
  simp
/-! ### rows -/
theorem bits_sm {x : Str} (h : isBits x = true) : ∀ c ∈ sg x, c < 128 := fun c hc => by
  have h1 := List.all_eq_true.mp h c hc
  have e2 : (("01" : Str)).cps = #[48, 49] := by decide +kernel
  rw [e2] at h1
  simp at h1
  omega
theorem bits_iff {x : Str} : isBits x = true ↔ ∀ c ∈ sg x, c = 48 ∨ c = 49 := by
  have e2 : (("01" : Str)).cps = #[48, 49] := by decide +kernel
  unfold isBits onlyOf
  rw [e2, List.all_eq_true]
  constructor
  · intro h c hc
    have := h c hc
    simp at this
    omega
  · intro h c hc
    have := h c hc
    simp
    omega
theorem bits_app {x y : Str} (h : isBits x = true) (h' : isBits y = true) : isBits (x ++ y) = true := bits_iff.mpr fun c hc => by
  rw [sg_app] at hc
  exact (List.mem_append.mp hc).elim (bits_iff.mp h c) (bits_iff.mp h' c)
theorem bits_sub {x y : Str} (h : isBits x = true) (k : ∀ c ∈ sg y, c ∈ sg x) : isBits y = true := bits_iff.mpr fun c hc => bits_iff.mp h c (k c hc)
theorem sg_cut (x : Str) (lo hi : Option Int) : sg (cutS x lo hi) = ((sg x).drop (HT.sIx x.length 0 lo)).take (HT.sIx x.length x.length hi - HT.sIx x.length 0 lo) := rfl
theorem bits_cut {x : Str} (h : isBits x = true) (lo hi : Option Int) : isBits (cutS x lo hi) = true := bits_sub h fun c hc => by
  rw [sg_cut] at hc
  exact List.mem_of_mem_drop (List.mem_of_mem_take hc)
/-- x[:k] -/
theorem sg_take (x : Str) (k : Nat) : sg (cutS x none (some (k : Int))) = (sg x).take k := by
  rw [sg_cut, HT.sIx_none, HT.sIx_nat, List.drop_zero, Nat.sub_zero, ← sg_len]
  rcases Nat.le_total k (sg x).length with h | h
  · rw [Nat.min_eq_left h]
  · rw [Nat.min_eq_right h, List.take_length, List.take_of_length_le h]
theorem take_len (x : Str) (k : Nat) : (cutS x none (some (k : Int))).length ≤ k := by
  rw [← sg_len, sg_take, List.length_take]
  omega
theorem bits_empty : isBits "" = true := by decide +kernel
theorem flat_str (xs : List Str) : (xs.map V.str).all flatV = true := by
  induction xs with
  | nil => rfl
  | cons x r ih => exact ih
theorem inV_str (x : Str) (xs : List Str) : inV (.str x) (xs.map V.str) = decide (x ∈ xs) := by
  induction xs with
  | nil => rfl
  | cons y r ih =>
    have e : inV (.str x) ((y :: r).map V.str) = ((y == x) || inV (.str x) (r.map V.str)) := rfl
    rw [e, ih, Bool.eq_iff_iff, Bool.or_eq_true, beq_iff_eq, decide_eq_true_iff, decide_eq_true_iff, List.mem_cons]
    exact ⟨fun h => h.imp Eq.symm id, fun h => h.imp Eq.symm id⟩
theorem dpAll_strs {K : PySem.W.Frag} {H : Hp} : ∀ xs : List Str, DpAll K H (xs.map V.str) (xs.map PyData.str)
  | [] => .nil
  | x :: r => .cons (.str x) (dpAll_strs r)
theorem shaped_strs {xs : List Str} (h : ∀ x ∈ xs, isBits x = true) : SeqAt.shaped (.list (xs.map PyData.str)) = true := by
  have h1 : PyData.canLayAll0 (xs.map PyData.str) = true := by
    induction xs with
    | nil => simp only [List.map_nil, PyData.canLayAll0]
    | cons x r ih =>
      rw [List.map_cons]
      simp only [PyData.canLayAll0, PyData.canLay0]
      rw [ih fun y hy => h y (List.mem_cons_of_mem _ hy), Bool.and_true]
      unfold PyData.strOk
      have hx := bits_sm (h x List.mem_cons_self)
      rw [Array.all_eq_true']
      intro c hc
      have := hx c (Array.mem_toList_iff.mpr hc)
      exact decide_eq_true (by omega)
  have h2 : PyData.depthAll (xs.map PyData.str) ≤ 0 := depthAll_le fun d hd => by
    obtain ⟨x, _, rfl⟩ := List.mem_map.mp hd
    simp only [PyData.depth]
    exact Nat.le_refl _
  unfold SeqAt.shaped
  rw [Bool.and_eq_true]
  refine ⟨by simp only [PyData.canLay0]; exact h1, decide_eq_true ?_⟩
  simp only [PyData.depth]
  omega
theorem eqv_nilS (xs : List Str) : PyData.eqv (.list (xs.map PyData.str)) (.list []) = decide (xs = []) := by
  cases xs with
  | nil => rfl
  | cons x r => rfl
/-- the prefixes of a map of this width, each once -/
structure PfxL (w : Nat) (xs : List Str) : Prop where
  nd : xs.Nodup
  bits : ∀ x ∈ xs, isBits x = true
  len : ∀ x ∈ xs, x.length ≤ w
/-- rows: prefixes of this width with values of this kind -/
structure RowsOk (w : Nat) (vok : V → Prop) (xs : List Str) (kvs : List (Key × V)) : Prop where
  keys : kvs.map (·.1) = xs.map Sum.inr
  pfx : PfxL w xs
  val : ∀ kv ∈ kvs, vok kv.2
def isIntV : V → Prop
  | .int _ => True
  | _ => False
def spBits : Sp := fun vs H Q _ => ∃ (p c : Addr) (n z : Nat) (m : List V), vs = [.ref p, .int z] ∧ Pen H p c n m ∧ n + 100 ≤ PB ∧ z ≤ 40 ∧
  ∀ (x : Str) (H' : Hp), But p H H' → Pen H' p c (n + 1 + z) m → isBits x = true → x.length ≤ z → Q (.str x) H'
def spSize : Sp := fun vs H Q _ => ∃ (p c : Addr) (n : Nat) (m : List V), vs = [.ref p] ∧ Pen H p c n m ∧ n + 100 ≤ PB ∧ m.length ≤ 1 ∧
  ∀ (z : Nat) (m' : List V) (H' : Hp), But p H H' → Pen H' p c (n + 1) m' → m'.length ≤ 1 → 1 ≤ z → z ≤ 32 → Q (.int z) H'
def spPrefixes : Sp := fun vs H Q _ => ∃ (p c : Addr) (n z k : Nat) (m : List V), vs = [.ref p, .int z, .int k] ∧ Pen H p c n m ∧ n + 1000 ≤ PB ∧ z ≤ 32 ∧ k ≤ 20 ∧
  ∀ (l : Addr) (xs : List Str) (H' : Hp), But p H H' → Pen H' p c (n + 1 + 8 * k) m → H l = none → H' l = some (.lst (xs.map V.str)) → PfxL z xs → xs.length ≤ k → Q (.ref l) H'
/-! ### types as isinstance reads them -/
def isIntish : V → Bool
  | .int _ => true
  | .bl _ => true
  | _ => false
def isBoolV : V → Bool
  | .bl _ => true
  | _ => false
def isWholeV : V → Bool
  | .int _ => true
  | _ => false
def isWidthV : V → Bool
  | .int z => decide ((1 : Int) ≤ z) && decide (z ≤ 32)
  | _ => false
structure TyI (K : PySem.W.Frag) (H : Hp) (v : V) (t : String) : Prop where
  ty : TyX K H v (.type t)
  int : PySem.W.kitOne K (.type t) (.type "int") = some (isIntish v)
  bool : PySem.W.kitOne K (.type t) (.type "bool") = some (isBoolV v)
theorem kitv {K : PySem.W.Frag} {t c : String} {b : Bool} (h : kitB t c = some b) : PySem.W.kitOne K (.type t) (.type c) = some b := kit_ty h
theorem TyI.of {K : PySem.W.Frag} {H : Hp} {N : Addr → Prop} {v : V} {d : PyData} (h : Dr K H N v d) : ∃ t, TyI K H v t := by
  cases h with
  | non => exact ⟨_, .base .non, kitv (b := false) (by decide +kernel), kitv (b := false) (by decide +kernel)⟩
  | bl b => exact ⟨_, .base (.bl b), kitv (b := true) (by decide +kernel), kitv (b := true) (by decide +kernel)⟩
  | int i => exact ⟨_, .base (.int i), kitv (b := true) (by decide +kernel), kitv (b := false) (by decide +kernel)⟩
  | str x => exact ⟨_, .base (.str x), kitv (b := false) (by decide +kernel), kitv (b := false) (by decide +kernel)⟩
  | lst _ h _ =>
    rcases h with (h | ⟨o, h⟩) | ⟨o, _, _, h, hc, _⟩
    · exact ⟨_, .base (.lst h), kitv (b := false) (by decide +kernel), kitv (b := false) (by decide +kernel)⟩
    · exact ⟨_, .base (.frz h), kitv (b := false) (by decide +kernel), kitv (b := false) (by decide +kernel)⟩
    · exact ⟨_, .kList h hc, kitv (b := false) (by decide +kernel), kitv (b := false) (by decide +kernel)⟩
  | tup _ h _ =>
    rcases h with (h | ⟨o, h⟩) | ⟨o, _, _, h, hc, _⟩
    · exact ⟨_, .base (.tup h), kitv (b := false) (by decide +kernel), kitv (b := false) (by decide +kernel)⟩
    · exact ⟨_, .fTuple h, kitv (b := false) (by decide +kernel), kitv (b := false) (by decide +kernel)⟩
    · exact ⟨_, .kTuple h hc, kitv (b := false) (by decide +kernel), kitv (b := false) (by decide +kernel)⟩
  | dic _ h _ =>
    rcases h with h | ⟨o, h⟩
    · exact ⟨_, .base (.dK h), kitv (b := false) (by decide +kernel), kitv (b := false) (by decide +kernel)⟩
    · exact ⟨_, .fDict h, kitv (b := false) (by decide +kernel), kitv (b := false) (by decide +kernel)⟩
/-! ### locked and as it was -/
theorem upd_back {H : Hp} {d : Addr} {u o : HO} (h : H d = some u) : upd (upd H d o) d u = H := by
  rw [upd_upd]
  funext b
  by_cases hb : b = d
  · rw [hb, upd_same, h]
  · rw [upd_ne hb]
/-- a dict comprehension over any walk -/
theorem dc_it {J : It} {n : Nat} {G : Hp → Prop} {Y : Nat → Hp → V → Hp → Prop} (w : Walk J n G Y) {g : TG} {tt : TT} {tk tv : TE} {vs : List Nat} {σ : L2.St} {H1 : Hp} {D : Addr} {Qd : Hp → Prop} (Pv : Nat → Hp → Prop) (h0 : Pv 0 (upd H1 D (.dK []))) (hG : ∀ i H, i ≤ n → Pv i H → G H)
    (hs : ∀ i x H H', i < n → Pv i H → Y i H x H' → g x (wipe σ vs) H' fun σ2 H2 => wipe σ2 vs = wipe σ vs ∧ tt σ2 H2 fun b H3 =>
      if b = true then tk σ2 H3 fun y H4 => tv σ2 H4 fun z H5 => ∃ kvs k, y = kV k ∧ H5 D = some (.dK kvs) ∧ kvs.length < sizeLine ∧ Pv (i + 1) (upd H5 D (.dK (putK kvs k z))) else Pv (i + 1) H3) (hd : ∀ H, Pv n H → Qd H) :
    ∃ W : Nat → Nat → Hp → Prop, (∃ m, W 0 m (upd H1 D (.dK []))) ∧ ∀ i m H, W i m H → (J.stop i H ∧ Qd H) ∨ (J.go i H ∧ ∃ Nx : Hp → Prop, (∀ H', Nx H' → ∃ m', m' < m ∧ W (i + 1) m' H') ∧
      ∀ x H', J.yld i H x H' → g x (wipe σ vs) H' fun σ2 H2 => wipe σ2 vs = wipe σ vs ∧ tt σ2 H2 fun b H3 =>
        if b = true then tk σ2 H3 fun y H4 => tv σ2 H4 fun z H5 => ∃ kvs k, y = kV k ∧ H5 D = some (.dK kvs) ∧ kvs.length < sizeLine ∧ Nx (upd H5 D (.dK (putK kvs k z))) else Nx H3) := by
  refine ⟨fun i m H => m + i = n ∧ Pv i H, ⟨n, rfl, h0⟩, ?_⟩
  rintro i m H ⟨hm, p⟩
  have q := hG i H (by omega) p
  rcases Nat.lt_or_ge i n with lt | ge
  · exact .inr ⟨w.goes i H lt q, Pv (i + 1), fun H' p' => ⟨m - 1, by omega, by omega, p'⟩, fun x H' y => hs i x H H' lt p (w.yields i H x H' lt q y)⟩
  · obtain rfl : i = n := by omega
    exact .inl ⟨w.stops H q, hd H p⟩
/-! ### prefixes of texts -/
def Pre (y x : Str) : Prop := sg y <+: sg x
instance (y x : Str) : Decidable (Pre y x) := inferInstanceAs (Decidable (sg y <+: sg x))
theorem startswith_iff (x y : Str) : Txt.startswith x y = decide (Pre y x) := by
  have e : Txt.startswith x y = (decide (0 + y.length ≤ x.length) && ((x.cps.extract 0 (0 + y.length)) == y.cps)) := rfl
  rw [e, Bool.eq_iff_iff, Bool.and_eq_true, decide_eq_true_iff, decide_eq_true_iff, beq_iff_eq]
  have e2 : (x.cps.extract 0 (0 + y.length)).toList = (sg x).take y.length := by simp [sg]
  constructor
  · rintro ⟨_, h⟩
    have h2 : (sg x).take y.length = sg y := by rw [← e2, h]
    show sg y <+: sg x
    rw [← h2]
    exact List.take_prefix _ _
  · intro h
    have h1 : sg y = (sg x).take (sg y).length := List.prefix_iff_eq_take.mp h
    have h3 := h.length_le
    rw [sg_len, sg_len] at h3
    refine ⟨by omega, ?_⟩
    apply Array.toList_inj.mp
    rw [e2, ← sg_len y]
    exact h1.symm
theorem pre_take (x : Str) (k : Nat) : Pre (cutS x none (some (k : Int))) x := by
  show sg _ <+: sg x
  rw [sg_take]
  exact List.take_prefix _ _
theorem pre_eq {x y : Str} (h : Pre y x) : y = cutS x none (some (y.length : Int)) := str_ext (by
  show sg y = sg _
  rw [sg_take, ← sg_len]
  exact List.prefix_iff_eq_take.mp h)
theorem pre_len {x y : Str} (h : Pre y x) : y.length ≤ x.length := by
  have := List.IsPrefix.length_le h
  rw [sg_len, sg_len] at this
  exact this
/-- the longest of xs with which x begins -/
def IsLong (xs : List Str) (x : Str) : Option Str → Prop
  | none => ∀ y ∈ xs, ¬ Pre y x
  | some y => y ∈ xs ∧ Pre y x ∧ ∀ z ∈ xs, Pre z x → z.length ≤ y.length
theorem IsLong.uniq {xs ys : List Str} {x : Str} (hm : ∀ y, y ∈ xs ↔ y ∈ ys) : ∀ {r r' : Option Str}, IsLong xs x r → IsLong ys x r' → r = r'
  | none, none, _, _ => rfl
  | none, some y, h, h' => absurd h'.2.1 (h y ((hm y).mpr h'.1))
  | some y, none, h, h' => absurd h.2.1 (h' y ((hm y).mp h.1))
  | some y, some z, h, h' => by
    have h1 := h.2.2 z ((hm z).mpr h'.1) h'.2.1
    have h2 := h'.2.2 y ((hm y).mp h.1) h.2.1
    have e : y.length = z.length := by omega
    rw [pre_eq h.2.1, pre_eq h'.2.1, e]
def optV : Option Str → V
  | none => .non
  | some x => .str x
/-! ### dicts by texts -/
theorem valV_mem {kvs : List (Key × V)} {k : Key} : (valV kvs k).isSome = true ↔ k ∈ kvs.map (·.1) := by
  unfold valV
  rw [Option.isSome_map, List.find?_isSome, List.mem_map]
  constructor
  · rintro ⟨p, hp, e⟩
    exact ⟨p, hp, of_decide_eq_true e⟩
  · rintro ⟨p, hp, e⟩
    exact ⟨p, hp, decide_eq_true e⟩
theorem inr_mem {kvs : List (Key × V)} {xs : List Str} (h : kvs.map (·.1) = xs.map Sum.inr) (y : Str) : (Sum.inr y : Key) ∈ kvs.map (·.1) ↔ y ∈ xs := by
  rw [h, List.mem_map]
  constructor
  · rintro ⟨z, hz, e⟩
    rw [← Sum.inr.inj e]
    exact hz
  · intro hy
    exact ⟨y, hy, rfl⟩
theorem key_at {kvs : List (Key × V)} {xs : List Str} (h : kvs.map (·.1) = xs.map Sum.inr) {i : Nat} {k : Key} {v : V} (e : kvs[i]? = some (k, v)) : ∃ y, xs[i]? = some y ∧ k = .inr y := by
  have h1 : (kvs.map (·.1))[i]? = some k := by rw [List.getElem?_map, e]; rfl
  rw [h, List.getElem?_map] at h1
  cases hx : xs[i]? with
  | none => rw [hx] at h1; cases h1
  | some y =>
    rw [hx] at h1
    exact ⟨y, rfl, (Option.some.inj h1).symm⟩
theorem valV_some {kvs : List (Key × V)} (nd : (kvs.map (·.1)).Nodup) {k : Key} {v : V} (h : (k, v) ∈ kvs) : valV kvs k = some v := by
  induction kvs with
  | nil => cases h
  | cons p r ih =>
    obtain ⟨k', v'⟩ := p
    rw [List.map_cons, List.nodup_cons] at nd
    rcases List.mem_cons.mp h with e | h
    · cases e
      exact valV_pos rfl
    · have hne : k' ≠ k := fun e => nd.1 (by rw [e]; exact List.mem_map.mpr ⟨_, h, rfl⟩)
      have hz := ih nd.2 h
      unfold valV at hz ⊢
      rw [List.find?_cons_of_neg (by simpa using hne)]
      exact hz
/-! ### the lines of a law: a new dict by drawn prefixes -/
theorem SqT.but {K : PySem.W.Frag} {p a : Addr} {H H' : Hp} {o : List V} {xs : List V} (e : But p H H') (hp : H p = some (.lst o)) (h : SqT K H a xs) : SqT K H' a xs := by
  rcases h with (h | ⟨u, h⟩) | h
  · exact .inl (.inl (e _ _ (ne_of h hp (fun z => nomatch z)) h))
  · exact .inl (.inr ⟨u, e _ _ (ne_of h hp (fun z => nomatch z)) h⟩)
  · exact .inr h
theorem SqT.same {K : PySem.W.Frag} {a : Addr} {H H' : Hp} {xs : List V} (e : Same H H') (h : SqT K H a xs) : SqT K H' a xs := by
  rcases h with (h | ⟨u, h⟩) | h
  · exact .inl (.inl (e _ _ h))
  · exact .inl (.inr ⟨u, e _ _ h⟩)
  · exact .inr h
def spLines (vok : V → Prop) (most : Nat) : Sp := fun vs H Q _ => ∃ (p c : Addr) (n z : Nat) (m : List V), vs = [.ref p, .int z] ∧ Pen H p c n m ∧ n + 1000 ≤ PB ∧ z ≤ 32 ∧
  ∀ (d : Addr) (xs : List Str) (kvs : List (Key × V)) (H' : Hp), But p H H' → H d = none → H' d = some (.dK kvs) → RowsOk z vok xs kvs → xs.length ≤ most → Pen H' p c (n + 200) m → Q (.ref d) H'
theorem Pen.lst {H : Hp} {p c : Addr} {n : Nat} {m : List V} (h : Pen H p c n m) : ∃ o, H p = some (.lst o) := by
  obtain ⟨ns, i, s, h⟩ := h
  exact ⟨_, h.at_⟩
/-- the loop of such a dict: pairs of a prefix and a value that is drawn -/
structure PairsAt (K : PySem.W.Frag) (H : Hp) (D : Addr) (vok : V → Prop) (xs : List Str) (ps : List Addr) (kvs : List (Key × V)) : Prop where
  at_ : H D = some (.lst (ps.map V.ref))
  prs : Paired (fun a kv => SqT K H a [kV kv.1, kv.2]) ps kvs
  keys : kvs.map (·.1) = xs.map Sum.inr
  val : ∀ kv ∈ kvs, vok kv.2
theorem PairsAt.but {K : PySem.W.Frag} {H H' : Hp} {D p : Addr} {vok : V → Prop} {xs : List Str} {ps : List Addr} {kvs : List (Key × V)} {o : List V} (h : PairsAt K H D vok xs ps kvs) (e : But p H H') (hp : H p = some (.lst o)) (hD : D ≠ p) : PairsAt K H' D vok xs ps kvs :=
  ⟨e _ _ hD h.at_, h.prs.mono fun _ _ t => SqT.but e hp t, h.keys, h.val⟩
theorem PairsAt.same {K : PySem.W.Frag} {H H' : Hp} {D : Addr} {vok : V → Prop} {xs : List Str} {ps : List Addr} {kvs : List (Key × V)} (h : PairsAt K H D vok xs ps kvs) (e : Same H H') : PairsAt K H' D vok xs ps kvs :=
  ⟨e _ _ h.at_, h.prs.mono fun _ _ t => SqT.same e t, h.keys, h.val⟩
theorem PairsAt.snoc {K : PySem.W.Frag} {H : Hp} {D : Addr} {vok : V → Prop} {xs : List Str} {ps : List Addr} {kvs : List (Key × V)} (h : PairsAt K H D vok xs ps kvs) {y : Str} {v : V} (hv : vok v) {t : Addr} (ht : H t = none) :
    PairsAt K (upd (upd H t (.tup [.str y, v])) D (.lst (ps.map V.ref ++ [.ref t]))) D vok (xs ++ [y]) (ps ++ [t]) (kvs ++ [(.inr y, v)]) := by
  have nt : t ≠ D := fun e => by
    rw [e, h.at_] at ht
    cases ht
  refine ⟨by rw [upd_same, List.map_append]; rfl, Paired.snoc (h.prs.mono fun a kv q => ?_) (.inl (.inl (by rw [upd_ne nt, upd_same]; rfl))), by rw [List.map_append, List.map_append, h.keys]; rfl, fun kv hk => ?_⟩
  · refine SqT.but (p := D) (H := upd H t (.tup [.str y, v])) .upd (by rw [upd_ne nt.symm]; exact h.at_) (SqT.same (same_upd ht) q)
  · rcases List.mem_append.mp hk with hk | hk
    · exact h.val kv hk
    · rw [List.mem_singleton.mp hk]
      exact hv
theorem pair_merge {K : PySem.W.Frag} {H : Hp} {D : Addr} {vok : V → Prop} {xs : List Str} {ps : List Addr} {kvs : List (Key × V)} (h : PairsAt K H D vok xs ps kvs) (nd : xs.Nodup) : mergeK [] kvs = kvs := by
  have e : (([] ++ kvs : List (Key × V)).map (·.1)).Nodup := by
    rw [List.nil_append, h.keys]
    exact nd.map Sum.inr (fun a b h e => h (Sum.inr.inj e))
  rw [mergeK_nd kvs [] e, List.nil_append]
/-- such a list made one longer: what stood else is as it was -/
theorem pairs_old {H H1 H3 : Hp} {D t p : Addr} {o1 o2 : HO} (hD : H D = none) (b1 : But p H H1) (b3 : But p H1 H3) (ht : H3 t = none) : But p H (upd (upd H3 t o1) D o2) := fun a o na ha => by
  have h1 := b3 a o na (b1 a o na ha)
  rw [upd_ne (ne_of_none ha hD), upd_ne (ne_of_none h1 ht)]
  exact h1
/-! ### lists of spots -/
theorem sg_mul (c n : Nat) : sg (Txt.mul ⟨#[c]⟩ (n : Int)) = List.replicate n c := by
  unfold Txt.mul
  by_cases h0 : (n : Int) < 1
  · rw [if_pos h0]
    have : n = 0 := by omega
    subst this
    rfl
  · rw [if_neg h0]
    by_cases h1 : n = 1
    · subst h1
      rfl
    · have e : (((n : Int) == 1) || ((⟨#[c]⟩ : Str).length == 0)) = false := by
        rw [show ((n : Int) == 1) = false from beq_eq_false_iff_ne.mpr (by omega)]
        rfl
      rw [e, if_neg Bool.false_ne_true]
      show ((List.replicate ((n : Int)).toNat (#[c] : Array Nat)).foldl (· ++ ·) #[]).toList = _
      rw [foldl_app, Int.toNat_natCast, List.map_replicate]
      show [] ++ (List.replicate n [c]).flatten = _
      rw [List.nil_append]
      induction n with
      | zero => rfl
      | succ k ih => 
        clear ih h0 h1 e
        induction k with
        | zero => rfl
        | succ j ih => rw [List.replicate_succ, List.flatten_cons, ih]; rfl
theorem zero_is : ("0" : Str) = ⟨#[48]⟩ := by decide +kernel
theorem one_is : ("1" : Str) = ⟨#[49]⟩ := by decide +kernel
theorem mul_ok1 {x : Str} {n : Nat} (hx : x.length ≤ 1) (hn : n ≤ 1000) : MulOk x (n : Int) := mulOk_of 1 1000 hx (by omega) (by omega) (by decide) (by decide)
theorem zeros_bits (n : Nat) : isBits (Txt.mul "0" (n : Int)) = true ∧ (Txt.mul "0" (n : Int)).length = n := by
  rw [zero_is]
  refine ⟨bits_iff.mpr fun c hc => ?_, ?_⟩
  · rw [sg_mul] at hc
    exact .inl (List.mem_replicate.mp hc).2
  · rw [← sg_len, sg_mul, List.length_replicate]
theorem ones_bits (n : Nat) : isBits (Txt.mul "1" (n : Int)) = true ∧ (Txt.mul "1" (n : Int)).length = n := by
  rw [one_is]
  refine ⟨bits_iff.mpr fun c hc => ?_, ?_⟩
  · rw [sg_mul] at hc
    exact .inr (List.mem_replicate.mp hc).2
  · rw [← sg_len, sg_mul, List.length_replicate]
/-- texts of bits, none longer than z -/
def AllS (z : Nat) (vs : List V) : Prop := ∀ v ∈ vs, ∃ x, v = .str x ∧ isBits x = true ∧ x.length ≤ z
theorem AllS.nil {z : Nat} : AllS z [] := fun _ h => absurd h List.not_mem_nil
theorem AllS.app {z : Nat} {vs us : List V} (h : AllS z vs) (h' : AllS z us) : AllS z (vs ++ us) := fun v hv => (List.mem_append.mp hv).elim (h v) (h' v)
theorem AllS.one {z : Nat} {x : Str} (h1 : isBits x = true) (h2 : x.length ≤ z) : AllS z [.str x] := fun v hv => ⟨x, List.mem_singleton.mp hv, h1, h2⟩
theorem AllS.rev {z : Nat} {vs : List V} (h : AllS z vs) : AllS z vs.reverse := fun v hv => h v (List.mem_reverse.mp hv)
theorem AllS.strs {z : Nat} {xs : List Str} (h : PfxL z xs) : AllS z (xs.map V.str) := fun v hv => by
  obtain ⟨x, hx, rfl⟩ := List.mem_map.mp hv
  exact ⟨x, rfl, h.bits x hx, h.len x hx⟩
theorem big_of {n : Nat} (h : n ≤ 1000) : n ≤ sizeLine := Nat.le_trans h (by decide)
theorem big_lt {n : Nat} (h : n ≤ 1000) : n < sizeLine := Nat.lt_of_le_of_lt h (by decide)
/-! ### rows whatever their order and however often they come -/
structure RowsAcc (w : Nat) (vok : V → Prop) (kvs : List (Key × V)) : Prop where
  nd : (kvs.map (·.1)).Nodup
  all : ∀ kv ∈ kvs, ∃ y, kv.1 = .inr y ∧ isBits y = true ∧ y.length ≤ w ∧ vok kv.2
theorem RowsAcc.put {w : Nat} {vok : V → Prop} {kvs : List (Key × V)} (h : RowsAcc w vok kvs) {y : Str} {v : V} (h1 : isBits y = true) (h2 : y.length ≤ w) (h3 : vok v) : RowsAcc w vok (putK kvs (.inr y) v) := by
  by_cases hm : (Sum.inr y : Key) ∈ kvs.map (·.1)
  · have e : putK kvs (.inr y) v = kvs.map (fun kv => if kv.1 = .inr y then (kv.1, v) else kv) := by
      unfold putK
      rw [if_pos]
      obtain ⟨p, hp, e⟩ := List.mem_map.mp hm
      exact List.any_eq_true.mpr ⟨p, hp, decide_eq_true e⟩
    rw [e]
    constructor
    · rw [List.map_map]
      have e2 : (Prod.fst ∘ fun kv : Key × V => if kv.1 = .inr y then (kv.1, v) else kv) = Prod.fst := by
        funext kv
        show (if kv.1 = .inr y then (kv.1, v) else kv).1 = kv.1
        split <;> rfl
      rw [e2]
      exact h.nd
    · intro kv hkv
      obtain ⟨p, hp, rfl⟩ := List.mem_map.mp hkv
      by_cases hy : p.1 = .inr y
      · rw [if_pos hy]
        exact ⟨y, hy, h1, h2, h3⟩
      · rw [if_neg hy]
        exact h.all p hp
  · rw [putK_end hm]
    constructor
    · rw [List.map_append, List.nodup_append]
      refine ⟨h.nd, List.nodup_cons.mpr ⟨List.not_mem_nil, List.nodup_nil⟩, fun a ha b hb e => hm ?_⟩
      have e2 : b = .inr y := List.mem_singleton.mp hb
      rw [← e2, ← e]
      exact ha
    · intro kv hkv
      rcases List.mem_append.mp hkv with hkv | hkv
      · exact h.all kv hkv
      · rw [List.mem_singleton.mp hkv]
        exact ⟨y, rfl, h1, h2, h3⟩
theorem RowsAcc.merge {w : Nat} {vok : V → Prop} : ∀ {more kvs : List (Key × V)}, RowsAcc w vok kvs → (∀ kv ∈ more, ∃ y, kv.1 = .inr y ∧ isBits y = true ∧ y.length ≤ w ∧ vok kv.2) → RowsAcc w vok (mergeK kvs more)
  | [], _, h, _ => h
  | (k, v) :: r, kvs, h, hm => by
    obtain ⟨y, e, h1, h2, h3⟩ := hm (k, v) List.mem_cons_self
    have e' : k = .inr y := e
    subst e'
    show RowsAcc w vok (mergeK (putK kvs (.inr y) v) r)
    exact RowsAcc.merge (h.put h1 h2 h3) fun kv hk => hm kv (List.mem_cons_of_mem _ hk)
theorem RowsAcc.ok {w : Nat} {vok : V → Prop} {kvs : List (Key × V)} (h : RowsAcc w vok kvs) : ∃ xs, RowsOk w vok xs kvs ∧ xs.length = kvs.length := by
  have key : ∀ l : List (Key × V), (∀ kv ∈ l, ∃ y, kv.1 = .inr y ∧ isBits y = true ∧ y.length ≤ w ∧ vok kv.2) → ∃ xs : List Str, l.map (·.1) = xs.map Sum.inr ∧ (∀ x ∈ xs, isBits x = true ∧ x.length ≤ w) := by
    intro l
    induction l with
    | nil => exact fun _ => ⟨[], rfl, fun _ h => absurd h List.not_mem_nil⟩
    | cons p r ih =>
      intro hl
      obtain ⟨xs, e, hx⟩ := ih fun kv hk => hl kv (List.mem_cons_of_mem _ hk)
      obtain ⟨y, ey, h1, h2, _⟩ := hl p List.mem_cons_self
      refine ⟨y :: xs, by rw [List.map_cons, List.map_cons, e, ey], fun x hx' => ?_⟩
      rcases List.mem_cons.mp hx' with rfl | hx'
      · exact ⟨h1, h2⟩
      · exact hx x hx'
  obtain ⟨xs, e, hx⟩ := key kvs h.all
  refine ⟨xs, ⟨e, ⟨?_, fun x hx' => (hx x hx').1, fun x hx' => (hx x hx').2⟩, fun kv hk => by obtain ⟨_, _, _, _, h⟩ := h.all kv hk; exact h⟩, ?_⟩
  · have hn := h.nd
    rw [e] at hn
    exact List.Pairwise.of_map Sum.inr (fun a b h e => h (by rw [e])) hn
  · have := congrArg List.length e
    rw [List.length_map, List.length_map] at this
    exact this.symm
/-! ### super().__init__(a, ..) -/
/-- an __init__ that calls its base's: its def at f, the cell of its class at cc -/
structure FunS (K : PySem.W.Frag) (file : Str) (x qual : Str) (st : Stmt) (f D : Addr) (fd : FuncData) : Prop where
  ex : ∃ (oc : Value) (od : Option Addr) (kV doc pm : Value) (an : Option Addr) (cda cc : Addr) (ct : Value) (osl : Array (Option Value)) (ck : Value) (cd : Option Addr) (vs : Array Value) (cs : Array (Option Value)) (tf : Tok) (lk : Value) (ld : Option Addr) (ls : Array (Option Value)),
    fd = PySem.W.ksFn x qual (defArgs st) (defBody st) (defScope st) .none kV doc pm an (.ref cda) ct cc ∧ K.lookup f = some ⟨oc, od, .func fd, osl⟩ ∧ PySem.W.codeIn K (.ref cda) qual = true ∧
    K.lookup cda = some ⟨ck, cd, .fields vs, cs⟩ ∧ vs[2]? = some (.str file tf) ∧ K.lookup cc = some ⟨lk, ld, .cell (some (.ref D)), ls⟩
  kp : PySem.W.keepIn K (.ref f) = true
/-- the scope of such a def: its parameters alone, and the cell -/
structure ScS (ps : List Str) (sc : Scope) : Prop where
  kind : sc.kind = .function
  co : sc.isCoroutine = false
  gen : sc.isGenerator = false
  nd : ps.Nodup
  par : ∀ x ∈ ps, sc.names.lookup x = some .local
  nocell : ∀ y ∈ sc.names, y.2 ≠ .cell
  free : ∀ y ∈ sc.names, y.2 = .free → y.1 = "__class__"
  sup : sc.names.lookup ("super" : Str) = some .globalImplicit
  cls : sc.names.lookup ("__class__" : Str) = some .free
theorem rev_get {x : Str} {v : Value} : ∀ {P : List Str} {vs : List Value} {i : Nat}, P.Nodup → P[i]? = some x → vs[i]? = some v → (P.zip vs).reverse.lookup x = some v
  | [], _, _, _, h, _ => by simp at h
  | _ :: _, [], _, _, _, h => by simp at h
  | p :: P, w :: vs, 0, nd, h1, h2 => by
    obtain rfl : p = x := by simpa using h1
    obtain rfl : w = v := by simpa using h2
    have out : (P.zip vs).reverse.lookup p = none := by
      rw [List.lookup_eq_none_iff]
      intro q hq
      have hq' := List.mem_reverse.mp hq
      have : q.1 ∈ P := (List.of_mem_zip (a := q.1) (b := q.2) hq').1
      have ne : p ≠ q.1 := by rintro e; exact (List.nodup_cons.mp nd).1 (e ▸ this)
      simpa using ne
    show ((p, w) :: P.zip vs).reverse.lookup p = _
    rw [List.reverse_cons, List.lookup_append, out]
    simp
  | p :: P, w :: vs, i + 1, nd, h1, h2 => by
    have := rev_get (i := i) (List.nodup_cons.mp nd).2 (by simpa using h1) (by simpa using h2)
    show ((p, w) :: P.zip vs).reverse.lookup x = _
    rw [List.reverse_cons, List.lookup_append, this]
    rfl
/-- the context of its body -/
def cxS (P : Program) (w : World) (K : PySem.W.Frag) (mg : Str → Option Value) (base : Heap) (N : List Str) (qual : Str) (scope : Scope) (f : Addr) (cd : Value) (cc : Addr) (A : Around) (outer : List Env) (s : Shared) (H : Hp) : Cx where
  prog := P
  w := w
  K := K
  mg := mg
  base := base
  A := A.deeper (PySem.W.ksEnv qual scope s.heap.objs.size f cd cc)
  N := N
  s_0 := s
  H_0 := H
  env := PySem.W.ksEnv qual scope s.heap.objs.size f cd cc
  outer := outer
  stack := PySem.W.ksEnv qual scope s.heap.objs.size f cd cc :: outer
  ex := []
  calm := true
  fn := fun _ => false
  pn := []
  xe := fun _ _ => False
section
variable {P : Program} {w : World} {K : PySem.W.Frag} {mg : Str → Option Value} {base : Heap}
theorem inv_super {ps : List Str} {qual : Str} {scope : Scope} {f cc : Addr} {cd : Value} {A : Around} {outer : List Env} {s : Shared} {h1 : Heap} {tk : Nat} {H : Hp} {us : List Value} {vs : List V} {D : Addr} {lk : Value} {ld : Option Addr} {ls : Array (Option Value)}
    (S : ScS ps scope) (hd : A.handled = none) (e0 : Env0 P w K mg base A outer s H) (hl : vs.length = ps.length) (r : Vals vs us) (hcc : K.lookup cc = some ⟨lk, ld, .cell (some (.ref D)), ls⟩)
    (ns : h1.Ns s.heap.objs.size (fun y => (ps.zip us).reverse.lookup y)) (hk : ∀ b o, s.heap.get? b = some o → h1.get? b = some o) :
    Inv (cxS P w K mg base ps qual scope f cd cc A outer s H) [] (vs.map some) H { s with heap := h1, toks := tk } := by
  have KX : K.In s.heap := e0.mod.kin.keeps fun b o e => (e0.bs b o e).1
  have one : ∀ {x : Str} {c : Addr}, ([("__class__", cc)] : List (Str × Addr)).lookup x = some c → x = "__class__" ∧ c = cc := by
    intro x c h
    simp only [List.lookup] at h
    split at h
    · rename_i q
      exact ⟨by simpa using q, by cases h; rfl⟩
    · cases h
  have hcb : base.get? cc = some ⟨lk, ld, .cell (some (.ref D)), ls⟩ := e0.mod.kin _ _ hcc
  have noA : ∀ b : Addr, b ∉ (cxS P w K mg base ps qual scope f cd cc A outer s H).ex := fun b z => absurd (show b ∈ ([] : List Addr) from z) (by simp)
  refine ⟨⟨e0.mod, S.kind, rfl, rfl, Nat.le_refl _, fun y z c h1 h2 => (one h1).1.trans (one h2).1.symm, fun y hy => ?_, fun y c q _ => absurd (show false = true from q) (by decide), fun _ => hd, Around.frames_deeper e0.frames, .inr ⟨rfl, rfl⟩, fun b z => absurd z (noA b), e0.bs, e0.bsz, fun b _ _ => noA b, fun b z => absurd z (noA b), e0.funs, e0.frf⟩,
    rfl, e0.bare, Un.kept hk, ⟨_, ns, fun i y v g1 g2 g3 => ?_⟩, fun y c h => ?_, e0.hok.fresh (Nat.le_refl _), fun y c h => ?_, fun p hp => absurd (show p ∈ ([] : List (Addr × Obj)) from hp) (by simp), e0.hok.kept hk, ?_⟩
  · have hy : scope.names.lookup y = some .cell ∨ scope.names.lookup y = some .free := hy
    rcases hy with hy | hy
    · exact absurd rfl (S.nocell _ (PySem.mem_of_lookup hy))
    · obtain rfl := S.free _ (PySem.mem_of_lookup hy) rfl
      exact ⟨cc, rfl⟩
  · have g2' : (vs.map some)[i]? = some (some v) := g2
    rw [List.getElem?_map] at g2'
    obtain ⟨v', ha, e⟩ := Option.map_eq_some_iff.mp g2'
    obtain rfl : v' = v := Option.some.inj e
    obtain ⟨u, hu, rv⟩ := r.get ha
    exact ⟨u, rv, .inl ⟨S.par y (List.mem_of_getElem? g1), rev_get S.nd g1 hu⟩⟩
  · obtain ⟨rfl, rfl⟩ := one h
    exact ⟨_, _, hk _ _ (KX _ _ hcc), rfl⟩
  · obtain ⟨rfl, rfl⟩ := one h
    exact (e0.bs _ _ hcb).2
  · show (vs.map some).length = ps.length
    rw [List.length_map, hl]
/-- the first statement super().__init__(a, ..), then the rest -/
theorem ok_super {x qual : Str} {st : Stmt} {f f2 C D : Addr} {fd : FuncData} {ps : List Str} {k : Nat} {file self : Str} {sp sp2 : Sp} {rest : List Stmt} {e : Expr} {es : List Expr} {p0 p1 ap pos sps : Pos} {m : Str}
    (F : FunS K file x qual st f D fd) (S : ScS ps (defScope st)) (G2 : FnR P w K mg base CX0 k f2 sp2) (fi : PySem.W.fnIn K f2 = true) (ty : PySem.W.typeIn K (.ref f2) = some (.type "function"))
    (hcd : ∃ cdD, PySem.W.clsIn K D = some cdD) (hsub : PySem.W.mroIn K C (.ref D) = some true) (hm : PySem.W.ks_superIn K C D m = some (some (.ref f2))) (hop : PySem.W.nsIn K cStatics "thirdparty.any" = some none) (hsu : mg "super" = none)
    (hfile : ((P.main.file : Str) == file) = true) (htop : (P.main.scope.names.lookup ("super" : Str)).isSome = false)
    (hb : defBody st = .Expr (.Call (.Attribute (.Call (.Name "super" p0) [] [] p1) m ap) (e :: es) [] pos) sps :: rest) (hself : ∃ ar, ((defArgs st).posonlyargs ++ (defArgs st).args).head? = some ar ∧ ar.arg = self) (h0 : ps[0]? = some self)
    (hn : (m == ("__class__" : Str)) = false)
    (hev : ∀ env, ∃ pl, eval (.Call (.Attribute (.Call (.Name "super" p0) [] [] p1) m ap) (e :: es) [] pos) env = (do
      let ov ← attributeBase (.Call (.Name "super" p0) [] [] p1) m env (eval (.Call (.Name "super" p0) [] [] p1) env)
      standAt ap.atName
      let (g, first) ← holding [ov] (getMethod ov m pl)
      callWith pos g first (backTo pos (starEach (e :: es) env)) []))
    (hsw : ∀ env, swapsWith (.Call (.Attribute (.Call (.Name "super" p0) [] [] p1) m ap) (e :: es) [] pos) none sps.line env = pure false)
    (hst : ∀ env, starEach (e :: es) env = (false, eval e env) :: starEach es env) (hpl : ∀ env, (backTo pos (starEach es env)).any (·.1) = false)
    (many : ∀ vs H Q E, sp vs H Q E → vs.length = ps.length) (hE : ∀ {vs H Q E}, sp vs H Q E → sp vs H Q E0)
    (want : ∀ (A : Around) (cda cc : Addr) (outer : List Env) (s : Shared) (H : Hp) (vs : List V) (Q : VK), Room (k + 1) A → sp vs H Q E0 → ∃ (x dx : Addr) (fs : List (Str × V)) (t : TA) (u : TS), vs[0]? = some (.ref x) ∧ H x = some (.ins C dx fs) ∧ PA (cxS P w K mg base ps qual (defScope st) f (.ref cda) cc A outer s H) (e :: es) t ∧
      PSs (cxS P w K mg base ps qual (defScope st) f (.ref cda) cc A outer s H) rest u ∧ t (vs.map some) H (fun ws H1 => sp2 (.ref x :: ws) H1 (fun _ H2 => u { nx := fun _ H' => Q .non H', rt := Q } (vs.map some) H2) E0)) :
    FnOk P w K mg base CX0 (k + 1) f fd ps sp := by
  refine ⟨many, fun A outer s H args us vs Q E hr e0 bind rel hsp => ?_⟩
  obtain ⟨oc, od, kV, doc, pm, an, cda, cc, ct, osl, ck, cdd, cvs, ccs, tf, lk, ld, ls, rfl, lf, hcode, lcda, hvs, lcc⟩ := F.ex
  have old : ∀ b o, base.get? b = some o → s.heap.get? b = some o := fun b o e => (e0.bs b o e).1
  have KX : K.In s.heap := e0.mod.kin.keeps old
  have lim : s.heap.NoLimit := e0.mod.nolimit.keeps old
  refine ks_codeAny_call_defAt (body := defBody st) (binds := ps.zip us) hr.depth (KX _ _ lf) rfl lim (PySem.W.codeRec_of KX hcode) rfl bind S.nocell (fun y hy => S.par _ (List.of_mem_zip (a := y.1) (b := y.2) hy).1) (fun h1 ns hk => ?_) S.co S.gen S.kind
  have I := inv_super (qual := qual) (f := f) (cd := .ref cda) (tk := s.toks + (ps.zip us).length) S hr.hd e0 (many _ _ _ _ hsp) rel lcc ns hk
  obtain ⟨x, dx, fs, t, u, hx0, hx, pa, pr, q⟩ := want A cda cc outer s H vs Q hr (hE hsp)
  obtain ⟨mA, O, _⟩ := ins_get I.hok hx
  obtain ⟨od', J, _⟩ := O.look
  obtain ⟨cdD, hcD⟩ := hcd
  have KX1 := I.kIn
  obtain ⟨oD, hD1, hD2⟩ : ∃ oD, h1.get? D = some oD ∧ oD.data = .cls cdD := by
    have hcD' := hcD
    unfold PySem.W.clsIn at hcD'
    split at hcD'
    · rename_i ho
      cases hcD'
      exact ⟨_, KX1 _ _ ho, rfl⟩
    · cases hcD'
  obtain ⟨mb, hb1, hb2⟩ := I.mod.blt
  obtain ⟨ar, har, ear⟩ := hself
  obtain ⟨ux, hux, rux⟩ := rel.get hx0
  obtain rfl : ux = Value.ref x := rux
  have hC : ∃ cdC, PySem.W.clsIn K C = some cdC := by
    cases z : PySem.W.clsIn K C with
    | some c => exact ⟨c, rfl⟩
    | none =>
      unfold PySem.W.ks_superIn at hm
      rw [z] at hm
      cases hm
  obtain ⟨cdC, hcC⟩ := hC
  have hm' : PySem.W.alongIn K m ((cdC.mro.dropWhile (· != .ref D)).drop 1) = some (some (.ref f2)) := by
    unfold PySem.W.ks_superIn at hm
    rw [hcC] at hm
    exact hm
  have key : PySem.wpAt (model P w) (cxS P w K mg base ps qual (defScope st) f (.ref cda) cc A outer s H).A (.func (defBody st) (cxS P w K mg base ps qual (defScope st) f (.ref cda) cc A outer s H).env) (execs (defBody st) (cxS P w K mg base ps qual (defScope st) f (.ref cda) cc A outer s H).env)
      (SP (cxS P w K mg base ps qual (defScope st) f (.ref cda) cc A outer s H) [] { nx := fun _ H' => Q .non H', rt := Q }) (fun _ _ => False) { s with heap := h1, toks := s.toks + (ps.zip us).length } := by
    have e1 := congrArg (fun b => execs b (cxS P w K mg base ps qual (defScope st) f (.ref cda) cc A outer s H).env) hb
    rw [show execs (defBody st) (cxS P w K mg base ps qual (defScope st) f (.ref cda) cc A outer s H).env = _ from e1]
    obtain ⟨pl, epl⟩ := hev (cxS P w K mg base ps qual (defScope st) f (.ref cda) cc A outer s H).env
    refine ks_wpAt_execs_cons (ks_wpAt_Expr_any (ks_wpAt_MethodCall ?_ epl) (by show ((defScope st).kind == .module && _) = false; rw [S.kind]; rfl) (hsw _))
    refine ks_wpAt_super_base S.sup S.cls hn rfl (KX1 _ _ lf) rfl har rfl (KX1 _ _ lcda) rfl hvs hfile htop ?_
    refine PySem.W.ks_loadName_global S.kind S.sup (PySem.Calls.loadGlobal_builtin (I.mod.glob.keeps I.bk) hsu (hb1.keeps I.bk) ((hb2 _ (by decide)).trans (by rfl)) ⟨rfl, ?_⟩)
    refine wpAny_loadName_free S.kind S.cls rfl ⟨_, KX1 _ _ lcc, rfl⟩ ?_
    refine wpAny_loadName_local S.kind (by rw [ear]; exact S.par self (List.mem_of_getElem? h0)) ns (by rw [ear]; exact rev_get S.nd h0 hux) ?_
    refine ks_wpAny_isType_cls hD1 hD2 ⟨rfl, ?_⟩
    refine ks_wpAny_call_super hD1 hD2 J.at_ J.cls (fun c e => ?_) (PySem.W.looks_mroIn KX1 hsub) (fun h' e ke => ?_)
    · have z := J.no
      unfold PySem.W.notCls at z
      rw [e] at z
      cases z
    have I1 := ClX.pin_new (t' := s.toks + (ps.zip us).length) I ke (Nat.le_refl _) e (fun v z => nomatch z)
    obtain ⟨of2, hof2, hof2c⟩ : ∃ of, h'.get? f2 = some of ∧ of.cls = .type "function" := by
      have ty' : (K.lookup f2).map (·.cls) = some (.type "function") := ty
      obtain ⟨of, z1, z2⟩ := Option.map_eq_some_iff.mp ty'
      exact ⟨of, I1.kIn _ _ z1, z2⟩
    refine ks_wpAny_getMethod_super e (PySem.W.looks_opaque I1.kIn hop) (l₀ := cdC.mro) (fun A Q E s k q => wpAny_bind ((PySem.W.looks_clsIn I1.kIn hcC) A _ E s k (wpAny_pure q))) rfl I1.kIn hm' hof2 hof2c (PySem.W.ks_ne KX1 J hcC) hn ?_
    have I2 := ClX.met_new (g := f2) (C := x) I1
    refine ClX.callwith_cm I2 (ClX.base_none I1 (Nat.le_refl _)) fi (thn (pa.run pos _ _ _ H _ I2 q) fun ws s3 ⟨zs, H2, I3, rv, q2⟩ => ⟨⟨ClX.pin_at I3, I3.kIn⟩, ?_⟩) (hst _) (hpl _)
    refine thn (ClX.run_cm G2 (hr.deeper _) pass0 I3 rv q2) fun r s4 ⟨v4, H4, I4, _, q4⟩ => ?_
    exact PySem.wpAt_of_wpAny (pr.run [] _ _ H4 _ (ClX.unpin I4) q4)
  refine ks_wpAt_mono key (fun fl s' hs => ?_) fun _ _ z => False.elim z
  cases fl with
  | ret v =>
    obtain ⟨v', σ', H', J, rv, q⟩ := hs
    exact ⟨v', H', J.os, J.bare, J.base, J.hok, rv, q⟩
  | next =>
    obtain ⟨σ', H', J, q⟩ := hs
    exact ⟨V.non, H', J.os, J.bare, J.base, J.hok, rfl, q⟩
  | brk =>
    obtain ⟨_, _, _, q⟩ := hs
    exact q.elim
  | cont =>
    obtain ⟨_, _, _, q⟩ := hs
    exact q.elim
end
/-! ### sets of texts -/
/-- the text that an entry of a set's table holds -/
def txV : Value → Str
  | .str k _ => k
  | _ => Str.empty
def txOf (e : Int × Value) : Str := txV e.2
/-- an entry is a text with its own hash -/
def TxE (w : World) (e : Int × Value) : Prop := ∃ k u, e.2 = Value.str k u ∧ e.1 = hashStr w k
/-- the table of a set whose members are ks -/
structure TxT (w : World) (es : Array (Int × Value)) (t : SetTable) (ks : List Str) : Prop where
  ent : ∀ e ∈ es.toList, TxE w e
  mem : (es.toList.map txOf).Perm ks
  nd : ks.Nodup
  few : es.size < scanBound
  fit : t.fits es.size = true
  ris : Ris t.place.toList
  led : w.params.followText "set-order" = true ∨ t.led = true
/-- at a the set of the texts ks -/
def TxS (w : World) (h : Heap) (a : Addr) (ks : List Str) : Prop := ∃ (o : Obj) (es : Array (Int × Value)) (ep : Nat) (t : SetTable), h.get? a = some o ∧ o.ExactSet ∧ o.data = .set es ep t ∧ TxT w es t ks
theorem TxS.keep {w : World} {h h' : Heap} {a : Addr} {ks : List Str} (R : TxS w h a ks) (k : ∀ o, h.get? a = some o → h'.get? a = some o) : TxS w h' a ks :=
  let ⟨o, es, ep, t, ho, r⟩ := R
  ⟨o, es, ep, t, k o ho, r⟩
theorem tx_is {P : Program} {w : World} {e : Int × Value} (g : TxE w e) (k : Str) : (PySem.strKind P w).is k e.2 = true ↔ txOf e = k := by
  obtain ⟨k0, u, h1, _⟩ := g
  have z : txOf e = k0 := by unfold txOf; rw [h1]; rfl
  rw [z, h1]
  constructor
  · intro q
    exact (PySem.strKind P w).inj _ _ _ (strKind_is P w k0 u) q
  · rintro rfl
    exact strKind_is P w _ u
section
variable {P : Program} {w : World} {A : Around} {E : Value → Shared → Prop} {s : Shared} {a : Addr}
theorem TxT.elems {es : Array (Int × Value)} {t : SetTable} {ks : List Str} (T : TxT w es t ks) : ElemsOf (PySem.strKind P w) es.toList := fun e he => by
  obtain ⟨k, u, h1, h2⟩ := T.ent e he
  exact ⟨⟨k, by rw [h1]; exact strKind_is P w k u, h2⟩, by rw [h1]; rfl⟩
theorem TxT.relaid {es es' : Array (Int × Value)} {t t' : SetTable} {ks : List Str} (T : TxT w es t ks) (p : es'.toList.Perm es.toList) (hf : t'.fits es'.size = true) (hr : Ris t'.place.toList) (hl : t'.led = t.led) : TxT w es' t' ks := by
  have n : es'.size = es.size := by
    rw [← Array.length_toList, ← Array.length_toList]
    exact p.length_eq
  exact ⟨fun e he => T.ent e (p.mem_iff.mp he), (p.map txOf).trans T.mem, T.nd, n ▸ T.few, hf, hr, by rw [hl]; exact T.led⟩
theorem tx_store {h : Heap} {o : Obj} {es es' : Array (Int × Value)} {ep : Nat} {t t' : SetTable} (ho : h.get? a = some o) (hd : o.data = .set es ep t) : (h.update a (Obj.putSet es' t')).get? a = some { o with data := .set es' (ep + 1) t' } :=
  L2.store_at ho hd
theorem tx_tail {g : Bool → Sem Unit} (free : ∀ (b : Bool) (r : Shared) (Z : Unit → Shared → Prop), Z () r → wpAny (model P w) A (g b) Z E r) {o : Obj} {es es1 : Array (Int × Value)} {ep : Nat} {t t2 : SetTable} {ks : List Str} (ho : s.heap.get? a = some o) (hx : o.ExactSet)
    (hd : o.data = .set es ep t) (T : TxT w es1 t2 ks) {wd : Bool} {Z : Option Bool → Shared → Prop} (hZ : ∀ h', Heap.SameBut a s.heap h' → TxS w h' a ks → Z (some true) { s with heap := h' }) :
    wpAny (model P w) A (storeSet a es1 t2 >>= fun _ => if (!wd && t2.tooFull) = true then g (relayAll t2 es1 (SetTable.grown es1.size)).2.2 >>= fun _ => storeSet a (relayAll t2 es1 (SetTable.grown es1.size)).1 (relayAll t2 es1 (SetTable.grown es1.size)).2.1 >>= fun _ => pure (some true) else pure (some true)) Z E s := by
  refine wpAny_bind (wpAny_storeSet_of ho hd ?_ (fits_of_scanBound T.few))
  have o1 := tx_store (es' := es1) (t' := t2) ho hd
  have b1 := Heap.SameBut.update s.heap a (Obj.putSet es1 t2)
  split
  · have T2 := T.relaid (relayAll_perm t2 es1 (SetTable.grown es1.size)) (relayAll_fits t2 es1 _) (L2.relayAll_ris t2 es1 _) (L2.relayAll_led t2 es1 _)
    revert T2
    generalize relayAll t2 es1 (SetTable.grown es1.size) = z
    intro T2
    refine wpAny_bind (free _ _ _ (wpAny_bind (wpAny_storeSet_of o1 rfl ?_ (fits_of_scanBound T2.few))))
    exact wpAny_pure (hZ _ (b1.trans (Heap.SameBut.update _ a _)) ⟨_, z.1, _, z.2.1, tx_store (es' := z.1) (t' := z.2.1) o1 rfl, hx, rfl, T2⟩)
  · exact wpAny_pure (hZ _ b1 ⟨_, es1, _, t2, o1, hx, rfl, T⟩)
theorem tx_add {ks : List Str} {k : Str} {u : Tok} {Z : Bool → Shared → Prop} (R : TxS w s.heap a ks) (room : ks.length + 1 < scanBound)
    (hZ : ∀ h' b ks', Heap.SameBut a s.heap h' → TxS w h' a ks' → (∀ x, x ∈ ks' ↔ x = k ∨ x ∈ ks) → ks'.length ≤ ks.length + 1 → Z b { s with heap := h' }) : wpAny (model P w) A (setAddHashed a (.str k u) ((PySem.strKind P w).hash k)) Z E s := by
  obtain ⟨o, es, ep, t, ho, hx, hd, T⟩ := R
  have hsc : (Value.str k u).scannable = true := rfl
  unfold setAddHashed setAddHashedIn
  refine wpAny_holding (wpAny_bind (wpAny_setState_of ho hd T.fit ?_))
  show wpAny _ _ (if byScan (.str k u) es = true then _ else _) _ _ _
  rw [if_pos (byScan_of hsc T.few (T.elems (P := P)))]
  unfold setAddByScan
  refine wpAny_bind (wpAny_bind (wpAny_rule (wpAny_bind (wpAny_setScan_of (strKind_is P w k u) ho hd T.fit T.elems ?_))))
  cases hf : es.toList.findIdx? (fun e => (PySem.strKind P w).is k e.2) with
  | some j =>
    obtain ⟨hj, pj, _⟩ := List.findIdx?_eq_some_iff_getElem.mp hf
    have hk : k ∈ ks := T.mem.mem_iff.mp (List.mem_map.mpr ⟨_, List.getElem_mem hj, (tx_is (T.ent _ (List.getElem_mem hj)) k).mp pj⟩)
    refine wpAny_pure (wpAny_pure (hZ s.heap _ ks (Heap.SameBut.refl a s.heap) ⟨o, es, ep, t, ho, hx, hd, T⟩ (fun x => ⟨.inr, fun q => q.elim (fun e => e ▸ hk) id⟩) (Nat.le_succ _)))
  | none =>
    have hk : k ∉ ks := fun q => by
      obtain ⟨e, he, ee⟩ := List.mem_map.mp (T.mem.mem_iff.mpr q)
      have c := List.findIdx?_eq_none_iff.mp hf e he
      rw [(tx_is (T.ent e he) k).mpr ee] at c
      cases c
    have gw : ∀ (b : Bool) {r : Shared} {Y : Unit → Shared → Prop}, Y () r → wpAny (model P w) A (match b with | true => rule "set.scan.the-table-gave-way" | false => pure ()) Y E r := fun b r Y q => by
      cases b
      · exact wpAny_pure q
      · exact wpAny_rule q
    have pm := layNew_perm t es ((PySem.strKind P w).hash k) (.str k u)
    have f1 := layNew_fits t es ((PySem.strKind P w).hash k) (.str k u)
    have r1 := L2.layNew_ris t es ((PySem.strKind P w).hash k) (.str k u) T.ris
    have l1 := L2.layNew_led t es ((PySem.strKind P w).hash k) (.str k u)
    dsimp only
    revert pm f1 r1 l1
    generalize layNew t es ((PySem.strKind P w).hash k) (.str k u) = z
    obtain ⟨es1, t1, wd, gave⟩ := z
    dsimp only
    intro pm f1 r1 l1
    rw [Array.toList_push] at pm
    have pc : es1.toList.Perm (((PySem.strKind P w).hash k, Value.str k u) :: es.toList) := pm.trans (List.perm_append_singleton _ _)
    have n1 : es1.size = es.size + 1 := by
      rw [← Array.length_toList, pc.length_eq, List.length_cons, Array.length_toList]
    have n2 : ks.length = es.size := by
      rw [← T.mem.length_eq, List.length_map, Array.length_toList]
    have mk : ∀ t2 : SetTable, t2.fits es1.size = true → Ris t2.place.toList → t2.led = t1.led → TxT w es1 t2 (k :: ks) := fun t2 q1 q2 q3 =>
      ⟨fun e he => (List.mem_cons.mp (pc.mem_iff.mp he)).elim (fun q => by rw [q]; exact ⟨k, u, rfl, rfl⟩) (T.ent e), (pc.map txOf).trans (T.mem.cons k), List.nodup_cons.mpr ⟨hk, T.nd⟩, by rw [n1, ← n2]; exact room, q1, q2, by rw [q3, l1]; exact T.led⟩
    have fin : ∀ h', Heap.SameBut a s.heap h' → TxS w h' a (k :: ks) → Z true { s with heap := h' } := fun h' sb r => hZ h' true (k :: ks) sb r (fun x => List.mem_cons) (Nat.le_refl _)
    refine wpAny_bind (gw _ ?_)
    split
    · refine wpAny_bind ?_
      rw [hashByValue_scannable 8 hsc]
      refine wpAny_pure (tx_tail (fun b r Y q => gw b q) ho hx hd (mk _ ?_ ?_ ?_) fun h' sb r => wpAny_pure (fin h' sb r))
      · first | (split <;> first | exact f1 | exact SetTable.fits_plain_off f1) | exact f1
      · first | (split <;> exact r1) | exact r1
      · first | (split <;> rfl) | rfl
    · refine wpAny_bind (wpAny_pure ?_)
      simp only [↓reduceIte]
      exact tx_tail (fun b r Y q => gw b q) ho hx hd (mk t1 f1 r1 rfl) fun h' sb r => wpAny_pure (fin h' sb r)
end
/-! ### set(a list of texts), sorted(a set of texts) -/
abbrev newSetO (w : World) : Obj := { cls := .type "set", dict := none, data := .set #[] 0 (.fresh 0 0 (!w.params.followText "set-order")) }
theorem tx_new {w : World} {h : Heap} {a : Addr} (e : h.get? a = some (newSetO w)) : TxS w h a [] := by
  refine ⟨_, #[], 0, _, e, ⟨rfl, rfl, rfl⟩, rfl, fun e he => ?_, .nil, List.nodup_nil, by decide, by rfl, List.Pairwise.nil, ?_⟩
  · simp at he
  · show _ ∨ (!w.params.followText "set-order") = true
    cases w.params.followText "set-order"
    · exact .inr rfl
    · exact .inl rfl
section
variable {P : Program} {w : World} {A : Around} {E : Value → Shared → Prop} {s : Shared}
theorem tx_fill {I S : Addr} {fp wr : List Addr} {G : Array GenState → Array GenState → Prop} {n : Nat} {Pv : Nat → Value → Prop} {St : Nat → Shared → Prop} {Z : Result → Shared → Prop} (W : WalksS P w A.in1 I fp wr G n Pv St) (nS : S ∉ fp) (xs : List Str) (en : n = xs.length) (room : xs.length + 1 < scanBound)
    (txt : ∀ i v, Pv i v → ∃ k u, xs[i]? = some k ∧ v = .str k u) : ∀ (m i : Nat) (s : Shared), n - i = m → i ≤ n → St i s → (∃ ks, TxS w s.heap S ks ∧ (∀ x, x ∈ ks ↔ x ∈ xs.take i) ∧ ks.length ≤ i) →
      (∀ s' ks, Moved (S :: wr) G s s' → TxS w s'.heap S ks → (∀ x, x ∈ ks ↔ x ∈ xs) → ks.length ≤ n → Z (.ok (.ret .none)) s') → codeAny (model P w) A (.builtin "set.update.loop" ⟨[.ref S, .ref I], []⟩) Z s := by
  have nW : S ∉ wr := fun q => nS (W.sub _ q)
  have up : ∀ b ∈ wr, b ∈ S :: wr := fun b q => List.mem_cons_of_mem _ q
  intro m
  induction m with
  | zero =>
    rintro i s hm hi st ⟨ks, R, sub, len⟩ fin
    obtain rfl : i = n := by omega
    rw [List.take_of_length_le (by omega)] at sub
    refine codeAny_builtin PyProof.Rows.F.entry_set_update_loop ?_
    rw [Around.under_plainId PyProof.Rows.F.plain_set_update_loop _]
    show wpAny _ A.in1 (pyNext (.ref I) >>= _) _ _ _
    refine wpAny_bind (W.done s _ _ st fun s' mv => ?_)
    exact wpAny_pure (fin s' ks (mv.mono up) (R.keep fun o e => mv.heap S o nW e) sub len)
  | succ m ih =>
    rintro i s hm hi st ⟨ks, R, sub, len⟩ fin
    have lt : i < n := by omega
    refine codeAny_builtin PyProof.Rows.F.entry_set_update_loop ?_
    rw [Around.under_plainId PyProof.Rows.F.plain_set_update_loop _]
    show wpAny _ A.in1 (pyNext (.ref I) >>= _) _ _ _
    refine wpAny_bind (W.item i s _ _ lt st fun v s' pv st' mv => ?_)
    obtain ⟨k, u, hk, rfl⟩ := txt i v pv
    have R1 : TxS w s'.heap S ks := R.keep fun o e => mv.heap S o nW e
    show wpAny _ A.in1 (holding [Value.str k u] (setAdd S (.str k u)) >>= _) _ _ _
    refine wpAny_bind (wpAny_holding ?_)
    unfold setAdd
    refine wpAny_holding (wpAny_bind ((PySem.strKind P w).pyHash (k := k) (strKind_is _ _ _ _) ?_))
    refine tx_add (s := { s' with toks := s'.toks + 1 }) R1 (by omega) fun h' b ks' sb R2 mem ln => ?_
    refine wpAny_pure ⟨plainId_quiet PyProof.Rows.F.plain_set_update_loop _, ih (i + 1) _ (by omega) lt (W.frame _ s' _ _ st' (Nat.le_succ _) fun c hc o e => ?_) ⟨ks', R2, fun x => ?_, by omega⟩ fun s'' ks'' mv2 R3 sub3 ln3 => ?_⟩
    · rw [sb.2 c (fun q : c = S => nS (q ▸ hc))]
      exact e
    · rw [mem x, List.take_add_one, hk, List.mem_append, sub x]
      exact ⟨fun q => q.elim (fun e => .inr (by rw [e]; exact List.mem_singleton.mpr rfl)) .inl, fun q => q.elim .inr fun e => .inl (List.mem_singleton.mp e)⟩
    · refine fin s'' ks'' (Moved.trans W.gtrans ((mv.mono up).then_heap (Nat.le_succ _) fun c o hc e => ?_) mv2) R3 sub3 ln3
      rw [sb.2 c (fun q : c = S => hc (by rw [q]; exact List.mem_cons_self))]
      exact e
set_option maxHeartbeats 8000000 in
theorem tx_make {l : Addr} {its : Array Value} (xs : List Str) {Z : Value → Shared → Prop} (calm : A.handled = none) (hl : s.heap.IsList l its) (hx : StrsAre its.toList xs) (room : xs.length + 1 < scanBound)
    (hZ : ∀ (h' : Heap) (tk : Nat) (ks : List Str), TxS w h' s.heap.objs.size ks → (∀ x, x ∈ ks ↔ x ∈ xs) → ks.length ≤ xs.length → (∀ b o, s.heap.get? b = some o → h'.get? b = some o) → Z (.ref s.heap.objs.size) { s with heap := h', toks := tk }) :
    wpAny (model P w) A (call (.type "set") [.ref l]) Z E s := by
  have many : its.size = xs.length := by
    have q := StrsAre.len_eq hx
    rw [Array.length_toList] at q
    exact q
  obtain ⟨_, _, m1⟩ := PySem.F.called_set.mro; have m2 := PySem.F.called_set.made; have m3 := PySem.F.called_set.sub
  refine wpAny_call (codeAny_of_tree ?_)
  show wpAny _ _ (callAny (.type "set") ⟨[.ref l], []⟩) _ _ _
  refine wpAny_pure ⟨Code.quiet_builtin _ (by decide +kernel), codeAny_builtin PySem.F.entry_type_call ?_⟩
  rw [Around.under_plain (weight_type_call_type "set" [.ref l] []) rfl]
  have c1 := PySem.F.called_set.notType; have c2 := PySem.F.called_set.canCreate; have c3 := PySem.F.typeCall_set_1 (.ref l)
  repeat (any_goals (first | assumption | wp_step))
  refine codeAny_mono (L2.code_set_led1 (.ref l) (E := E) (Q₁ := fun v r => v = .ref s.heap.objs.size ∧ r = { s with heap := s.heap.push (newSetO w) }) ⟨rfl, rfl⟩) fun res r1 hr => ?_
  match res, hr with
  | .error e, hr => exact hr
  | .ok (.ret v), hr =>
    obtain ⟨rfl, rfl⟩ := hr
    have at0 : (s.heap.push (newSetO w)).get? s.heap.objs.size = some (newSetO w) := Heap.get?_push_size _ rfl
    have ty0 : Shared.TypeIs { s with heap := s.heap.push (newSetO w) } (.ref s.heap.objs.size) "set" := ⟨_, at0, rfl⟩
    have i1 := PySem.F.called_set.init.lookup; have i2 := PySem.F.called_set.init.bind (.ref s.heap.objs.size)
    repeat (any_goals (first | assumption | wp_step))
    refine codeAny_mono (codeAny_call_builtin (R := wants (fun v r => v = .none ∧ ∃ h' tk ks, r = { s with heap := h', toks := tk } ∧ TxS w h' s.heap.objs.size ks ∧ (∀ x, x ∈ ks ↔ x ∈ xs) ∧ ks.length ≤ xs.length ∧ ∀ b o, s.heap.get? b = some o → h'.get? b = some o) E) PySem.F.called_set.init.plain
      PySem.F.entry_set_init (check_set_init_1 ty0 ?_)) fun res2 r2 hr2 => ?_
    · obtain ⟨⟨ocls, od, odt, osl⟩, e0, e1, nn, e2⟩ := hl
      simp only at e1 e2
      subst e1; subst e2
      have lS : l < s.heap.objs.size := Heap.lt_size e0
      have e3 := Heap.get?_push_of_some (newSetO w) e0
      have d1 := PySem.F.sub_list_set; have d2 := PySem.F.sub_list_frozenset; have d3 : (Value.type "list" == Value.type "dict") = false := by decide
      have l1 : (s.heap.push (newSetO w)).IsList l its := ⟨_, e3, rfl, nn, rfl⟩
      unfold Builtin.«set.__init__» noKeywords Builtin.Frozenset.updateFrom
      generalize hPI : pyIter = PI
      wp_walk
      subst hPI
      refine wpAny_pyIter_list l1 (wpAny_bind (wpAny_runValue ?_))
      have z1 : (s.heap.push (newSetO w)).objs.size = s.heap.objs.size + 1 := Heap.size_push ..
      have far : l ≠ (s.heap.push (newSetO w)).objs.size := by
        rw [z1]
        exact Nat.ne_of_lt (Nat.lt_succ_of_lt lS)
      have out : s.heap.objs.size ∉ [(s.heap.push (newSetO w)).objs.size, l] := by
        rw [z1, List.mem_cons, List.mem_singleton]
        exact fun q => q.elim (Nat.ne_of_lt (Nat.lt_succ_self _)) (Nat.ne_of_gt lS)
      refine tx_fill ((Walks.list (show A.in1.in1.in1.handled = none by simp [calm]) _ l far its).toS) out xs many room (fun i v hv => ?_) (its.size - 0) 0 _ rfl (Nat.zero_le _) ⟨⟨_, Heap.get?_push_size _ rfl, rfl, rfl⟩, l1.push _⟩ ⟨[], tx_new (Heap.get?_push_of_some _ at0), fun _ => Iff.rfl, Nat.le_refl _⟩ fun r ks mv R sub ln => ?_
      · have hi : i < xs.length := by
          rw [← many]
          exact (Array.getElem?_eq_some_iff.mp hv).1
        obtain ⟨u, e⟩ := SS.strs_at hx i v (by rw [Array.getElem?_toList]; exact hv)
        exact ⟨xs[i], u, List.getElem?_eq_getElem hi, by rw [e, List.getD_eq_getElem?_getD, List.getElem?_eq_getElem hi]; rfl⟩
      · obtain ⟨h', g', d', tk', os'⟩ := r
        obtain rfl : g' = s.gens := mv.gens
        obtain rfl : d' = s.drawn := mv.drawn
        obtain rfl : os' = s.os := mv.os
        show wpAny _ _ _ _ _ _
        refine wpAny_pure ?_
        show wpAny _ _ (ret Value.none) _ _ _
        refine wpAny_pure ⟨rfl, h', tk', ks, rfl, R, sub, by omega, fun b o e => ?_⟩
        have b0 : b < s.heap.objs.size := Heap.lt_size e
        refine mv.heap b o ?_ (Heap.get?_push_of_some _ (Heap.get?_push_of_some _ e))
        rw [List.mem_cons, List.mem_singleton, z1]
        exact fun q => q.elim (Nat.ne_of_lt b0) (Nat.ne_of_lt (Nat.lt_succ_of_lt b0))
    · match res2, hr2 with
      | .error e, hr2 => exact hr2
      | .ok (.ret v), hr2 =>
        obtain ⟨rfl, h', tk, ks, rfl, R, sub, ln, kp⟩ := hr2
        repeat (any_goals (first | assumption | wp_step))
        exact hZ _ _ _ R sub ln kp
theorem strs_of : ∀ l : List Value, (∀ v ∈ l, ∃ k u, v = Value.str k u) → ∃ xs, StrsAre l xs ∧ xs.length = l.length ∧ ∀ x ∈ xs, ∃ u, Value.str x u ∈ l
  | [], _ => ⟨[], .nil, rfl, fun _ h => absurd h List.not_mem_nil⟩
  | v :: l, h => by
    obtain ⟨k, u, rfl⟩ := h v List.mem_cons_self
    obtain ⟨xs, h1, h2, h3⟩ := strs_of l fun r hr => h r (List.mem_cons_of_mem _ hr)
    refine ⟨k :: xs, .cons k u h1, by rw [List.length_cons, List.length_cons, h2], fun x hx => ?_⟩
    rcases List.mem_cons.mp hx with rfl | hx
    · exact ⟨u, List.mem_cons_self⟩
    · obtain ⟨r, hr⟩ := h3 x hx
      exact ⟨r, List.mem_cons_of_mem _ hr⟩
end
section
variable {P : Program} {w : World} {A : Around} {E : Value → Shared → Prop} {s : Shared}
theorem strs_tx : ∀ {l : List Value}, (∀ v ∈ l, ∃ k u, v = Value.str k u) → StrsAre l (l.map txV)
  | [], _ => .nil
  | v :: l, h => by
    obtain ⟨k, u, rfl⟩ := h v List.mem_cons_self
    exact .cons k u (strs_tx fun x hx => h x (List.mem_cons_of_mem _ hx))
theorem tx_sorted {a : Addr} {ks : List Str} {Z : Value → Shared → Prop} (R : TxS w s.heap a ks) (calm : A.handled = none)
    (hZ : ∀ s' p (out : Array Value) (c : Nat) (ys : List Str), (∀ b o, s.heap.get? b = some o → s'.heap.get? b = some o) → s'.gens = s.gens → s'.os = s.os → s.heap.objs.size ≤ p → s'.heap.get? p = some (seqObj "list" out c) → StrsAre out.toList ys → ys.Perm ks → sortedS ys = true → Z (.ref p) s') :
    wpAny (model P w) A (call (.builtin "sorted") [.ref a]) Z E s := by
  obtain ⟨o, es, ep, t, ho, hx, hd, T⟩ := R
  refine Calls.call_function_entry kind_sorted plain_sorted entry_sorted (args_sorted1 _) ?_
  unfold Builtin.«sorted»
  refine wpAny_bind (m := checkCount "sorted" 1 1 _) (wpAny_pure (wpAny_bind (L2.collect_set (A := A.in1) calm ⟨o, ho, hx.1, hd⟩ T.fit T.few T.ris T.led fun s1 vs k1 z1 g1 o1 pm => ?_)))
  have hS : StrsAre vs (vs.map txV) := strs_tx fun v hv => by
    obtain ⟨e, he, rfl⟩ := List.mem_map.mp (pm.mem_iff.mp hv)
    obtain ⟨k, u, q, _⟩ := T.ent e he
    exact ⟨k, u, q⟩
  have p1 : (vs.map txV).Perm (es.toList.map txOf) := by
    have q := pm.map txV
    rw [List.map_map] at q
    exact q
  have len : vs.length ≤ sizeLine := by
    rw [pm.length_eq, List.length_map, Array.length_toList]
    exact fits_of_scanBound T.few
  refine wpAny_bind (wpAny_newList ?_ len)
  have at1 : (s1.heap.push (seqObj "list" vs.toArray 0)).get? s1.heap.objs.size = some (seqObj "list" vs.toArray 0) := Heap.get?_push_size _ rfl
  refine wpAny_bind (wpAny_holding (wpAny_call_entry slot_list_sort ⟨_, at1, rfl⟩ entry_list_sort (list_sort_treeKAny strKind_oneLt at1 hS.keysOf (fun v1 v2 rest e => keyKind_strs (by rw [← e]; exact hS)) len fun st' a1 a2 => ⟨_, rfl, ?_⟩) (args_list_sort _)))
  obtain ⟨ys, y1, y2, y3⟩ := sorted_out_str hS a1 a2
  obtain ⟨c, hc⟩ := sortedHeap_at (vs := vs) (out := (arrOf st').map (·.2)) at1
  refine wpAny_pure ⟨_, rfl, hZ _ s1.heap.objs.size _ c ys (fun b u e => ?_) g1 o1 z1 hc y1 (y2.trans (p1.trans T.mem)) y3⟩
  have q := k1 b u e
  have lt := Heap.lt_size q
  show (sortedHeap (s1.heap.push (seqObj "list" vs.toArray 0)) s1.heap.objs.size (vs) ((arrOf st').map (·.2))).get? b = some u
  rw [sortedHeap_old (Nat.ne_of_lt lt) (by rw [size_push']; exact Nat.lt_succ_of_lt lt)]
  exact Heap.get?_push_of_some _ q
end
/-! ### as rules -/
def TxO (w : World) (a : Addr) (ks : List Str) : HO := .ext fun h => TxS w h a ks
section
variable {X : Cx}
theorem txO_new {w : World} {P : Program} {H : Hp} {h : Heap} {a : Addr} {ks : List Str} (R : TxS w h a ks) : ObjOk P w H h a (TxO w a ks) := by
  have ⟨o, _, _, _, ho, _⟩ := R
  exact ⟨R, ⟨o, ho⟩, fun _ _ p k => p.keep k⟩
/-- set(a list of texts) -/
def rSetTx (w : World) (K : PySem.W.Frag) : List V → Hp → VK → Prop := fun xs H Q => ∃ (a : Addr) (ys : List Str), xs = [.ref a] ∧ SqL K H a (ys.map V.str) ∧ ys.length < 4000 ∧ ∀ (p : Addr) (ks : List Str), H p = none → ks.Nodup → (∀ x, x ∈ ks ↔ x ∈ ys) → ks.length ≤ ys.length → Q (.ref p) (upd H p (TxO w p ks))
theorem cr_setTx (calm : X.calm = true) : CallR X (.type "set") (rSetTx X.w X.K) := by
  intro pins s σ H xs us Q I r h
  obtain ⟨a, ys, rfl, hs, hl, q⟩ := h
  obtain ⟨its, rv, at1, _⟩ := I.list hs
  rw [Vals.ref1 r]
  refine tx_make ys (I.ok.hd calm) at1.isList (by rw [List.toList_toArray]; exact rv.strs) (by show ys.length + 1 < 4096; omega) fun h' tk ks R sub ln kp => ?_
  have hn : H s.heap.objs.size = none := I.hok.fresh (Nat.le_refl _)
  exact ⟨.ref s.heap.objs.size, _, I.laid (t' := tk) kp (Nat.le_refl _) (txO_new R), rfl, q _ ks hn (let ⟨_, _, _, _, _, _, _, T⟩ := R; T.nd) sub ln⟩
/-- sorted(a set of texts) -/
def rSortTx (w : World) : List V → Hp → VK → Prop := fun xs H Q => ∃ (a : Addr) (ks : List Str), xs = [.ref a] ∧ H a = some (TxO w a ks) ∧ ∀ (p : Addr) (ys : List Str), H p = none → ys.Perm ks → sortedS ys = true → Q (.ref p) (upd H p (.lst (ys.map V.str)))
theorem cr_sortTx (calm : X.calm = true) : CallR X (.builtin "sorted") (rSortTx X.w) := by
  intro pins s σ H xs us Q I r h
  obtain ⟨a, ks, rfl, ha, q⟩ := h
  have R : TxS X.w s.heap a ks := (I.hok a _ ha).1
  have few : ks.length < 4096 := by
    obtain ⟨_, es, _, _, _, _, _, T⟩ := R
    rw [← T.mem.length_eq, List.length_map, Array.length_toList]
    exact T.few
  rw [Vals.ref1 r]
  refine tx_sorted R (I.ok.hd calm) fun s' p out c ys k g o hp hg hy pm up => ?_
  have hn : H p = none := I.hok.fresh hp
  have hlen : (ys.map V.str).length ≤ sizeLine := by
    rw [List.length_map, pm.length_eq, sizeLine_eq]
    omega
  have J : Inv X pins σ (upd H p (.lst (ys.map V.str))) { s with heap := s'.heap, gens := s'.gens, drawn := s'.drawn, toks := s'.toks } :=
    I.call (ch := []) (Un.laid k hp hn) (I.hok.laid k hp ⟨hlen, out.toList, c, vals_of_strs hy, hg⟩) (by rw [g]; exact I.bare) (fun _ z => nomatch z)
  have e : s' = { s with heap := s'.heap, gens := s'.gens, drawn := s'.drawn, toks := s'.toks } := by
    obtain ⟨_, _, _, _, _⟩ := s'
    cases o
    rfl
  rw [e]
  exact ⟨.ref p, _, J, rfl, q p ys hn pm up⟩
end
/-! ### o.m(a, ..), m a staticmethod of the object's class; o.m(k = v) -/
structure SMeth (K : PySem.W.Frag) (C : Addr) (m : Str) (p g : Addr) : Prop where
  at_ : PySem.W.findIn K (.ref C) m = some (some (.ref p))
  ty : PySem.W.typeIn K (.ref p) = some (.type "staticmethod")
  get : PySem.W.specialIn K (.ref p) "__get__" = some (some (.builtin "staticmethod.__get__"))
  tk : PySem.W.takesIn K (.ref p) = some false
  cp : PySem.W.copiedNames.contains m = false
  rc : ∃ rest, PySem.W.recIn K p "staticmethod" = some (.ref g :: rest)
  kp : PySem.W.keepIn K (.ref g) = true
def tStat (C : Addr) (m : Str) (sp : Sp) (ta : TE) (t : TA) : TE := fun σ H Q => ta σ H fun x H1 => ∃ a dx fs, x = .ref a ∧ H1 a = some (.ins C dx fs) ∧ fs.lookup m = none ∧ t σ H1 fun ws H2 => sp ws H2 Q E0
def tMethK (C : Addr) (m : Str) (sp : Sp) (gV : List V → List V → List V) (ta : TE) (tk : TA) : TE := fun σ H Q => ta σ H fun x H1 => ∃ a dx fs, x = .ref a ∧ H1 a = some (.ins C dx fs) ∧ fs.lookup m = none ∧ tk σ H1 fun zs H2 => sp (gV [.ref a] zs) H2 Q E0
section
variable {X : Cx} {k : Nat} {C p g f : Addr} {sp : Sp} {o e : Expr} {es : List Expr} {kws : List Keyword} {m : Str} {pos apos : Pos} {ta : TE} {t tk : TA} {fd : FuncData} {ps ks : List Str}
theorem pe_stat {pl : Sem Bool} (he : PE X o ta) (c : Cls X.K C) (k1 : SMeth X.K C m p g) (F : FnOk X.prog X.w X.K X.mg X.base CX0 k g fd ps sp) (hr : Room k X.A) (hb : Binds X.K fd ps []) (ha : PA X (e :: es) t)
    (hst : starEach (e :: es) X.env = (false, eval e X.env) :: starEach es X.env := by rfl) (hpl : (backTo pos (starEach es X.env)).any (·.1) = false := by rfl)
    (ht : eval (.Call (.Attribute o m apos) (e :: es) [] pos) X.env = (eval o X.env >>= fun ov => standAt apos.atName >>= fun _ => holding [ov] (getMethod ov m pl) >>= fun q => callWith pos q.1 q.2 (backTo pos (starEach (e :: es) X.env)) (backToKw pos (keywordEach [] X.env))) := by rfl) :
    PE X (.Call (.Attribute o m apos) (e :: es) [] pos) (tStat C m sp ta t) := by
  refine ⟨fun pins s σ H Q I h => ?_⟩
  refine PySem.W.methodCall_KW (pl := pl) (thn (he.run pins s σ H _ I h) fun u s1 ⟨x, H1, I1, rx, a, dx, fs, ex, ea, l, q⟩ => ?_) ht
  subst ex
  obtain rfl : u = Value.ref a := rx
  obtain ⟨mA, O, rr, _, _, _⟩ := ins_get I1.hok ea
  have hn : mA m = none := RelO.none_of (by rw [← l]; exact rr m)
  obtain ⟨od, J, hl⟩ := O.look
  obtain ⟨rest, hrec⟩ := k1.rc
  have hc : PySem.W.isClsIn X.K C = true := by
    obtain ⟨cd, hc, _⟩ := PySem.W.any_some c.hd
    show (PySem.W.clsIn X.K C).isSome = true
    rw [hc]
    rfl
  have pg := PySem.W.plainGet_of (c.get m)
  refine PySem.W.method_usual (r := some (.ref p)) I1.kIn J pg.1 pg.2 k1.at_ ?_ ?_
  · show ((PySem.W.typeIn X.K (.ref p)).any fun t => t != .type "function" && t != .type "method_descriptor" && t != .type "wrapper_descriptor") = true
    rw [k1.ty]
    first | rfl | decide +kernel
  refine PySem.W.get_bind I1.kIn J pg.1 (ClX.find_cm hc k1.at_ k1.get k1.tk k1.cp (by rw [hl m, hn])) pg.2 (wpAny_call (PySem.W.sm_get (s := { s1 with toks := s1.toks + 1 }) I1.kIn hrec (PySem.W.handed_on (by rfl) ?_)))
  have I2 := I1.tok (s1.toks + 1)
  refine PySem.W.callWith_K (first := []) (h₀ := X.base) I2.ok.mod.kin k1.kp (thn (ha.run pos pins _ σ H1 _ I2 q) fun us s2 ⟨vs, H2, I3, r, q2⟩ => ⟨I3.kIn, ?_⟩) hst hpl
  exact run_fn F hr hb .nil pass0 I3 r (by rw [List.append_nil]; exact q2)
theorem pe_methK {pl : Sem Bool} {h : List Value → List Value → List Value} {hV : List V → List V → List V} (he : PE X o ta) (c : Cls X.K C) (hm : Meth X.K C m f) (F : FnOk X.prog X.w X.K X.mg X.base CX0 k f fd ps sp) (hr : Room k X.A) (hb : KBinds X.K fd ps ks h hV) (hkw : PK X kws tk)
    (hall : (backToKw pos (keywordEach kws X.env)).all (·.1.isSome) = true := by rfl) (hks : (backToKw pos (keywordEach kws X.env)).filterMap (·.1) = ks := by rfl) (hpl : ((backTo pos (starEach [] X.env)).any (·.1) || (backToKw pos (keywordEach kws X.env)).any (·.1.isNone)) = false := by rfl)
    (ht : eval (.Call (.Attribute o m apos) [] kws pos) X.env = (eval o X.env >>= fun ov => standAt apos.atName >>= fun _ => holding [ov] (getMethod ov m pl) >>= fun q => callWith pos q.1 q.2 (backTo pos (starEach [] X.env)) (backToKw pos (keywordEach kws X.env))) := by rfl) :
    PE X (.Call (.Attribute o m apos) [] kws pos) (tMethK C m sp hV ta tk) := by
  refine ⟨fun pins s σ H Q I h => ?_⟩
  refine PySem.W.methodCall_KW (pl := pl) (thn (he.run pins s σ H _ I h) fun u s1 ⟨x, H1, I1, rx, a, dx, fs, ex, ea, l, q⟩ => ?_) ht
  subst ex
  obtain rfl : u = Value.ref a := rx
  refine getmeth_ok I1 ea c hm l (PySem.W.callWith_KW0 (first := [.ref a]) (h₀ := X.base) I1.ok.mod.kin hm.kp hall (thn (hkw.run pos pins s1 σ H1 _ I1 q) fun ws s2 ⟨zs, H2, I2, rz, q2⟩ => ⟨I2.kIn, ?_⟩) hpl)
  rw [hks]
  exact run_fnk (us := [.ref a]) (vs := [.ref a]) F hr hb pass0 I2 (.cons rfl .nil) rz q2
end
/-- one value by position, one by keyword -/
def two1 {α : Type} : List α → List α → List α
  | [a], [b] => [a, b]
  | _, _ => []
theorem kb2 {K : PySem.W.Frag} {fd : FuncData} {p1 p2 : Str} (h : ∀ (s : Shared) (a b : Value), K.In s.heap → BindsTo s fd ⟨[a], [(p2, b)]⟩ [(p1, a), (p2, b)]) : KBinds K fd [p1, p2] [p2] two1 two1 := by
  refine ⟨fun s us ws X len => ?_, fun r1 r2 => ?_⟩
  · match us, ws, len with
    | [a], [b], _ => exact h s a b X
  · cases r1 with
    | nil => exact .nil
    | cons q1 r1 =>
      cases r1 with
      | cons _ _ => exact .nil
      | nil =>
        cases r2 with
        | nil => exact .nil
        | cons q2 r2 =>
          cases r2 with
          | cons _ _ => exact .nil
          | nil => exact .cons q1 (.cons q2 .nil)
/-! ### a list by the keys of a dict -/
theorem upd_free {H : Hp} {a e : Addr} {o : HO} (h : upd H a o e = none) : e ≠ a ∧ H e = none := by
  have n : e ≠ a := fun q => by
    rw [q, upd_same] at h
    cases h
  rw [upd_ne n] at h
  exact ⟨n, h⟩
theorem keys_strs {kvs : List (Key × V)} {xs : List Str} (h : kvs.map (·.1) = xs.map Sum.inr) : (kvs.map fun kv => kV kv.1) = xs.map V.str := by
  have e : (kvs.map fun kv => kV kv.1) = (kvs.map (·.1)).map kV := by rw [List.map_map]; rfl
  rw [e, h, List.map_map]
  rfl
theorem lock_keys {σ : L2.St} {H : Hp} {Q : VK} {td te : TE} {i : Nat} {d : Addr} {kvs : List (Key × V)} {xs : List Str} {f : Str → Str} (hd : H d = some (.dK kvs)) (hk : kvs.map (·.1) = xs.map Sum.inr) (hl : xs.length ≤ 900)
    (htd : ∀ (H' : Hp) (Q' : VK), Q' (.ref d) H' → td σ H' Q') (hte : ∀ x ∈ xs, ∀ (H' : Hp) (Q' : VK), Q' (.str (f x)) H' → te ((wipe σ [i]).set i (some (.str x))) H' Q')
    (q : ∀ (D : Addr) (H' : Hp), H D = none → Same H H' → H' D = some (.lst (xs.map fun x => .str (f x))) → Q (.ref D) H') : tLockE (tLc (iKeys td) (gName i) tYes te [i]) σ H Q := by
  refine ⟨d, .dK kvs, hd, trivial, fun od => ?_⟩
  refine htd _ _ ⟨d, od, rfl, .inl ⟨kvs, upd_same, fun D nD => ?_⟩⟩
  have hlen : kvs.length = xs.length := by
    have := congrArg List.length hk
    rw [List.length_map, List.length_map] at this
    exact this
  obtain ⟨nDd, nDH⟩ := upd_free nD
  refine lc_it walk_keys (fun j H' => H' D = some (.lst ((xs.take j).map fun x => .str (f x))) ∧ H' d = some (.frz od (.dK kvs)) ∧ ∀ b o, b ≠ d → H b = some o → H' b = some o) ⟨by rw [upd_same]; rfl, by rw [upd_ne nDd.symm, upd_same], fun b o nb e => by rw [upd_ne (ne_of_none e nDH), upd_ne nb]; exact e⟩ (fun _ _ _ h => h.2.1) ?_ ?_
  · rintro j v H1 H2 hj ⟨hD, hd1, keep⟩ ⟨rfl, k, v', hkv, rfl⟩
    obtain ⟨x, hx, rfl⟩ := key_at hk hkv
    refine ⟨?_, yes_if ?_⟩
    · show ((wipe σ [i]).set i (some (kV (.inr x)))).set i none = σ.set i none
      show ((σ.set i none).set i (some (V.str x))).set i none = σ.set i none
      rw [List.set_set, List.set_set]
    refine hte x (List.mem_of_getElem? hx) _ _ ⟨_, hD, big_lt (by rw [List.length_map, List.length_take]; omega), ?_, ?_, ?_⟩
    · rw [upd_same, List.take_add_one, hx, List.map_append]
      rfl
    · rw [upd_ne nDd.symm]
      exact hd1
    · intro b o nb e
      rw [upd_ne (ne_of_none e nDH)]
      exact keep b o nb e
  · rintro H1 ⟨hD, hd1, keep⟩
    refine ⟨hd1, q D _ nDH (fun b o e => ?_) ?_⟩
    · by_cases hb : b = d
      · rw [hb, upd_same, ← hd, ← hb, e]
      · rw [upd_ne hb]
        exact keep b o hb e
    · rw [upd_ne nDd, hD, List.take_of_length_le (by omega)]
theorem paired_app {α β : Type} {R : α → β → Prop} : ∀ {l1 l2 : List α} {k1 k2 : List β}, Paired R l1 k1 → Paired R l2 k2 → Paired R (l1 ++ l2) (k1 ++ k2)
  | _, _, _, _, .nil, h => h
  | _, _, _, _, .cons a t, h => .cons a (paired_app t h)
/-! ### comprehensions whose elements write nothing but new tuples -/
theorem prd_snoc {α β : Type} {R : α → β → Prop} : ∀ {as : List α} {bs : List β} {a : α} {b : β}, Paired R as bs → R a b → Paired R (as ++ [a]) (bs ++ [b])
  | _, _, _, _, .nil, h => .cons h .nil
  | _, _, _, _, .cons h t, h' => .cons h (prd_snoc t h')
theorem prd_len {α β : Type} {R : α → β → Prop} : ∀ {as : List α} {bs : List β}, Paired R as bs → as.length = bs.length
  | _, _, .nil => rfl
  | _, _, .cons _ t => by rw [List.length_cons, List.length_cons, prd_len t]
theorem filt_snoc {α : Type} {zs : List α} {i : Nat} {x : α} (b : α → Bool) (h : zs[i]? = some x) : (zs.take (i + 1)).filter b = (zs.take i).filter b ++ (if b x = true then [x] else []) := by
  rw [List.take_add_one, h, List.filter_append]
  congr 1
  show [x].filter b = _
  cases e : b x with
  | true => rw [List.filter_cons_of_pos e, List.filter_nil, if_pos rfl]
  | false => rw [List.filter_cons_of_neg (by rw [e]; decide), List.filter_nil, if_neg (by decide)]
theorem take_few {α : Type} (zs : List α) (b : α → Bool) (i : Nat) : ((zs.take i).filter b).length ≤ zs.length := Nat.le_trans (List.length_filter_le _ _) (by rw [List.length_take]; exact Nat.min_le_right _ _)
section
variable {J : It} {n : Nat} {G : Hp → Prop} {Y : Nat → Hp → V → Hp → Prop} {g : TG} {tt : TT} {te tk tv : TE} {vs : List Nat} {σ : L2.St} {H1 : Hp} {D : Addr} {Qd : Hp → Prop} {α : Type}
theorem lc_tups (w : Walk J n G Y) (zs : List α) (val : α → V) (st : α → L2.St) (b : α → Bool) (f1 f2 : α → V) (hn : zs.length = n) (nD : H1 D = none) (few : n ≤ 60000) (hG : ∀ H', Same H1 H' → G H')
    (hY : ∀ i H v H', Y i H v H' → H' = H ∧ ∃ x, zs[i]? = some x ∧ v = val x) (hg : ∀ x ∈ zs, ∀ H' (Q' : L2.St → Hp → Prop), Same H1 H' → Q' (st x) H' → g (val x) (wipe σ vs) H' Q')
    (hw : ∀ x ∈ zs, wipe (st x) vs = wipe σ vs) (ht : ∀ x ∈ zs, ∀ H' (Q' : Bool → Hp → Prop), Same H1 H' → Q' (b x) H' → tt (st x) H' Q')
    (he : ∀ x ∈ zs, b x = true → ∀ H' (Q' : VK), Same H1 H' → (∀ T, H' T = none → Q' (.ref T) (upd H' T (.tup [f1 x, f2 x]))) → te (st x) H' Q')
    (q : ∀ H' ts, Same H1 H' → H' D = some (.lst (ts.map V.ref)) → Paired (fun t x => H' t = some (.tup [f1 x, f2 x]) ∧ H1 t = none ∧ t ≠ D) ts (zs.filter b) → Qd H') :
    ∃ W : Nat → Nat → Hp → Prop, (∃ m, W 0 m (upd H1 D (.lst []))) ∧ ∀ i m H, W i m H →
      (J.stop i H ∧ Qd H) ∨ (J.go i H ∧ ∃ Nx : Hp → Prop, (∀ H', Nx H' → ∃ m', m' < m ∧ W (i + 1) m' H') ∧ ∀ x H', J.yld i H x H' → g x (wipe σ vs) H' fun σ2 H2 => wipe σ2 vs = wipe σ vs ∧ tt σ2 H2 fun b H3 =>
        if b = true then te σ2 H3 fun y H4 => ∃ acc, H4 D = some (.lst acc) ∧ acc.length < sizeLine ∧ Nx (upd H4 D (.lst (acc ++ [y]))) else Nx H3) := by
  refine lc_it w (fun i H => ∃ ts, Same H1 H ∧ H D = some (.lst (ts.map V.ref)) ∧ Paired (fun t x => H t = some (.tup [f1 x, f2 x]) ∧ H1 t = none ∧ t ≠ D) ts ((zs.take i).filter b)) ⟨[], same_upd nD, upd_same, .nil⟩ (fun i H _ h => by obtain ⟨_, h, _⟩ := h; exact hG H h) ?_ ?_
  · rintro i v H H' hi ⟨ts, s1, hD, hp⟩ hy
    obtain ⟨rfl, x, hx, rfl⟩ := hY _ _ _ _ hy
    have hxm := List.mem_of_getElem? hx
    refine hg x hxm _ _ s1 ⟨hw x hxm, ht x hxm _ _ s1 ?_⟩
    have fs := filt_snoc b hx
    cases eb : b x with
    | false =>
      rw [eb, if_neg (by decide), List.append_nil] at fs
      rw [if_neg (by decide)]
      exact ⟨ts, s1, hD, by rw [fs]; exact hp⟩
    | true =>
      rw [eb, if_pos rfl] at fs
      rw [if_pos rfl]
      refine he x hxm eb _ _ s1 fun T nT => ?_
      have nTD : T ≠ D := (ne_of_none hD nT).symm
      have tl : ts.length ≤ zs.length := by rw [prd_len hp]; exact take_few zs b i
      refine ⟨_, by rw [upd_ne nTD.symm]; exact hD, by rw [List.length_map]; exact Nat.lt_of_le_of_lt (show _ ≤ 60000 by omega) (by decide), ts ++ [T], fun c o e => ?_, by rw [upd_same, List.map_append]; rfl, ?_⟩
      · rw [upd_ne (ne_of_none e nD), upd_ne (ne_of_none (s1 _ _ e) nT)]
        exact s1 _ _ e
      · rw [fs]
        refine prd_snoc (hp.mono fun t y h => ⟨?_, h.2⟩) ⟨by rw [upd_ne nTD, upd_same], s1.free nT, nTD⟩
        rw [upd_ne h.2.2, upd_ne (ne_of_none h.1 nT)]
        exact h.1
  · rintro H' ⟨ts, s1, hD, hp⟩
    rw [← hn, List.take_length] at hp
    exact q H' ts s1 hD hp
theorem lc_vals (w : Walk J n G Y) (zs : List α) (val : α → V) (st : α → L2.St) (b : α → Bool) (f : α → V) (hn : zs.length = n) (nD : H1 D = none) (few : n ≤ 60000) (hG : ∀ H', Same H1 H' → G H')
    (hY : ∀ i H v H', Y i H v H' → H' = H ∧ ∃ x, zs[i]? = some x ∧ v = val x) (hg : ∀ x ∈ zs, ∀ H' (Q' : L2.St → Hp → Prop), Same H1 H' → Q' (st x) H' → g (val x) (wipe σ vs) H' Q')
    (hw : ∀ x ∈ zs, wipe (st x) vs = wipe σ vs) (ht : ∀ x ∈ zs, ∀ H' (Q' : Bool → Hp → Prop), Same H1 H' → Q' (b x) H' → tt (st x) H' Q')
    (he : ∀ x ∈ zs, b x = true → ∀ H' (Q' : VK), Same H1 H' → Q' (f x) H' → te (st x) H' Q')
    (q : ∀ H', Same H1 H' → H' D = some (.lst ((zs.filter b).map f)) → Qd H') :
    ∃ W : Nat → Nat → Hp → Prop, (∃ m, W 0 m (upd H1 D (.lst []))) ∧ ∀ i m H, W i m H →
      (J.stop i H ∧ Qd H) ∨ (J.go i H ∧ ∃ Nx : Hp → Prop, (∀ H', Nx H' → ∃ m', m' < m ∧ W (i + 1) m' H') ∧ ∀ x H', J.yld i H x H' → g x (wipe σ vs) H' fun σ2 H2 => wipe σ2 vs = wipe σ vs ∧ tt σ2 H2 fun b H3 =>
        if b = true then te σ2 H3 fun y H4 => ∃ acc, H4 D = some (.lst acc) ∧ acc.length < sizeLine ∧ Nx (upd H4 D (.lst (acc ++ [y]))) else Nx H3) := by
  refine lc_it w (fun i H => Same H1 H ∧ H D = some (.lst (((zs.take i).filter b).map f))) ⟨same_upd nD, upd_same⟩ (fun i H _ h => hG H h.1) ?_ ?_
  · rintro i v H H' hi ⟨s1, hD⟩ hy
    obtain ⟨rfl, x, hx, rfl⟩ := hY _ _ _ _ hy
    have hxm := List.mem_of_getElem? hx
    refine hg x hxm _ _ s1 ⟨hw x hxm, ht x hxm _ _ s1 ?_⟩
    have fs := filt_snoc b hx
    cases eb : b x with
    | false =>
      rw [eb, if_neg (by decide), List.append_nil] at fs
      rw [if_neg (by decide)]
      exact ⟨s1, by rw [fs]; exact hD⟩
    | true =>
      rw [eb, if_pos rfl] at fs
      rw [if_pos rfl]
      refine he x hxm eb _ _ s1 ⟨_, hD, by rw [List.length_map]; have := take_few zs b i; exact Nat.lt_of_le_of_lt (show _ ≤ 60000 by omega) (by decide), fun c o e => ?_, by rw [upd_same, fs, List.map_append]; rfl⟩
      rw [upd_ne (ne_of_none e nD)]
      exact s1 _ _ e
  · rintro H' ⟨s1, hD⟩
    rw [← hn, List.take_length] at hD
    exact q H' s1 hD
theorem dc_vals (w : Walk J n G Y) (zs : List Str) (val : Str → V) (st : Str → L2.St) (b : Str → Bool) (f : Str → V) (hn : zs.length = n) (nd : zs.Nodup) (nD : H1 D = none) (few : n ≤ 60000) (hG : ∀ H', Same H1 H' → G H')
    (hY : ∀ i H v H', Y i H v H' → H' = H ∧ ∃ x, zs[i]? = some x ∧ v = val x) (hg : ∀ x ∈ zs, ∀ H' (Q' : L2.St → Hp → Prop), Same H1 H' → Q' (st x) H' → g (val x) (wipe σ vs) H' Q')
    (hw : ∀ x ∈ zs, wipe (st x) vs = wipe σ vs) (ht : ∀ x ∈ zs, ∀ H' (Q' : Bool → Hp → Prop), Same H1 H' → Q' (b x) H' → tt (st x) H' Q')
    (hk : ∀ x ∈ zs, b x = true → ∀ H' (Q' : VK), Same H1 H' → Q' (.str x) H' → tk (st x) H' Q') (he : ∀ x ∈ zs, b x = true → ∀ H' (Q' : VK), Same H1 H' → Q' (f x) H' → tv (st x) H' Q')
    (q : ∀ H', Same H1 H' → H' D = some (.dK ((zs.filter b).map fun x => (.inr x, f x))) → Qd H') :
    ∃ W : Nat → Nat → Hp → Prop, (∃ m, W 0 m (upd H1 D (.dK []))) ∧ ∀ i m H, W i m H → (J.stop i H ∧ Qd H) ∨ (J.go i H ∧ ∃ Nx : Hp → Prop, (∀ H', Nx H' → ∃ m', m' < m ∧ W (i + 1) m' H') ∧
      ∀ x H', J.yld i H x H' → g x (wipe σ vs) H' fun σ2 H2 => wipe σ2 vs = wipe σ vs ∧ tt σ2 H2 fun b H3 =>
        if b = true then tk σ2 H3 fun y H4 => tv σ2 H4 fun z H5 => ∃ kvs k, y = kV k ∧ H5 D = some (.dK kvs) ∧ kvs.length < sizeLine ∧ Nx (upd H5 D (.dK (putK kvs k z))) else Nx H3) := by
  refine dc_it w (fun i H => Same H1 H ∧ H D = some (.dK (((zs.take i).filter b).map fun x => (.inr x, f x)))) ⟨same_upd nD, upd_same⟩ (fun i H _ h => hG H h.1) ?_ ?_
  · rintro i v H H' hi ⟨s1, hD⟩ hy
    obtain ⟨rfl, x, hx, rfl⟩ := hY _ _ _ _ hy
    have hxm := List.mem_of_getElem? hx
    refine hg x hxm _ _ s1 ⟨hw x hxm, ht x hxm _ _ s1 ?_⟩
    have fs := filt_snoc b hx
    cases eb : b x with
    | false =>
      rw [eb, if_neg (by decide), List.append_nil] at fs
      rw [if_neg (by decide)]
      exact ⟨s1, by rw [fs]; exact hD⟩
    | true =>
      rw [eb, if_pos rfl] at fs
      rw [if_pos rfl]
      refine hk x hxm eb _ _ s1 (he x hxm eb _ _ s1 ⟨_, .inr x, rfl, hD, by rw [List.length_map]; have := take_few zs b i; exact Nat.lt_of_le_of_lt (show _ ≤ 60000 by omega) (by decide), fun c o e => ?_, ?_⟩)
      · rw [upd_ne (ne_of_none e nD)]
        exact s1 _ _ e
      · rw [upd_same, fs, List.map_append, putK_end]
        · rfl
        · rw [List.map_map]
          intro hm
          obtain ⟨y, hy1, hy2⟩ := List.mem_map.mp hm
          have e : y = x := Sum.inr.inj hy2
          subst e
          have hy3 := (List.mem_filter.mp hy1).1
          obtain ⟨j, hj, ej⟩ := List.mem_take_iff_getElem.mp hy3
          have h1 : zs[j]? = some y := by rw [← ej]; exact List.getElem?_eq_getElem _
          have := (List.getElem?_inj (List.getElem?_eq_some_iff.mp h1).1 nd).mp (h1.trans hx.symm)
          omega
  · rintro H' ⟨s1, hD⟩
    rw [← hn, List.take_length] at hD
    exact q H' s1 hD
end
def rDictP (K : PySem.W.Frag) : List V → Hp → VK → Prop := fun xs H Q => ∃ (a : Addr) (ps : List Addr) (kvs : List (Key × V)), xs = [.ref a] ∧ SqL K H a (ps.map V.ref) ∧ Paired (fun p kv => SqT K H p [kV kv.1, kv.2]) ps kvs ∧ ∀ p, H p = none → Q (.ref p) (upd H p (.dK (mergeK [] kvs)))
theorem call_dictPn {X : Cx} (h : X.calm = true) : CallR X (.type "dict") (rDictP X.K) := call_dictP h
def top (i : Nat) : Stmt := PySem.Challenge.pw_keptroutes_k11_wishes_made.main.body.getD i (.Pass ⟨0, 0, 0, 0⟩)
abbrev sCls : Stmt := top 12
abbrev sTab : Stmt := top 16
abbrev sWsh : Stmt := top 18
abbrev sPen : Stmt := top 20
abbrev sP : Stmt := sPen
abbrev sNext : Stmt := top 21
abbrev sN : Stmt := sNext
abbrev sDraw : Stmt := top 22
abbrev sDr : Stmt := sDraw
abbrev sBits : Stmt := top 23
abbrev sB : Stmt := sBits
abbrev sSize : Stmt := top 24
abbrev sS : Stmt := sSize
abbrev sPrefixes : Stmt := top 25
abbrev sX : Stmt := sPrefixes
abbrev sHas : Stmt := top 10
abbrev sH : Stmt := sHas
abbrev sPfx : Stmt := top 11
abbrev sI : Stmt := sPfx
abbrev sWhole : Stmt := top 8
abbrev sWo : Stmt := sWhole
abbrev sWidth : Stmt := top 9
abbrev sV : Stmt := sWidth
/-! ### {**d, k: v} -/
section
variable {P : Program} {w : World} {K' : Type} [DecidableEq K'] {knd : KeyKind P w K'} {A : Around} {E : Value → Shared → Prop} {s : Shared}
theorem put_ok {d : Addr} {kvs : List (K' × Value)} {k : K'} {key v : Value} {Z : Unit → Shared → Prop} (ik : knd.is k key = true) (D : s.heap.DictOf knd d kvs) (few : kvs.length ≤ sizeLine)
    (hZ : ∀ h1, h1.DictOf knd d (stored kvs k v) → Heap.SameBut d s.heap h1 → Z () { s with heap := h1 }) : wpAny (model P w) A (dictPut d (knd.hash k) key v) Z E s := by
  obtain ⟨o, es, ep, at1, cl, da, ke, pr, nd⟩ := D
  have n1 : es.size ≤ sizeLine := by
    have q := pr.length
    rw [Array.length_toList] at q
    omega
  have fi : (es.findIdx? fun e => knd.is k e.key) = kvs.findIdx? fun x => decide (x.1 = k) := by
    rw [← pr.findIdx k]
    cases es
    simp
  unfold dictPut
  refine wpAny_bind (wpAny_dictFind_of ik at1 da ke ?_)
  cases q : es.findIdx? fun e => knd.is k e.key with
  | some j =>
    have st : stored kvs k v = _ := if_pos (any_of_findIdx_some (fi ▸ q))
    refine wpAny_updateDict at1 da (hZ _ ⟨_, _, ep, Heap.get?_update_self _ at1 (Obj.isFreed_of_dict (Obj.data_mapDict da _)), cl.mapDict _, Obj.data_mapDict da _, ke.modify _ _, ?_, ?_⟩ (Heap.SameBut.update ..))
    · rw [st]
      have ql : (es.toList.findIdx? fun e => knd.is k e.key) = some j := by
        rw [← q]
        cases es
        simp
      have z := pr.modify nd ql v
      cases es
      simpa using z
    · rw [st, keys_map_store]
      exact nd
  | none =>
    have no : k ∉ kvs.map (·.1) := not_mem_of_findIdx_none (fi ▸ q)
    have st : stored kvs k v = _ := if_neg (c := (kvs.any fun x => decide (x.1 = k)) = true) (by
      rintro z
      obtain ⟨x, hx, e⟩ := List.any_eq_true.mp z
      exact no (List.mem_map.mpr ⟨x, hx, of_decide_eq_true e⟩))
    refine wpAny_updateDictKeys (hz := n1) at1 da (hZ _ ⟨_, _, ep + 1, Heap.get?_update_self _ at1 (Obj.isFreed_of_dict (Obj.data_mapDictKeys da _)), cl.mapDictKeys _, Obj.data_mapDictKeys da _, ke.push ik _, ?_, ?_⟩ (Heap.SameBut.update ..))
    · rw [st]
      have z := pr.append ik (knd.hash k) v
      cases es
      simpa using z
    · rw [st, List.map_append, List.nodup_append]
      refine ⟨nd, by simp, fun a ha b hb => ?_⟩
      obtain rfl : b = k := by simpa using hb
      exact fun e => no (e ▸ ha)
theorem if_pre {α β γ : Type} {c : Prop} [Decidable c] {x : Sem α} {F : α → Sem β} {rest : Sem γ} {Z : γ → Shared → Prop} (hp : c → ∀ Q : β → Shared → Prop, (∀ b, Q b s) → wpAny (model P w) A (x >>= F) Q E s) (hr : wpAny (model P w) A rest Z E s) :
    wpAny (model P w) A (if c then x >>= fun a => F a >>= fun _ => rest else rest) Z E s := by
  split
  · rename_i hc
    have e : (x >>= fun a => F a >>= fun _ => rest) = (x >>= F) >>= fun _ => rest := by rw [bind_assoc]
    rw [e]
    exact wpAny_bind (hp hc _ fun _ => hr)
  · exact hr
theorem forIn_none {l : List DictEntry} {f : DictEntry → PUnit → Sem (ForInStep PUnit)} (hf : ∀ e ∈ l, ∀ u, f e u = pure (.yield u)) : forIn l PUnit.unit f = pure PUnit.unit := by
  induction l with
  | nil => rfl
  | cons e r ih => rw [List.forIn_cons, hf e List.mem_cons_self, pure_bind]; exact ih fun x hx => hf x (List.mem_cons_of_mem _ hx)
/-- a dict merged into another -/
theorem merge_ok {d o : Addr} {kvs more : List (K' × Value)} {Z : Unit → Shared → Prop} (ne : d ≠ o) (sy : (o == sysModules) = false) (D : s.heap.DictOf knd d kvs) (O : s.heap.DictOf knd o more) (few : kvs.length + more.length ≤ sizeLine)
    (nr : ∀ k v, knd.is k v = true → ∀ a, v ≠ .ref a)
    (hZ : ∀ h1, h1.DictOf knd d (merged kvs more) → Heap.SameBut d s.heap h1 → Z () { s with heap := h1 }) : wpAny (model P w) A (mergeMapping d (.ref o) false) Z E s := by
  obtain ⟨oo, es, ep, at1, cl, da, ke, pr, nd⟩ := id O
  obtain ⟨od, es2, ep2, at2, cl2, da2, ke2, pr2, nd2⟩ := id D
  have hlen : more.length = es.size := by
    rw [← pr.length, Array.length_toList]
  unfold mergeMapping
  refine wpAny_bind (wpAny_isInstance O.typeIs isSubtype_dict_dict ?_)
  rw [if_pos rfl]
  refine wpAny_bind (wpAny_specialOf O.typeIs PySem.F.slot_dict_iter.lookup ?_)
  refine wpAny_bind (wpAny_pure ?_)
  simp only [beq_self_eq_true]
  rw [if_neg (by rw [sy]; exact Bool.false_ne_true)]
  refine wpAny_bind (wpAny_dictEntries at2 da2 ?_)
  refine if_pre (fun _ Q q => ?_) ?_
  · refine wpAny_bind (wpAny_dictEntries at1 da ?_)
    rw [← Array.forIn_toList, forIn_none fun e he u => ?_]
    · exact wpAny_pure (q _)
    · obtain ⟨k', ik, _⟩ := ke e (by simpa using he)
      split
      · rename_i a ha
        exact absurd ha (nr _ _ ik a)
      · rfl
  refine wpAny_bind (wpAny_dictEntries at1 da (wpAny_bind (wpAny_dictEpoch at1 da (wpAny_bind ?_))))
  refine wpAny_forIn_list _ (fun rest _ r => ∃ h1 i, r = { s with heap := h1 } ∧ rest = List.range' i (es.size - i) ∧ i ≤ es.size ∧ h1.DictOf knd d (merged kvs (more.take i)) ∧ h1.get? o = some oo ∧ Heap.SameBut d s.heap h1) _ ?_ ?_ _ _ ⟨s.heap, 0, rfl, by rw [List.range_eq_range', Nat.sub_zero], Nat.zero_le _, by simpa [merged] using D, at1, Heap.SameBut.refl _ _⟩
  · rintro x rest u r ⟨h1, i, rfl, er, hi, D1, a1, sb⟩
    have lt : i < es.size := by
      rcases Nat.lt_or_ge i es.size with q | q
      · exact q
      · rw [Nat.sub_eq_zero_of_le q] at er
        cases er
    obtain ⟨rfl, er2⟩ : x = i ∧ rest = List.range' (i + 1) (es.size - (i + 1)) := by
      rw [show es.size - i = (es.size - (i + 1)) + 1 by omega, List.range'_succ] at er
      exact List.cons.inj er
    refine wpAny_bind (wpAny_dictEntries a1 da ?_)
    rw [Array.getElem?_eq_getElem lt]
    have lt2 : x < more.length := by rw [hlen]; exact lt
    obtain ⟨⟨k0, v0⟩, hkv⟩ : ∃ y, more[x]? = some y := ⟨_, List.getElem?_eq_getElem lt2⟩
    obtain ⟨ik, iv⟩ := pr.get? (e := es[x]) (by simp [lt]) hkv
    obtain ⟨k', ik2, hh⟩ := ke es[x] (Array.getElem_mem lt)
    obtain rfl : k' = k0 := knd.inj _ _ _ ik2 ik
    show wpAny _ _ (holding [es[x].key, es[x].val] (if false = true then _ else dictPut d es[x].hash es[x].key es[x].val) >>= _) _ _ _
    rw [if_neg Bool.false_ne_true, hh, iv]
    have few2 : (merged kvs (more.take x)).length ≤ sizeLine := by
      have e1 := merged_length_le kvs (more.take x)
      rw [List.length_take] at e1
      omega
    refine wpAny_bind (wpAny_holding (put_ok ik D1 few2 fun h2 D2 sb2 => ?_))
    have a2 : h2.get? o = some oo := (sb2.2 o (Ne.symm ne)).trans a1
    refine wpAny_bind (wpAny_dictEpoch a2 da ?_)
    rw [if_neg (by simp)]
    exact wpAny_pure ⟨h2, x + 1, rfl, er2, lt, by rw [merged_take_succ kvs more x (k', v0) hkv]; exact D2, a2, sb.trans sb2⟩
  · rintro u r ⟨h1, i, rfl, er, hi, D1, a1, sb⟩
    obtain rfl : i = es.size := by
      rcases Nat.lt_or_ge i es.size with q | q
      · rw [show es.size - i = (es.size - (i + 1)) + 1 by omega, List.range'_succ] at er
        cases er
      · omega
    rw [← hlen, List.take_length] at D1
    exact wpAny_pure (hZ h1 D1 sb)
end
section
variable {X : Cx} {o ke ve : Expr} {pos : Pos} {td tk tv : TE}
theorem key_noref {P : Program} {w : World} {k : Key} {v : Value} (h : (mixKind P w).is k v = true) (a : Addr) : v ≠ .ref a := by
  rcases keyIs_shape h with ⟨i, t, rfl, rfl⟩ | ⟨x, t, rfl, rfl⟩
  · exact fun e => nomatch e
  · exact fun e => nomatch e
/-- a dict of the heap merged into another -/
theorem mergeH {pins : List (Addr × Obj)} {σ : L2.St} {H : Hp} {s : Shared} {A : Around} {E : Value → Shared → Prop} {p a : Addr} {kvs more : List (Key × V)} {Z : Unit → Shared → Prop} (I : Inv X pins σ H s) (hp : H p = some (.dK kvs)) (ha : Rd H a (.dK more)) (ne : p ≠ a) (few : kvs.length + more.length ≤ 2000)
    (hZ : ∀ s', Inv X pins σ (upd H p (.dK (mergeK kvs more))) s' → Z () s') : wpAny (model X.prog X.w) A (mergeMapping p (.ref a) false) Z E s := by
  obtain ⟨z1, sy1, vs, rel, D⟩ := dk_of I.hok hp
  obtain ⟨z2, sy2, rs, rel2, O⟩ := dk_rd I.hok ha
  refine merge_ok ne sy2 D O (by rw [← rel.length, ← rel2.length]; exact Nat.le_trans few (by decide)) (fun k v h a => key_noref h a) fun h1 D1 sb => hZ _ ?_
  have he : ∃ q, h1.get? p = some q := let ⟨q, _, _, hq, _⟩ := D1; ⟨q, hq⟩
  have len := length_mergeK more kvs
  exact d_write (t' := s.toks) I (by rw [hp]; exact True.intro) sb he (dk_new (Nat.le_trans (show (mergeK kvs more).length ≤ 2000 by omega) (by decide)) sy1 (KV.merge rel2 rel) D1)
def tDSt (td tk tv : TE) : TE := fun σ H Q => ∀ p, H p = none → td σ (upd H p (.dK [])) fun x H1 => ∃ (a : Addr) (kvs : List (Key × V)), x = .ref a ∧ Rd H1 a (.dK kvs) ∧ a ≠ p ∧ H1 p = some (.dK []) ∧ (kvs.map (·.1)).Nodup ∧ kvs.length < 1000 ∧ ∀ q, (upd H1 p (.dK kvs)) q = none →
  tk σ (upd (upd H1 p (.dK kvs)) q (.dK [])) fun y H2 => tv σ H2 fun z H3 => ∃ k, y = kV k ∧ H3 p = some (.dK kvs) ∧ H3 q = some (.dK []) ∧ Q (.ref p) (upd (upd H3 q (.dK [(k, z)])) p (.dK (putK kvs k z)))
theorem pe_dst (ho : PE X o td) (hk : PE X ke tk) (hv : PE X ve tv) : PE X (.Dict [none, some ke] [o, ve] pos) (tDSt td tk tv) := by
  refine ⟨fun pins s σ H Q I h => ?_⟩
  rw [arm_eval_Dict]
  refine wpAny_bind (wpAny_standAt ?_)
  show wpAny _ _ (dictDisplay [(none, (eval o X.env >>= fun x => standAt pos >>= fun _ => pure x)), (some (eval ke X.env), (eval ve X.env >>= fun x => standAt pos >>= fun _ => pure x))]) _ _ _
  unfold dictDisplay
  simp only [List.forIn_cons, List.forIn_nil, List.isEmpty_nil, if_true, pure_bind, bind_assoc, List.nil_append, List.length_cons, List.length_nil, Nat.zero_add, Nat.reduceBEq, Bool.false_eq_true, if_false, List.isEmpty_cons]
  refine wpAny_bind (wpAny_alloc ?_)
  have hn : H s.heap.objs.size = none := I.hok.fresh (Nat.le_refl _)
  have I1 := I.laid (a := s.heap.objs.size) (o := .dK []) (h' := s.heap.push { cls := .type "dict", data := .dict #[] }) (t' := s.toks) (fun _ _ q => Heap.get?_push_of_some _ q) (Nat.le_refl _) (dk_empty s.heap I.big)
  refine wpAny_bind (wpAny_holding (wpAny_bind (thn (ho.run pins _ σ _ _ I1 (h _ hn)) fun u s2 ⟨x, H1, I2, rx, a, kvs, ex, ha, nap, hp, nd, few, q⟩ => wpAny_bind (wpAny_standAt (wpAny_pure ?_)))))
  subst ex
  obtain rfl : u = Value.ref a := rx
  refine wpAny_bind (wpAny_onRaise (wpAny_tryCatch (wpAny_onRaise (wpAny_holding (mergeH I2 hp ha nap.symm (by show 0 + kvs.length ≤ 2000; omega) fun s3 I3 => ?_)))))
  rw [mergeK_nd kvs [] (by rw [List.nil_append]; exact nd), List.nil_append] at I3
  have nq : (upd H1 s.heap.objs.size (.dK kvs)) s3.heap.objs.size = none := I3.hok.fresh (Nat.le_refl _)
  have npq : s.heap.objs.size ≠ s3.heap.objs.size := ne_of_none upd_same nq
  have I4 := I3.laid (a := s3.heap.objs.size) (o := .dK []) (h' := s3.heap.push { cls := .type "dict", data := .dict #[] }) (t' := s3.toks) (fun _ _ q => Heap.get?_push_of_some _ q) (Nat.le_refl _) (dk_empty s3.heap I3.big)
  refine wpAny_bind (wpAny_holding (wpAny_subDict (knd := mixKind X.prog X.w) (show 1 ≤ 15 by decide) (evalPairs_cons (thn (hk.run pins _ σ _ _ I4 (q _ nq)) fun ku s4 ⟨y, H2, I5, ry, q2⟩ => wpAny_bind (thn (hv.run pins _ σ H2 _ I5 q2) fun vu s5 ⟨z, H3, I6, rz, k, ey, hp3, hq3, q3⟩ => wpAny_bind (wpAny_standAt (wpAny_pure (evalPairs_nil ?_))))))))
  subst ey
  obtain ⟨zq, syq, vs, rel, D⟩ := dk_of I6.hok hq3
  obtain rfl : vs = [] := List.length_eq_zero_iff.mp (by rw [← rel.length]; rfl)
  refine ⟨[(k, vu)], ⟨kV_is ry, rfl, trivial⟩, D, fun h6 D6 sb6 => ?_⟩
  have he : ∃ q, h6.get? s3.heap.objs.size = some q := let ⟨q, _, _, hq, _⟩ := D6; ⟨q, hq⟩
  have I7 := d_write (t' := s5.toks + [(ku, vu)].length) (ob := .dK [(k, z)]) I6 (by rw [hq3]; exact True.intro) sb6 he (dk_new (by show 1 ≤ sizeLine; decide) syq (show KV (putK [] k z) (stored [] k vu) from rel.put k rz) D6)
  exact wpAny_bind (wpAny_onRaise (wpAny_holding (mergeH I7 (by rw [upd_ne npq]; exact hp3) (.inl upd_same) npq (by show kvs.length + 1 ≤ 2000; omega) fun s8 I8 => wpAny_pure ⟨.ref s.heap.objs.size, _, I8, rfl, q3⟩)))
end
/-! ### cls(a, ..): a class that a name of the def holds -/
def tMakeL (i : Nat) (C : Addr) (sp : Sp) (t : TA) : TE := fun σ H Q => σ[i]? = some (some (.ref C)) ∧ tMake C sp [] E0 t σ H Q
section
variable {X : Cx} {k i : Nat} {f C : Addr} {fd : FuncData} {ps : List Str} {sp : Sp} {x : Str} {p pos : Pos} {e : Expr} {es : List Expr} {t : TA}
theorem pe_makeL (M : Mk X.K C f) (F : FnOk X.prog X.w X.K X.mg X.base CX0 k f fd ps sp) (hr : Room (k + 1) X.A) (hN : X.N[i]? = some x) (hv : Vis X.env.scope x) (hb : Binds X.K fd ps []) (ha : PA X (e :: es) t)
    (hdb : (x == ("__debug__" : Str)) = false := by decide) (hcd : (x == ("__classdict__" : Str)) = false := by decide) (he : starEach (e :: es) X.env = (false, eval e X.env) :: starEach es X.env := by rfl) (hpl : (backTo pos (starEach es X.env)).any (·.1) = false := by rfl) :
    PE X (.Call (.Name x p) (e :: es) [] pos) (tMakeL i C sp t) := by
  refine ⟨fun pins s σ H Q I h => ?_⟩
  obtain ⟨hs, ht⟩ := h
  refine wpAny_Call_Name_kw (thn ((pe_var (pos := p) hN hv hdb hcd).run pins s σ H (fun v H1 => v = .ref C ∧ H1 = H) I ⟨.ref C, hs, rfl, rfl⟩) fun u s1 ⟨v, H1, I1, r1, q1⟩ => ?_)
  obtain ⟨rfl, rfl⟩ := q1
  cases r1
  exact PySem.W.callWith_K (h₀ := X.base) I1.ok.mod.kin M.kp (thn (ha.run pos pins s1 σ _ _ I1 ht) fun us s2 ⟨vs, H2, I2, r, q⟩ => ⟨I2.kIn, run_make M F hr hb .nil pass0 I2 r q⟩) he hpl
end
section
variable {P : Program} {w : World} {K : PySem.W.Frag} {mg : Str → Option Value} {base : Heap}
theorem scPen : FnScope ["script"] ["script"] (defScope sPen) := ⟨rfl, rfl, rfl, by decide +kernel, rfl, by decide +kernel, by decide +kernel⟩
theorem ok_pen {f : Addr} {fd : FuncData} {k : Nat} (F : Fun K "_law_pen" "_law_pen" sPen f fd) (ml : mg "list" = none) : FnOk P w K mg base CX0 (k + 1) f fd ["script"] (spPen K) := by
  refine F.ok scPen (fun vs H Q E h => ?_) (fun cdv A outer s H vs Q E hr h => ?_)
  · obtain ⟨a, ns, rfl, _⟩ := h
    rfl
  · obtain ⟨a, ns, rfl, hS, hlen, q⟩ := h
    refine ⟨_, pss_one (ps_ret (pe_lst (pa_cons (pe_callTy call_list_of (by rfl) ml (by decide +kernel) (pa_cons (pe_slice sl_list (pv 0) po_none (po_some pe_int)) pa_nil)) (pa_cons pe_int (pa_cons pe_int pa_nil))))), ?_⟩
    obtain ⟨ms, em, hm⟩ := cut60 ns
    refine ⟨.ref a, rfl, 60, rfl, a, ns.map V.int, rfl, hS, fun b nb => ?_⟩
    rw [em]
    refine ⟨b, _, rfl, .inl (.inl (.inl upd_same)), fun c nc => ?_⟩
    refine ⟨by show 3 ≤ sizeLine; decide, fun p np => ?_⟩
    have s1 : Same H (upd H b (.lst (ms.map V.int))) := same_upd nb
    have s2 := same_upd (o := .lst (ms.map V.int)) nc
    have s3 := same_upd (o := penL c 0 0 []) np
    have nf : H p = none := (s1.trans s2).free np
    refine q _ p c (s1.trans (s2.trans s3)) nf (s1.free nc) ⟨ms, 0, 0, upd_same, ?_, hm, Int.le_refl _, Int.le_refl _, Int.le_refl _⟩
    exact s3 _ _ upd_same
theorem scNext : FnScope ["pen", "index", "cell", "low", "mid", "top"] ["pen"] (defScope sNext) := ⟨rfl, rfl, rfl, by decide +kernel, rfl, by decide +kernel, by decide +kernel⟩
theorem ok_next {f : Addr} {fd : FuncData} {k : Nat} (F : Fun K "_law_next" "_law_next" sNext f fd) (ml : mg "len" = none) : FnOk P w K mg base CX0 (k + 1) f fd ["pen"] spNext := by
  refine F.ok scNext (fun vs H Q E h => ?_) (fun cdv A outer s H vs Q E hr h => ?_)
  · obtain ⟨p, n, m, c, ns, i, z, rfl, _⟩ := h
    rfl
  · obtain ⟨p, n, m, c, ns, i, z, rfl, hp, hn, q⟩ := h
    have nd := scNext.nd
    have hu := hr.units
    refine ⟨_, pss_cons (ps_set (i := 1) nd rfl (.inl rfl) (pe_ix ix_list (pv 0) pe_int (fun _ _ => rfl)))
      (pss_cons (ps_asg (pe_op op_add (pv 1) pe_int) (pg_sub (pv 0) pe_int set_list))
      (pss_cons (ps_set (i := 2) nd rfl (.inl rfl) (pe_op op_add (pe_op op_mul (pv 1) pe_int) pe_int))
      (C8.pss_cut (ps_if (pt_cmpR (op_neD hu) (pe_ix ix_list (pv 0) pe_int (fun _ _ => rfl)) (pe_lst pa_nil) (nomark _))
        (pss_one (ps_set (i := 2) nd rfl (.inl rfl) (pe_ix ix_list (pe_ix ix_list (pv 0) pe_int (fun _ _ => rfl))
          (pe_op op_mod (pv 1) (pe_callB call_len_seq (by rfl) ml PySem.boot_len (pa_cons (pe_ix ix_list (pv 0) pe_int (fun _ _ => rfl)) pa_nil))) (fun _ _ => rfl)))) pss_nil)
      (C8.pss_cut (ps_if (PW.pt (pw_and (pt_cmpR op_lt (pv 1) (pe_callB call_len_seq (by rfl) ml PySem.boot_len (pa_cons (pe_ix ix_list (pv 0) pe_int (fun _ _ => rfl)) pa_nil)) (nomark _))
          (pw_and1 (pt_cmpR op_ge (pv 2) (pe_op op_pow pe_int pe_int) (nomark _)))))
        (pss_one (ps_ret (pv 2))) pss_nil)
      (C8.pss_cut (ps_set (i := 3) nd rfl (.inl rfl) (pe_op op_mod (pe_op op_add (pe_op op_add (pe_op op_mod (pv 2) pe_int) (pe_op op_mul (pv 1) pe_int)) pe_int) pe_int))
      (C8.pss_cut (ps_set (i := 4) nd rfl (.inl rfl) (pe_op op_mod (pe_op op_add (pe_op op_add (pe_op op_mul (pv 3) (pv 3)) (pe_op op_mul (pv 1) pe_int)) pe_int) pe_int))
      (C8.pss_cut (ps_set (i := 5) nd rfl (.inl rfl) (pe_op op_mod (pe_op op_add (pe_op op_add (pe_op op_mul (pv 4) (pv 4)) (pv 3)) (pe_op op_mul (pe_op op_mul (pv 1) (pv 1)) pe_int)) pe_int))
      (pss_one (ps_ret (pe_op op_add (pe_op op_mul (pe_op op_add (pe_op op_mul (pv 5) pe_int) (pv 4)) pe_int) (pv 3)))))))))))  , ?_⟩
    have hpL : H p = some (.lst (.ref c :: .int i :: .int z :: m)) := hp.at_
    have ncp : c ≠ p := hp.ne
    -- index = pen[1]; pen[1] = index + 1
    refine ⟨.ref p, rfl, p, _, 1, .int i, rfl, rfl, SqL.of hpL, atI_nat (j := 1) rfl, ?_⟩
    refine ⟨.int i, rfl, i, 1, rfl, rfl, .ref p, rfl, p, _, 1, 1, rfl, rfl, hpL, ix1, ?_⟩
    have e1 : (V.ref c :: .int i :: .int z :: m).set 1 (.int (i + 1)) = .ref c :: .int (i + 1) :: .int z :: m := rfl
    rw [e1]
    generalize hH : upd H p (.lst (.ref c :: .int (i + 1) :: .int z :: m)) = H1
    have h1 : H1 p = some (.lst (.ref c :: .int (i + 1) :: .int z :: m)) := by rw [← hH, upd_same]
    have hc1 : H1 c = some (.lst (ns.map V.int)) := by rw [← hH, upd_ne ncp]; exact hp.cells
    have b1 : But p H H1 := by rw [← hH]; exact But.upd
    -- cell = index * 1049 + 29
    refine ⟨.int i, rfl, _, _, rfl, rfl, .inr ⟨by decide, by decide⟩, _, _, rfl, rfl, ?_⟩
    have hi0 := hp.i0
    have hi1 := hp.i1
    have hnB : n ≤ 1000000000000 := hn
    -- pen[0] != []
    refine ⟨fun σ H2 => ∃ cell : Int, σ = [some (.ref p), some (.int i), some (.int cell), none, none, none] ∧ H2 p = some (.lst (.ref c :: .int (i + 1) :: .int z :: m)) ∧ H2 c = some (.lst (ns.map V.int)) ∧ But p H H2, ?_, ?_⟩
    · refine ⟨.ref p, rfl, p, _, 0, .ref c, rfl, rfl, SqL.of h1, atI_nat (j := 0) rfl, Nat.zero_le _, fun e ne => ?_⟩
      have s2 : Same H1 (upd H1 e (.lst [])) := same_upd ne
      have hp2 : (upd H1 e (.lst [])) p = some (.lst (.ref c :: .int (i + 1) :: .int z :: m)) := s2 _ _ h1
      have hc2 : (upd H1 e (.lst [])) c = some (.lst (ns.map V.int)) := s2 _ _ hc1
      have b2 : But p H (upd H1 e (.lst [])) := b1.trans (.of_same s2)
      refine ⟨.list (ns.map PyData.int), .list [], .lst (SqL.of hc2) (dpAll_ints ns), .lst (SqL.of upd_same) .nil, PySem.W.ke_shaped_ints ns, rfl, _, rfl, ?_⟩
      rw [eqv_nil]
      by_cases hz : ns = []
      · rw [decide_eq_true hz]
        refine iteF ?_
        exact ⟨_, rfl, hp2, hc2, b2⟩
      · rw [decide_eq_false hz]
        refine iteT ?_
        have hl : 0 < ns.length := List.length_pos_iff.mpr hz
        have hlt : (i % (ns.length : Int)).toNat < ns.length := by
          have h1 := Int.emod_nonneg i (show (ns.length : Int) ≠ 0 by omega)
          have h2 := Int.emod_lt_of_pos i (show (0 : Int) < ns.length by omega)
          omega
        have hnn := Int.emod_nonneg i (show (ns.length : Int) ≠ 0 by omega)
        have g : atI (ns.map V.int) (i % (((ns.map V.int).length : Nat) : Int)) = some (.int ns[(i % (ns.length : Int)).toNat]) := by
          rw [List.length_map]
          refine at_of (j := (i % (ns.length : Int)).toNat) (by omega) ?_
          rw [List.getElem?_map, List.getElem?_eq_getElem hlt]
          rfl
        refine ⟨.ref p, rfl, p, _, 0, .ref c, rfl, rfl, SqL.of hp2, atI_nat (j := 0) rfl, .int i, rfl, .ref p, rfl, p, _, 0, .ref c, rfl, rfl, SqL.of hp2, atI_nat (j := 0) rfl,
          c, _, rfl, .inl (SqL.of hc2), _, _, rfl, rfl, by rw [List.length_map]; omega, c, _, _, _, rfl, rfl, SqL.of hc2, g, ?_⟩
        exact ⟨_, rfl, hp2, hc2, b2⟩
    · rintro σ H2 ⟨cell, rfl, hp2, hc2, b2⟩
      have fin : ∀ x : Int, 0 ≤ x → Q (.int x) H2 := fun x hx => q x H2 hx b2 (hp.but b2 hp2 (by omega) (by omega) hp.s0)
      have m1 := Int.emod_nonneg (cell % 2147483587 + i * 70061 + 53) (show (2147483587 : Int) ≠ 0 by decide)
      have m2 := Int.emod_lt_of_pos (cell % 2147483587 + i * 70061 + 53) (show (0 : Int) < 2147483587 by decide)
      have M0 : (2147483587 : Int) ≠ 0 := by decide
      have M1 : (0 : Int) < 2147483587 := by decide
      have M2 : (0 : Int) < 2147483563 := by decide
      have M3 : (0 : Int) < 2147483549 := by decide
      refine ⟨fun σ' H' => σ' = [some (.ref p), some (.int i), some (.int cell), none, none, none] ∧ H' = H2, ?_, ?_⟩
      · refine ⟨.int i, rfl, .ref p, rfl, p, _, 0, .ref c, rfl, rfl, SqL.of hp2, atI_nat (j := 0) rfl, c, _, rfl, .inl (SqL.of hc2), _, _, rfl, rfl, _, rfl, ?_⟩
        refine ite2 (fun _ => ?_) (fun _ => iteF ⟨rfl, rfl⟩)
        refine ⟨.int cell, rfl, _, _, rfl, rfl, ⟨by decide, by decide, by decide⟩, _, _, rfl, rfl, _, rfl, ?_⟩
        refine ite2 (fun hc => ?_) (fun _ => ⟨rfl, rfl⟩)
        have hc' : (10 : Int) ^ 18 ≤ cell := of_decide_eq_true hc
        exact ⟨.int cell, rfl, fin cell (by omega)⟩
      · rintro σ' H' ⟨rfl, rfl⟩
        refine ⟨fun σ' Ha => Ha = H' ∧ ∃ low : Int, 0 ≤ low ∧ low < 2147483587 ∧ σ' = [some (.ref p), some (.int i), some (.int cell), some (.int low), none, none], ?_, ?_⟩
        · refine ⟨.int cell, rfl, _, _, rfl, rfl, M1, .int i, rfl, _, _, rfl, rfl, .inr ⟨by decide, by decide⟩, _, _, rfl, rfl, _, _, rfl, rfl, _, _, rfl, rfl, M1, ?_⟩
          exact ⟨rfl, _, Int.emod_nonneg _ M0, Int.emod_lt_of_pos _ M1, rfl⟩
        rintro σ' Hb ⟨rfl, low, l1, l2, rfl⟩
        refine ⟨fun σ' Ha => Ha = Hb ∧ ∃ mid : Int, 0 ≤ mid ∧ mid < 2147483563 ∧ σ' = [some (.ref p), some (.int i), some (.int cell), some (.int low), some (.int mid), none], ?_, ?_⟩
        · refine ⟨.int low, rfl, .int low, rfl, _, _, rfl, rfl, .inl ⟨by omega, by omega⟩, .int i, rfl, _, _, rfl, rfl, .inr ⟨by decide, by decide⟩, _, _, rfl, rfl, _, _, rfl, rfl, _, _, rfl, rfl, M2, ?_⟩
          exact ⟨rfl, _, Int.emod_nonneg _ (by decide), Int.emod_lt_of_pos _ M2, rfl⟩
        rintro σ' Hc ⟨rfl, mid, d1, d2, rfl⟩
        refine ⟨fun σ' Ha => Ha = Hc ∧ ∃ tp : Int, 0 ≤ tp ∧ σ' = [some (.ref p), some (.int i), some (.int cell), some (.int low), some (.int mid), some (.int tp)], ?_, ?_⟩
        · refine ⟨.int mid, rfl, .int mid, rfl, _, _, rfl, rfl, .inl ⟨by omega, by omega⟩, .int low, rfl, _, _, rfl, rfl, .int i, rfl, .int i, rfl, _, _, rfl, rfl, .inl ⟨by omega, by omega⟩, _, _, rfl, rfl, .inr ⟨by decide, by decide⟩, _, _, rfl, rfl, _, _, rfl, rfl, M3, ?_⟩
          exact ⟨rfl, _, Int.emod_nonneg _ (by decide), rfl⟩
        rintro σ' H3 ⟨rfl, tp, t1, rfl⟩
        refine ⟨.int tp, rfl, _, _, rfl, rfl, .inr ⟨by decide, by decide⟩, .int mid, rfl, _, _, rfl, rfl, _, _, rfl, rfl, .inr ⟨by decide, by decide⟩, .int low, rfl, _, _, rfl, rfl, ?_⟩
        exact fin _ (by show 0 ≤ (tp * 2147483587 + mid) * 2147483563 + low; omega)
theorem scDraw : FnScope ["pen", "below", "digit"] ["pen", "below"] (defScope sDraw) := ⟨rfl, rfl, rfl, by decide +kernel, rfl, by decide +kernel, by decide +kernel⟩
theorem ok_draw {f fN : Addr} {fd fdN : FuncData} {k : Nat} (F : Fun K "_law_draw" "_law_draw" sDraw f fd) (FN : Fun K "_law_next" "_law_next" sNext fN fdN) (bN : Binds K fdN ["pen"] []) (gN : mg "_law_next" = some (.ref fN)) (ml : mg "len" = none) :
    FnOk P w K mg base CX0 (k + 2) f fd ["pen", "below"] spDraw := by
  have GN : FnOk P w K mg base CX0 (k + 1) fN fdN ["pen"] spNext := ok_next FN ml
  refine F.ok scDraw (fun vs H Q E h => ?_) (fun cdv A outer s H vs Q E hr h => ?_)
  · obtain ⟨p, c, n, m, below, rfl, _⟩ := h
    rfl
  · obtain ⟨p, c, n, m, below, rfl, ⟨ns, i, z, hp⟩, hn, hb0, hb1, q⟩ := h
    have nd := scDraw.nd
    refine ⟨_, C8.pss_cut (ps_if (pt_cmpR op_lt (pe_ix ix_list (pv 0) pe_int (fun _ _ => rfl)) (pv 1) (nomark _))
        (pss_one (ps_asg (pe_call GN hr (by rfl) gN FN.kp bN .nil pass0 (pa_cons (pv 0) pa_nil)) (pg_sub (pv 0) pe_int set_list))) pss_nil)
      (pss_cons (ps_set (i := 2) nd rfl (.inl rfl) (pe_op op_mod (pe_ix ix_list (pv 0) pe_int (fun _ _ => rfl)) (pv 1)))
      (pss_cons (ps_asg (pe_op op_fdiv (pe_ix ix_list (pv 0) pe_int (fun _ _ => rfl)) (pv 1)) (pg_sub (pv 0) pe_int set_list))
      (pss_one (ps_ret (pv 2))))), ?_⟩
    refine ⟨fun σ H2 => σ = [some (.ref p), some (.int below), none] ∧ But p H H2 ∧ ∃ i z, PenAt H2 p (n + 1) m c ns i z, ?_, ?_⟩
    · refine ⟨.ref p, rfl, p, _, 2, .int z, rfl, rfl, SqL.of hp.at_, atI_nat (j := 2) rfl, .int below, rfl, _, _, rfl, rfl, _, rfl, ?_⟩
      refine ite2 (fun _ => ?_) (fun _ => ⟨rfl, .refl _ _, i, z, hp.mono (Nat.le_succ _)⟩)
      refine ⟨.ref p, rfl, p, n, m, c, ns, i, z, rfl, hp, hn, fun x H1 hx b1 hp1 => ?_⟩
      refine ⟨.ref p, rfl, p, _, 2, 2, rfl, rfl, hp1.at_, ix2, ?_⟩
      exact ⟨rfl, b1.trans .upd, i + 1, x, hp1.next hp1.i0 hp1.i1 hx⟩
    · rintro σ H2 ⟨rfl, b2, i', z', hp2⟩
      refine ⟨.ref p, rfl, p, _, 2, .int z', rfl, rfl, SqL.of hp2.at_, atI_nat (j := 2) rfl, .int below, rfl, _, _, rfl, rfl, hb0, ?_⟩
      refine ⟨.ref p, rfl, p, _, 2, .int z', rfl, rfl, SqL.of hp2.at_, atI_nat (j := 2) rfl, .int below, rfl, _, _, rfl, rfl, ⟨hb0, hb1⟩, .ref p, rfl, p, _, 2, 2, rfl, rfl, hp2.at_, ix2, ?_⟩
      refine ⟨_, rfl, q _ _ (Int.emod_nonneg _ (by omega)) (Int.emod_lt_of_pos _ hb0) (b2.trans .upd) ⟨ns, i', z' / below, hp2.next hp2.i0 hp2.i1 (Int.ediv_nonneg hp2.s0 (by omega))⟩⟩
end
/-! ### has_only, is_prefix -/
def spHas : Sp := fun vs H Q _ => ∃ x y : Str, vs = [.str x, .str y] ∧ x.length ≤ sizeLine ∧ Q (.bl (onlyOf y x)) H
def spPfx (K : PySem.W.Frag) : Sp := fun vs H Q _ => ∃ (v : V) (w : Int), vs = [v, .int w] ∧ TyS K H v ∧ (∀ x, v = .str x → x.length ≤ sizeLine) ∧ Q (.bl (isPfx v w)) H
section
variable {P : Program} {w : World} {K : PySem.W.Frag} {mg : Str → Option Value} {base : Heap}
theorem scHas : FnScope ["text", "signs"] ["text", "signs"] (defScope sHas) := ⟨rfl, rfl, rfl, by decide +kernel, rfl, by decide +kernel, by decide +kernel⟩
theorem ok_has {f : Addr} {fd : FuncData} {k : Nat} (F : Fun K "has_only" "has_only" sHas f fd) : FnOk P w K mg base CX0 (k + 1) f fd ["text", "signs"] spHas := by
  refine F.ok scHas (fun vs H Q E h => ?_) (fun cdv A outer s H vs Q E hr h => ?_)
  · obtain ⟨x, y, rfl, _⟩ := h
    rfl
  · obtain ⟨x, y, rfl, hl, q⟩ := h
    refine ⟨_, pss_one (ps_ret (pe_cmpR op_eq (pe_bm PySem.F.plainAttrs_str PySem.F.slot_str_lstrip PySem.F.type_str_lstrip mt_lstripChars (pv 0) (pa_cons (pv 1) pa_nil)) pe_str (nomark _))), ?_⟩
    refine ⟨.str x, rfl, rfl, .str y, rfl, x, y, rfl, rfl, hl, rfl, ?_⟩
    show Q (.bl (decide (V.str (Txt.lstripChars x y) = V.str ""))) H
    rw [lstrip_empty]
    exact q
theorem scPfx : FnScope ["thing", "width"] ["thing", "width"] (defScope sPfx) := ⟨rfl, rfl, rfl, by decide +kernel, rfl, by decide +kernel, by decide +kernel⟩
theorem ok_pfx {f fH : Addr} {fd fdH : FuncData} {k : Nat} (F : Fun K "is_prefix" "is_prefix" sPfx f fd) (FH : Fun K "has_only" "has_only" sHas fH fdH) (bH : Binds K fdH ["text", "signs"] []) (gH : mg "has_only" = some (.ref fH))
    (mi : mg "isinstance" = none) (ms : mg "str" = none) (ml : mg "len" = none) : FnOk P w K mg base CX0 (k + 2) f fd ["thing", "width"] (spPfx K) := by
  have GH : FnOk P w K mg base CX0 (k + 1) fH fdH ["text", "signs"] spHas := ok_has FH
  refine F.ok scPfx (fun vs H Q E h => ?_) (fun cdv A outer s H vs Q E hr h => ?_)
  · obtain ⟨v, w, rfl, _⟩ := h
    rfl
  · obtain ⟨v, w, rfl, ⟨t, ty, kt⟩, hl, q⟩ := h
    refine ⟨_, pss_one (ps_ret (pe_and (pe_callB call_isi (by rfl) mi (by decide +kernel) (pa_cons (pv 0) (pa_cons (pe_bltn (v := .ty "str") (by rfl) ms (by decide +kernel) rfl) pa_nil)))
      (pe_and (pe_cmpR op_le (pe_callB call_len_str (by rfl) ml PySem.boot_len (pa_cons (pv 0) pa_nil)) (pv 1) (nomark _))
        (pe_one (pe_call GH hr (by rfl) gH FH.kp bH .nil pass0 (pa_cons (pv 0) (pa_cons pe_str pa_nil))))))), ?_⟩
    refine ⟨v, rfl, v, .ty "str", .type t, .type "str", _, rfl, .ty _, ty, kt, _, rfl, ?_⟩
    cases v with
    | str x =>
      refine iteT ?_
      have hx := hl x rfl
      refine ⟨.str x, rfl, x, rfl, hx, .int w, rfl, _, _, rfl, rfl, _, rfl, ?_⟩
      by_cases hw : (x.length : Int) ≤ w
      · rw [decide_eq_true hw]
        refine iteT ⟨.str x, rfl, x, _, rfl, hx, ?_⟩
        have e : isPfx (.str x) w = isBits x := by
          show (decide ((x.length : Int) ≤ w) && isBits x) = isBits x
          rw [decide_eq_true hw, Bool.true_and]
        rw [e] at q
        exact q
      · rw [decide_eq_false hw]
        refine iteF ?_
        have e : isPfx (.str x) w = false := by
          show (decide ((x.length : Int) ≤ w) && isBits x) = false
          rw [decide_eq_false hw, Bool.false_and]
        rw [e] at q
        exact q
    | _ => exact iteF q
end
section
variable {P : Program} {w : World} {K : PySem.W.Frag} {mg : Str → Option Value} {base : Heap}
theorem scBits : FnScope ["pen", "size", "turn"] ["pen", "size"] (defScope sBits) := ⟨rfl, rfl, rfl, by decide +kernel, rfl, by decide +kernel, by decide +kernel⟩
theorem ok_bits {f fD : Addr} {fd fdD : FuncData} {k : Nat} (F : Fun K "_law_bits" "_law_bits" sBits f fd) (GD : FnOk P w K mg base CX0 k fD fdD ["pen", "below"] spDraw) (FD : Fun K "_law_draw" "_law_draw" sDraw fD fdD) (bD : Binds K fdD ["pen", "below"] []) (gD : mg "_law_draw" = some (.ref fD))
    (mr : mg "range" = none) : FnOk P w K mg base CX0 (k + 1) f fd ["pen", "size"] spBits := by
  refine F.ok scBits (fun vs H Q E h => ?_) (fun cdv A outer s H vs Q E hr h => ?_)
  · obtain ⟨p, c, n, z, m, rfl, _⟩ := h
    rfl
  · obtain ⟨p, c, n, z, m, rfl, hp, hn, hz, q⟩ := h
    have nd := scBits.nd
    have hnB : n + 100 ≤ 1000000000000 := hn
    refine ⟨_, pss_one (ps_ret (pe_join pe_str (pe_lc (own := [("turn", 2)]) (g := gName 2) (tt := tYes) rfl nd
      (pi_range1 (by rfl) mr (pa_cons (pe_call GD hr (by rfl) gD FD.kp bD .nil pass0 (pa_cons (pv 0) (pa_cons (pe_op op_add (pv 1) pe_int) pa_nil))) pa_nil))
      (blkOk_by (N := ["pen", "size", "turn"]) (sc := defScope sBits) (by decide +kernel)) (fun _ _ _ _ _ => pg_name (i := 2) nd rfl (.inl rfl)) (fun _ _ _ _ _ => pts_nil)
      (fun _ _ _ _ _ => pe_ix (r := rIxS) ix_str pe_str (pe_call GD hr (by rfl) gD FD.kp bD .nil pass0 (pa_cons (pv 0) (pa_cons pe_int pa_nil))) (fun _ _ => rfl))))), ?_⟩
    refine ⟨⟨_, rfl⟩, .ref p, rfl, .int z, rfl, _, _, rfl, rfl, p, c, n, m, (z : Int) + 1, rfl, hp, by show n ≤ 1000000000000; omega, by omega, by omega, fun d H1 d0 d1 b1 p1 => ?_⟩
    refine ⟨d, rfl, by omega, by omega, fun D nD => lc_range (n := d.toNat) (fun j H' => ∃ ys : List Str, H' D = some (.lst (ys.map V.str)) ∧ ys.length = j ∧ (∀ y ∈ ys, y = "0" ∨ y = "1") ∧ But p H H' ∧ Pen H' p c (n + 1 + j) m) ?_ ?_ ?_⟩
    · exact ⟨[], upd_same, rfl, fun _ h => absurd h List.not_mem_nil, b1.trans (.of_same (same_upd nD)), p1.off (p1.ne_p nD) (p1.ne_c nD)⟩
    · rintro j H' hj ⟨ys, hD, hy, hys, bH, pj⟩
      refine ⟨rfl, yes_if ?_⟩
      refine ⟨.ref p, rfl, p, c, n + 1 + j, m, 2, rfl, pj, by show n + 1 + j ≤ 1000000000000; omega, by decide, by decide, fun e H'' e0 e1 b p' => ?_⟩
      have hb : ∃ ch, atI (sg "01") e = some ch ∧ ((⟨#[ch]⟩ : Str) = "0" ∨ (⟨#[ch]⟩ : Str) = "1") := by
        obtain rfl | rfl : e = 0 ∨ e = 1 := by omega
        · exact ⟨48, by decide +kernel, .inl (by decide +kernel)⟩
        · exact ⟨49, by decide +kernel, .inr (by decide +kernel)⟩
      obtain ⟨ch, hch, hc⟩ := hb
      refine ⟨"01", e, ch, rfl, rfl, by decide +kernel, hch, _, b D _ (p1.ne_p nD) hD, ?_, ys ++ [⟨#[ch]⟩], ?_, ?_, ?_, ?_, p'.off (p1.ne_p nD) (p1.ne_c nD)⟩
      · exact Nat.lt_of_le_of_lt (show (ys.map V.str).length ≤ 1000 by rw [List.length_map]; omega) (by decide)
      · rw [upd_same, List.map_append]
        rfl
      · rw [List.length_append, hy]
        rfl
      · intro y hy
        rcases List.mem_append.mp hy with hy | hy
        · exact hys y hy
        · rw [List.mem_singleton.mp hy]
          exact hc
      · intro a o na ha
        have naD : a ≠ D := fun e => by
          rw [e, b1.free (p1.ne_p nD) nD] at ha
          cases ha
        rw [upd_ne naD]
        exact b a o na (bH a o na ha)
    · rintro H' ⟨ys, hD, hy, hys, bH, pj⟩
      have s1 : ∀ y ∈ ys, Sm 1 y := fun y h => by
        rcases hys y h with e | e <;> (rw [e]; exact ⟨by decide +kernel, by decide +kernel⟩)
      refine ⟨"", D, ys, rfl, rfl, .inl (SqL.of hD), ?_, ?_⟩
      · have := sum_ones s1
        have e : ((("" : String) : Str)).length = 0 := by decide +kernel
        rw [e]
        omega
      refine q _ H' bH (pj.mono (by omega)) (bits_iff.mpr fun ch hc => ?_) (Nat.le_trans (Sm.join s1).ln (by omega))
      rw [sg_join] at hc
      obtain ⟨l, hl, hc⟩ := List.mem_flatten.mp hc
      obtain ⟨y, hy, rfl⟩ := List.mem_map.mp hl
      rcases hys y hy with e | e
      · rw [e, show sg "0" = [48] by decide +kernel] at hc
        exact .inl (List.mem_singleton.mp hc)
      · rw [e, show sg "1" = [49] by decide +kernel] at hc
        exact .inr (List.mem_singleton.mp hc)
theorem scSize : FnScope ["pen", "size"] ["pen"] (defScope sSize) := ⟨rfl, rfl, rfl, by decide +kernel, rfl, by decide +kernel, by decide +kernel⟩
theorem ok_size {f fD : Addr} {fd fdD : FuncData} {k : Nat} (F : Fun K "_law_size" "_law_size" sSize f fd) (GD : FnOk P w K mg base CX0 k fD fdD ["pen", "below"] spDraw) (FD : Fun K "_law_draw" "_law_draw" sDraw fD fdD) (bD : Binds K fdD ["pen", "below"] []) (gD : mg "_law_draw" = some (.ref fD))
    (ml : mg "len" = none) : FnOk P w K mg base CX0 (k + 1) f fd ["pen"] spSize := by
  refine F.ok scSize (fun vs H Q E h => ?_) (fun cdv A outer s H vs Q E hr h => ?_)
  · obtain ⟨p, c, n, m, rfl, _⟩ := h
    rfl
  · obtain ⟨p, c, n, m, rfl, hp, hn, hm, q⟩ := h
    have nd := scSize.nd
    have hnB : n + 100 ≤ 1000000000000 := hn
    refine ⟨_, pss_cons (ps_set (i := 1) nd rfl (.inl rfl) (pe_ix ix_list (pe_lst (pa_cons pe_int (pa_cons pe_int (pa_cons pe_int (pa_cons pe_int (pa_cons pe_int (pa_cons pe_int pa_nil)))))))
        (pe_call GD hr (by rfl) gD FD.kp bD .nil pass0 (pa_cons (pv 0) (pa_cons pe_int pa_nil))) (fun _ _ => rfl)))
      (pss_cons (ps_if (PW.pt (pw_and (pt_cmpR op_eq (pv 1) pe_int (nomark _)) (pw_and1 (pt_cmpR op_gt (pe_callB call_len_seq (by rfl) ml PySem.boot_len (pa_cons (pv 0) pa_nil)) pe_int (nomark _))))) (pss_one (ps_ret pe_int)) pss_nil)
      (pss_cons (ps_if (pt_cmpR op_eq (pv 1) pe_int (nomark _)) (pss_one (ps_expr (pe_bm PySem.F.plainAttrs_list PySem.F.slot_list_append PySem.F.type_list_append mt_append (pv 0) (pa_cons pe_int pa_nil)))) pss_nil)
      (pss_one (ps_ret (pv 1))))), ?_⟩
    refine ⟨by show 6 ≤ sizeLine; decide, fun l nl => ?_⟩
    refine ⟨.ref p, rfl, p, c, n, m, 6, rfl, hp.keep (same_upd nl), by show n ≤ 1000000000000; omega, by decide, by decide, fun d H1 d0 d1 b1 p1 => ?_⟩
    have b1' : But p H H1 := (But.of_same (same_upd nl)).trans b1
    have hz : ∃ z : Nat, atI ([.int 1, .int 2, .int 3, .int 3, .int 4, .int 32] : List V) d = some (.int z) ∧ 1 ≤ z ∧ z ≤ 32 := by
      obtain rfl | rfl | rfl | rfl | rfl | rfl : d = 0 ∨ d = 1 ∨ d = 2 ∨ d = 3 ∨ d = 4 ∨ d = 5 := by omega
      · exact ⟨1, rfl, by decide, by decide⟩
      · exact ⟨2, rfl, by decide, by decide⟩
      · exact ⟨3, rfl, by decide, by decide⟩
      · exact ⟨3, rfl, by decide, by decide⟩
      · exact ⟨4, rfl, by decide, by decide⟩
      · exact ⟨32, rfl, by decide, by decide⟩
    obtain ⟨z, ez, z1, z32⟩ := hz
    refine ⟨l, _, d, _, rfl, rfl, SqL.of (b1 l _ (hp.ne_p nl) upd_same), ez, ?_⟩
    obtain ⟨ns, i, st, P1⟩ := id p1
    have hP : H1 p = some (.lst (.ref c :: .int i :: .int st :: m)) := P1.at_
    refine ⟨.int z, rfl, rfl, _, rfl, ite2 (fun e => ?_) (fun e => ?_)⟩
    · refine ⟨.ref p, rfl, p, _, rfl, .inl (SqL.of hP), _, _, rfl, rfl, _, rfl, ite2 (fun _ => q 5 m H1 b1' p1 hm (by decide) (by decide)) (fun e2 => ?_)⟩
      have hm0 : m = [] := by
        cases m with
        | nil => rfl
        | cons x r =>
          refine absurd (decide_eq_true ?_) e2
          rw [List.length_cons, List.length_cons, List.length_cons, List.length_cons]
          omega
      subst hm0
      refine ⟨.int z, rfl, rfl, _, rfl, ite2 (fun _ => ?_) (fun e3 => absurd e e3)⟩
      refine ⟨.ref p, rfl, .inl ⟨rfl, _, SqL.of hP⟩, p, _, _, rfl, rfl, hP, by show 3 < sizeLine; decide, ?_⟩
      refine ⟨.int z, rfl, q z [.int 1] _ (b1'.trans .upd) ⟨ns, i, st, upd_same, ?_, P1.len, P1.i0, P1.i1, P1.s0⟩ (Nat.le_refl _) z1 z32⟩
      rw [upd_ne P1.ne]
      exact P1.cells
    · refine ⟨.int z, rfl, rfl, _, rfl, ite2 (fun e3 => absurd e3 e) (fun _ => ?_)⟩
      exact ⟨.int z, rfl, q z m H1 b1' p1 hm z1 z32⟩
end
section
variable {P : Program} {w : World} {K : PySem.W.Frag} {mg : Str → Option Value} {base : Heap}
theorem scPrefixes : FnScope ["pen", "size", "most", "found", "turn", "start", "prefix"] ["pen", "size", "most"] (defScope sPrefixes) := ⟨rfl, rfl, rfl, by decide +kernel, rfl, by decide +kernel, by decide +kernel⟩
theorem ok_prefixes {f fD fB : Addr} {fd fdD fdB : FuncData} {k : Nat} (F : Fun K "_law_prefixes" "_law_prefixes" sPrefixes f fd) (GD : FnOk P w K mg base CX0 k fD fdD ["pen", "below"] spDraw) (FD : Fun K "_law_draw" "_law_draw" sDraw fD fdD) (bD : Binds K fdD ["pen", "below"] []) (gD : mg "_law_draw" = some (.ref fD))
    (GB : FnOk P w K mg base CX0 k fB fdB ["pen", "size"] spBits) (FB : Fun K "_law_bits" "_law_bits" sBits fB fdB) (bB : Binds K fdB ["pen", "size"] []) (gB : mg "_law_bits" = some (.ref fB))
    (mr : mg "range" = none) (ml : mg "len" = none) (mm : mg "min" = none) : FnOk P w K mg base CX0 (k + 1) f fd ["pen", "size", "most"] spPrefixes := by
  refine F.ok scPrefixes (fun vs H Q E h => ?_) (fun cdv A outer s H vs Q E hr h => ?_)
  · obtain ⟨p, c, n, z, k, m, rfl, _⟩ := h
    rfl
  · obtain ⟨p, c, n, z, most, m, rfl, hp, hn, hz, hk, q⟩ := h
    have nd := scPrefixes.nd
    have hu := hr.units
    have hnB : n + 1000 ≤ 1000000000000 := hn
    refine ⟨_, pss_cons (ps_set (i := 3) nd rfl (.inl rfl) (pe_lst pa_nil))
      (pss_cons (ps_for PassesOwn.never rfl (pi_range1 (by rfl) mr (pa_cons (pe_call GD hr (by rfl) gD FD.kp bD .nil pass0 (pa_cons (pv 0) (pa_cons (pe_op op_add (pv 2) pe_int) pa_nil))) pa_nil)) (pg_name (i := 4) nd rfl (.inl rfl))
        (C8.pss_cut (ps_set (i := 5) nd rfl (.inl rfl) (pe_ifExp (PW.pt (pw_and (pt_cmpR (op_neD hu) (pv 3) (pe_lst pa_nil) (nomark _)) (pw_and1 (pt_cmpR op_eq (pe_call GD hr (by rfl) gD FD.kp bD .nil pass0 (pa_cons (pv 0) (pa_cons pe_int pa_nil))) pe_int (nomark _)))))
            (pe_ix ix_list (pv 3) (pe_call GD hr (by rfl) gD FD.kp bD .nil pass0 (pa_cons (pv 0) (pa_cons (pe_callB call_len_seq (by rfl) ml PySem.boot_len (pa_cons (pv 3) pa_nil)) pa_nil))) (fun _ _ => rfl)) pe_str))
        (pss_cons (ps_set (i := 6) nd rfl (.inl rfl) (pe_slice sl_str (pe_op op_add_str (pv 5) (pe_call GB hr (by rfl) gB FB.kp bB .nil pass0 (pa_cons (pv 0) (pa_cons (pe_callB (call_min2 rfl) (by rfl) mm (by decide +kernel) (pa_cons (pv 1) (pa_cons pe_int pa_nil))) pa_nil)))) po_none (po_some (pv 1))))
        (pss_one (ps_if (pt_cmpR op_notIn_seq (pv 6) (pv 3) (by rfl)) (pss_one (ps_expr (pe_bm PySem.F.plainAttrs_list PySem.F.slot_list_append PySem.F.type_list_append mt_append (pv 3) (pa_cons (pv 6) pa_nil)))) pss_nil)))))
      (pss_one (ps_ret (pv 3)))), ?_⟩
    refine ⟨Nat.zero_le _, fun l nl => ?_⟩
    have lp : l ≠ p := hp.ne_p nl
    have lc : l ≠ c := hp.ne_c nl
    refine ⟨.ref p, rfl, .int most, rfl, _, _, rfl, rfl, p, c, n, m, (most : Int) + 1, rfl, hp.keep (same_upd nl), by show n ≤ 1000000000000; omega, by omega, by omega, fun d H1 d0 d1 b1 p1 => ?_⟩
    refine ⟨d, rfl, by omega, by omega, for_range (n := d.toNat) (fun i σ H' => ∃ xs x4 x5 x6, σ = [some (.ref p), some (.int z), some (.int most), some (.ref l), x4, x5, x6] ∧ H' l = some (.lst (xs.map V.str)) ∧ PfxL z xs ∧ xs.length ≤ i ∧ But p H H' ∧ Pen H' p c (n + 1 + 8 * i) m) ?_ ?_ ?_⟩
    · exact ⟨[], _, _, _, rfl, b1 l _ lp upd_same, ⟨List.nodup_nil, fun _ h => absurd h List.not_mem_nil, fun _ h => absurd h List.not_mem_nil⟩, Nat.le_refl _, (But.of_same (same_upd nl)).trans b1, p1⟩
    · rintro i σ H' hi ⟨xs, x4, x5, x6, rfl, hl, hx, hxl, bH, pH⟩
      have hxz : xs.length ≤ 20 := by omega
      refine ⟨fun σ' H'' => ∃ x : Str, σ' = [some (.ref p), some (.int z), some (.int most), some (.ref l), some (.int (0 + i)), some (.str x), x6] ∧ isBits x = true ∧ x.length ≤ z ∧ H'' l = some (.lst (xs.map V.str)) ∧ But p H H'' ∧ Pen H'' p c (n + 1 + 8 * i + 2) m, ?_, ?_⟩
      · refine ⟨.ref l, rfl, Nat.zero_le _, fun e ne => ?_⟩
        have s1 := same_upd (o := .lst []) ne
        have hl1 := s1 _ _ hl
        refine ⟨.list (xs.map PyData.str), .list [], .lst (SqL.of hl1) (dpAll_strs xs), .lst (SqL.of upd_same) .nil, shaped_strs hx.bits, rfl, _, rfl, ?_⟩
        rw [eqv_nilS]
        have pH1 := pH.keep s1
        have bH1 := bH.trans (.of_same s1)
        revert hl1 pH1 bH1
        generalize upd H' e (.lst []) = H2
        intro hl1 pH1 bH1
        by_cases hz0 : xs = []
        · rw [decide_eq_true hz0]
          refine iteF (iteF ?_)
          exact ⟨"", rfl, bits_empty, Nat.zero_le _, hl1, bH1, pH1.mono (by omega)⟩
        · rw [decide_eq_false hz0]
          refine iteT ?_
          refine ⟨.ref p, rfl, p, c, _, m, 2, rfl, pH1, by show n + 1 + 8 * i ≤ 1000000000000; omega, by decide, by decide, fun e H3 e0 e1 b3 p3 => ?_⟩
          refine ⟨rfl, _, rfl, ite2 (fun _ => ?_) (fun _ => ?_)⟩
          · have hl3 := b3 _ _ lp hl1
            have hpos : 0 < xs.length := List.length_pos_iff.mpr hz0
            refine ⟨.ref l, rfl, .ref p, rfl, .ref l, rfl, l, _, rfl, .inl (SqL.of hl3), p, c, _, m, (((xs.map V.str).length : Nat) : Int), rfl, p3, by show n + 1 + 8 * i + 1 ≤ 1000000000000; omega, by rw [List.length_map]; omega, by rw [List.length_map]; omega, fun g H4 g0 g1 b4 p4 => ?_⟩
            rw [List.length_map] at g1
            have hg : g.toNat < xs.length := by omega
            refine ⟨l, _, g, .str xs[g.toNat], rfl, rfl, SqL.of (b4 _ _ lp hl3), at_of (j := g.toNat) (by omega) (by rw [List.getElem?_map, List.getElem?_eq_getElem hg]; rfl), ?_⟩
            exact ⟨xs[g.toNat], rfl, hx.bits _ (List.getElem_mem hg), hx.len _ (List.getElem_mem hg), b4 _ _ lp hl3, (bH1.trans b3).trans b4, p4⟩
          · exact ⟨"", rfl, bits_empty, Nat.zero_le _, b3 _ _ lp hl1, bH1.trans b3, p3.mono (by omega)⟩
      · rintro σ' H'' ⟨x, rfl, hxb, hxz2, hl2, bH2, pH2⟩
        have hmin : (if (5 : Int) < (z : Int) then (5 : Int) else (z : Int)) = ((min 5 z : Nat) : Int) := by
          by_cases h5 : (5 : Int) < (z : Int)
          · rw [if_pos h5]
            omega
          · rw [if_neg h5]
            omega
        refine ⟨.str x, rfl, .ref p, rfl, .int z, rfl, _, _, rfl, p, c, _, min 5 z, m, ?_, pH2, by show n + 1 + 8 * i + 2 + 100 ≤ 1000000000000; omega, by omega, fun y H3 b3 p3 hyb hyl => ?_⟩
        · show [V.ref p, V.int (if (5 : Int) < (z : Int) then 5 else z)] = _
          rw [hmin]
        refine ⟨_, _, rfl, rfl, Nat.le_trans (show x.length + y.length ≤ 1000 by omega) (by decide), .int z, rfl, z, rfl, _, rfl, ?_, ?_⟩
        · rw [strLen_append]
          exact Nat.le_trans (show x.length + y.length ≤ 1000 by omega) (by decide)
        have hb : isBits (cutS (x ++ y) none (some (z : Int))) = true := bits_cut (bits_app hxb hyb) _ _
        have hlz := take_len (x ++ y) z
        revert hb hlz
        generalize cutS (x ++ y) none (some (z : Int)) = pf
        intro hb hlz
        have hl3 := b3 _ _ lp hl2
        have bH3 := bH2.trans b3
        refine ⟨.str pf, rfl, .ref l, rfl, l, _, rfl, .inl (SqL.of hl3), rfl, flat_str xs, _, rfl, ?_⟩
        show if (if true = true then !inV (.str pf) (xs.map V.str) else inV (.str pf) (xs.map V.str)) = true then _ else _
        rw [if_pos rfl, inV_str]
        have hp3 : Pen H3 p c (n + 1 + 8 * (i + 1)) m := p3.mono (by omega)
        by_cases hmem : pf ∈ xs
        · rw [decide_eq_true hmem]
          refine iteF ?_
          exact ⟨xs, _, _, _, rfl, hl3, hx, by omega, bH3, hp3⟩
        · rw [decide_eq_false hmem]
          refine iteT ?_
          refine ⟨.ref l, rfl, .inl ⟨rfl, _, SqL.of hl3⟩, .str pf, rfl, l, _, _, rfl, rfl, hl3, ?_, ?_⟩
          · exact Nat.lt_of_le_of_lt (show (xs.map V.str).length ≤ 1000 by rw [List.length_map]; omega) (by decide)
          · refine ⟨xs ++ [pf], _, _, _, rfl, by rw [upd_same, List.map_append]; rfl, ⟨?_, ?_, ?_⟩, by rw [List.length_append, List.length_singleton]; omega, ?_, hp3.off lp lc⟩
            · rw [List.nodup_append]
              refine ⟨hx.nd, (List.nodup_cons.mpr ⟨List.not_mem_nil, List.nodup_nil⟩), fun a ha b hb e => hmem ?_⟩
              rw [List.mem_singleton.mp hb] at e
              rw [← e]
              exact ha
            · intro y hy
              rcases List.mem_append.mp hy with hy | hy
              · exact hx.bits y hy
              · rw [List.mem_singleton.mp hy]
                exact hb
            · intro y hy
              rcases List.mem_append.mp hy with hy | hy
              · exact hx.len y hy
              · rw [List.mem_singleton.mp hy]
                exact hlz
            · intro a o na ha
              have nal : a ≠ l := ne_of_none ha nl
              rw [upd_ne nal]
              exact bH3 a o na ha
    · rintro σ H' ⟨xs, x4, x5, x6, rfl, hl, hx, hxl, bH, pH⟩
      have hd : d.toNat ≤ most := by omega
      exact ⟨.ref l, rfl, q l xs H' bH (pH.mono (by omega)) nl hl hx (by omega)⟩
end
/-! ### is_whole, is_width -/
def spWhole (K : PySem.W.Frag) : Sp := fun vs H Q _ => ∃ v t, vs = [v] ∧ TyI K H v t ∧ Q (.bl (isWholeV v)) H
def spWidth (K : PySem.W.Frag) : Sp := fun vs H Q _ => ∃ v t, vs = [v] ∧ TyI K H v t ∧ Q (.bl (isWidthV v)) H
section
variable {P : Program} {w : World} {K : PySem.W.Frag} {mg : Str → Option Value} {base : Heap}
theorem scWhole : FnScope ["thing"] ["thing"] (defScope sWhole) := ⟨rfl, rfl, rfl, by decide +kernel, rfl, by decide +kernel, by decide +kernel⟩
theorem ok_whole {f : Addr} {fd : FuncData} {k : Nat} (F : Fun K "is_whole" "is_whole" sWhole f fd) (mi : mg "isinstance" = none) (mn : mg "int" = none) (mb : mg "bool" = none) : FnOk P w K mg base CX0 (k + 1) f fd ["thing"] (spWhole K) := by
  refine F.ok scWhole (fun vs H Q E h => ?_) (fun cdv A outer s H vs Q E hr h => ?_)
  · obtain ⟨v, t, rfl, _⟩ := h
    rfl
  · obtain ⟨v, t, rfl, ty, q⟩ := h
    refine ⟨_, pss_one (ps_ret (pe_and (pe_callB call_isi (by rfl) mi (by decide +kernel) (pa_cons (pv 0) (pa_cons (pe_bltn (v := .ty "int") (by rfl) mn (by decide +kernel) rfl) pa_nil)))
      (pe_one (pe_not (pe_callB call_isi (by rfl) mi (by decide +kernel) (pa_cons (pv 0) (pa_cons (pe_bltn (v := .ty "bool") (by rfl) mb (by decide +kernel) rfl) pa_nil))))))), ?_⟩
    refine ⟨v, rfl, v, .ty "int", .type t, .type "int", _, rfl, .ty _, ty.ty, ty.int, _, rfl, ?_⟩
    have two : Q (.bl (isWholeV v)) H → isIntish v = true → (!isBoolV v) = isWholeV v := fun _ h => by cases v <;> first | rfl | cases h
    cases e : isIntish v with
    | true =>
      refine iteT ⟨v, rfl, v, .ty "bool", .type t, .type "bool", _, rfl, .ty _, ty.ty, ty.bool, _, rfl, ?_⟩
      rw [two q e]
      exact q
    | false =>
      refine iteF ?_
      have e2 : isWholeV v = false := by cases v <;> first | rfl | cases e
      rw [e2] at q
      exact q
theorem scWidth : FnScope ["thing"] ["thing"] (defScope sWidth) := ⟨rfl, rfl, rfl, by decide +kernel, rfl, by decide +kernel, by decide +kernel⟩
theorem ok_width {f fW : Addr} {fd fdW : FuncData} {k : Nat} {tk : Tok} (F : Fun K "is_width" "is_width" sWidth f fd) (GW : FnOk P w K mg base CX0 k fW fdW ["thing"] (spWhole K)) (FW : Fun K "is_whole" "is_whole" sWhole fW fdW) (bW : Binds K fdW ["thing"] []) (gW : mg "is_whole" = some (.ref fW))
    (mW : mg "WIDEST" = some (.int 32 tk)) : FnOk P w K mg base CX0 (k + 1) f fd ["thing"] (spWidth K) := by
  refine F.ok scWidth (fun vs H Q E h => ?_) (fun cdv A outer s H vs Q E hr h => ?_)
  · obtain ⟨v, t, rfl, _⟩ := h
    rfl
  · obtain ⟨v, t, rfl, ty, q⟩ := h
    refine ⟨_, pss_one (ps_ret (pe_and (pe_call GW hr (by rfl) gW FW.kp bW .nil pass0 (pa_cons (pv 0) pa_nil)) (pe_one (pe_chain op_le op_le pe_int (pv 0) (pe_glob (v := .int 32) rfl mW ⟨_, rfl⟩))))), ?_⟩
    refine ⟨v, rfl, v, t, rfl, ty, _, rfl, ?_⟩
    cases v with
    | int z =>
      refine iteT ⟨.int z, rfl, _, _, rfl, rfl, _, rfl, ?_⟩
      have q' : Q (.bl (decide ((1 : Int) ≤ z) && decide (z ≤ 32))) H := q
      by_cases h1 : (1 : Int) ≤ z
      · rw [decide_eq_true h1] at q' ⊢
        rw [Bool.true_and] at q'
        exact iteT ⟨_, _, rfl, rfl, q'⟩
      · rw [decide_eq_false h1] at q' ⊢
        rw [Bool.false_and] at q'
        exact iteF q'
    | _ => exact iteF q
end
/-! ### the class of maps -/
abbrev sInit : Stmt := inClass sCls 0
abbrev sChk : Stmt := inClass sCls 2
abbrev sLongest : Stmt := inClass sCls 8
theorem wr_ : ¬ (("_width" : Str) = "_rows") := by decide +kernel
theorem rw_ : ¬ (("_rows" : Str) = "_width") := by decide +kernel
/-- the attributes of a map -/
def flds (w : Nat) (e : Addr) : List (Str × V) := putF "_rows" (.ref e) (putF "_width" (.int w) [])
theorem flds_w (w : Nat) (e : Addr) : (flds w e).lookup ("_width" : Str) = some (.int w) := by
  unfold flds
  rw [lookup_putF, if_neg wr_, lookup_putF, if_pos rfl]
theorem flds_r (w : Nat) (e : Addr) : (flds w e).lookup ("_rows" : Str) = some (.ref e) := by
  unfold flds
  rw [lookup_putF, if_pos rfl]
theorem flds_no (w : Nat) (e : Addr) {m : Str} (h1 : ¬ m = "_rows") (h2 : ¬ m = "_width") : (flds w e).lookup m = none := by
  unfold flds
  rw [lookup_putF, if_neg h1, lookup_putF, if_neg h2]
  rfl
/-- at x a map of the class at C, its rows at e -/
structure MapAt (C : Addr) (H : Hp) (x e : Addr) (w : Nat) (kvs : List (Key × V)) : Prop where
  ob : ∃ dx, H x = some (.ins C dx (flds w e))
  dc : H e = some (.dK kvs)
theorem MapAt.same {C : Addr} {H H' : Hp} {x e : Addr} {w : Nat} {kvs : List (Key × V)} (k : Same H H') (h : MapAt C H x e w kvs) : MapAt C H' x e w kvs := by
  obtain ⟨⟨dx, h1⟩, h2⟩ := h
  exact ⟨⟨dx, k _ _ h1⟩, k _ _ h2⟩
theorem MapAt.but {C : Addr} {H H' : Hp} {p x e : Addr} {w : Nat} {kvs : List (Key × V)} (k : But p H H') (n1 : x ≠ p) (n2 : e ≠ p) (h : MapAt C H x e w kvs) : MapAt C H' x e w kvs := by
  obtain ⟨⟨dx, h1⟩, h2⟩ := h
  exact ⟨⟨dx, k _ _ n1 h1⟩, k _ _ n2 h2⟩
/-- the same rows, in ascending order -/
structure Sorted (xs : List Str) (kvs kvs' : List (Key × V)) (ys : List Str) : Prop where
  keys : kvs'.map (·.1) = ys.map Sum.inr
  perm : ys.Perm xs
  up : sortedS ys = true
  val : ∀ y ∈ xs, valV kvs' (.inr y) = valV kvs (.inr y)
structure ClsF (K : PySem.W.Frag) (C : Addr) : Prop where
  cl : Cls K C
  nW : NoAttr K C "_width"
  nR : NoAttr K C "_rows"
/-- _checked of a value of the right kind: the value -/
def spChk (K : PySem.W.Frag) (C : Addr) (vok : V → Prop) : Sp := fun vs H Q _ => ∃ (x dx : Addr) (fs : List (Str × V)) (v : V), vs = [.ref x, v] ∧ H x = some (.ins C dx fs) ∧ (∀ m : Str, ¬ m = "_width" → fs.lookup m = none) ∧ vok v ∧ Q v H
def spInit (K : PySem.W.Frag) (C : Addr) (vok : V → Prop) : Sp := fun vs H Q _ => ∃ (x dx d : Addr) (w : Nat) (xs : List Str) (kvs : List (Key × V)), vs = [.ref x, .int w, .ref d] ∧ H x = some (.ins C dx []) ∧ 1 ≤ w ∧ w ≤ 32 ∧ H d = some (.dK kvs) ∧ RowsOk w vok xs kvs ∧ xs.length < 64 ∧
  ∀ (e : Addr) (ys : List Str) (kvs' : List (Key × V)) (H' : Hp), H e = none → Sorted xs kvs kvs' ys → MapAt C H' x e w kvs' → (∀ b o, H b = some o → b ≠ x → H' b = some o) → Q .non H'
def spLongest (K : PySem.W.Frag) (C : Addr) : Sp := fun vs H Q _ => ∃ (x e : Addr) (w : Nat) (xs : List Str) (kvs : List (Key × V)) (y : Str), vs = [.ref x, .str y] ∧ MapAt C H x e w kvs ∧ kvs.map (·.1) = xs.map Sum.inr ∧ isBits y = true ∧ y.length ≤ w ∧ w ≤ 32 ∧
  ∀ r : Option Str, IsLong xs y r → Q (optV r) H
section
variable {P : Program} {w : World} {K : PySem.W.Frag} {mg : Str → Option Value} {base : Heap}
theorem scChk : FnScope ["self", "value"] ["self", "value"] (defScope sChk) := ⟨rfl, rfl, rfl, by decide +kernel, rfl, by decide +kernel, by decide +kernel⟩
theorem ok_chk {f fW C : Addr} {fd fdW : FuncData} {k : Nat} (F : Fun K "_checked" "PrefixMap._checked" sChk f fd) (GW : FnOk P w K mg base CX0 k fW fdW ["thing"] (spWhole K)) (FW : Fun K "is_whole" "is_whole" sWhole fW fdW) (bW : Binds K fdW ["thing"] []) (gW : mg "is_whole" = some (.ref fW)) :
    FnOk P w K mg base CX0 (k + 1) f fd ["self", "value"] (spChk K C isIntV) := by
  refine F.ok scChk (fun vs H Q E h => ?_) (fun cdv A outer s H vs Q E hr h => ?_)
  · obtain ⟨x, dx, fs, v, rfl, _⟩ := h
    rfl
  · obtain ⟨x, dx, fs, v, rfl, hx, _, hv, q⟩ := h
    refine ⟨_, pss_cons (ps_if (pt_not (pt_val (pe_call GW hr (by rfl) gW FW.kp bW .nil pass0 (pa_cons (pv 1) pa_nil)))) (pss_one ps_never) pss_nil) (pss_one (ps_ret (pv 1))), ?_⟩
    cases v with
    | int i =>
      obtain ⟨t, ht⟩ := TyI.of (K := K) (H := H) (N := fun _ => True) (.int i)
      exact ⟨.int i, rfl, .int i, t, rfl, ht, _, rfl, iteF ⟨.int i, rfl, q⟩⟩
    | _ => exact hv.elim
theorem scInit : FnScope ["self", "width", "rows", "prefix"] ["self", "width", "rows"] (defScope sInit) := ⟨rfl, rfl, rfl, by decide +kernel, rfl, by decide +kernel, by decide +kernel⟩
theorem ok_init {f fW fP fC C : Addr} {fd fdW fdP fdC : FuncData} {k : Nat} {vok : V → Prop} (F : Fun K "__init__" "PrefixMap.__init__" sInit f fd) (T : ClsF K C) (GW : FnOk P w K mg base CX0 k fW fdW ["thing"] (spWidth K)) (FW : Fun K "is_width" "is_width" sWidth fW fdW) (bW : Binds K fdW ["thing"] []) (gW : mg "is_width" = some (.ref fW))
    (GP : FnOk P w K mg base CX0 k fP fdP ["thing", "width"] (spPfx K)) (FP : Fun K "is_prefix" "is_prefix" sPfx fP fdP) (bP : Binds K fdP ["thing", "width"] []) (gP : mg "is_prefix" = some (.ref fP))
    (GC : FnOk P w K mg base CX0 k fC fdC ["self", "value"] (spChk K C vok)) (mC : Meth K C "_checked" fC) (bC : Binds K fdC ["self", "value"] []) (mi : mg "isinstance" = none) (md : mg "dict" = none) (ms : mg "sorted" = none) :
    FnOk P w K mg base CX0 (k + 1) f fd ["self", "width", "rows"] (spInit K C vok) := by
  refine F.ok scInit (fun vs H Q E h => ?_) (fun cdv A outer s H vs Q E hr h => ?_)
  · obtain ⟨x, dx, d, w, xs, kvs, rfl, _⟩ := h
    rfl
  · obtain ⟨x, dx, d, w, xs, kvs, rfl, hx, w1, w32, hd, ok, h64, q⟩ := h
    have nd := scInit.nd
    have hu := hu_of hr
    refine ⟨_, pss_cons (ps_if (pt_not (pt_val (pe_call GW hr (by rfl) gW FW.kp bW .nil pass0 (pa_cons (pv 1) pa_nil)))) (pss_one ps_never) pss_nil)
      (pss_cons (ps_if (pt_not (pt_val (pe_callB call_isi (by rfl) mi (by decide +kernel) (pa_cons (pv 2) (pa_cons (pe_bltn (v := .ty "dict") (by rfl) md (by decide +kernel) rfl) pa_nil))))) (pss_one ps_never) pss_nil)
      (pss_cons (ps_lock (ps_for PassesOwn.never rfl (pi_keys (pv 2)) (pg_name (i := 3) nd rfl (.inl rfl))
        (pss_one (ps_if (pt_not (pt_val (pe_call GP hr (by rfl) gP FP.kp bP .nil pass0 (pa_cons (pv 3) (pa_cons (pv 1) pa_nil))))) (pss_one ps_never) pss_nil))))
      (pss_cons (ps_fld (pv 0) (pv 1) rfl)
      (pss_one (ps_fld (pv 0) (pe_dc (own := [("prefix", 3)]) (g := gName 3) (tt := tYes) rfl nd (pi_list (pe_callB (call_sortedD rfl) (by rfl) ms (by decide +kernel) (pa_cons (pv 2) pa_nil)))
        (blkOk_by (N := ["self", "width", "rows", "prefix"]) (sc := defScope sInit) (by decide +kernel)) (fun _ _ _ _ _ => pg_name (i := 3) nd rfl (.inl rfl)) (fun _ _ _ _ _ => pts_nil) (fun _ _ _ _ _ => pv 3)
        (fun _ _ _ _ _ => pe_meth (pv 0) T.cl mC GC hr bC .nil pass0 (pa_cons (pe_dget hu (pv 2) (pv 3) (fun _ _ => rfl)) pa_nil))) rfl))))), ?_⟩
    -- the width
    obtain ⟨t, ht⟩ := TyI.of (K := K) (H := H) (N := fun _ => True) (.int (w : Int))
    refine ⟨.int w, rfl, .int w, t, rfl, ht, _, rfl, ?_⟩
    have hw : isWidthV (.int (w : Int)) = true := by
      show (decide ((1 : Int) ≤ w) && decide ((w : Int) ≤ 32)) = true
      rw [decide_eq_true (by omega), decide_eq_true (by omega)]
      rfl
    rw [hw]
    refine iteF ?_
    -- a dict
    refine ⟨.ref d, rfl, .ref d, .ty "dict", .type "dict", .type "dict", _, rfl, .ty _, .base (.dK hd), kitv (b := true) (by decide +kernel), _, rfl, iteF ?_⟩
    -- its prefixes
    refine ⟨d, .dK kvs, hd, trivial, fun od => ?_⟩
    refine ⟨.ref d, rfl, d, od, rfl, .inl ⟨kvs, upd_same, ?_⟩⟩
    refine for_it walk_keys (fun _ σ H' => (∃ x3, σ = [some (.ref x), some (.int w), some (.ref d), x3]) ∧ H' = upd H d (.frz od (.dK kvs))) ⟨⟨_, rfl⟩, rfl⟩ (fun _ _ _ _ h => by rw [h.2, upd_same]) ?_ ?_
    · rintro i v σ H1 H2 hi ⟨⟨x3, rfl⟩, rfl⟩ ⟨rfl, k, v', hkv, rfl⟩
      obtain ⟨y, hy, rfl⟩ := key_at ok.keys hkv
      have hym := List.mem_of_getElem? hy
      refine ⟨.str y, rfl, .int w, rfl, .str y, w, rfl, TyS.of (N := fun _ => True) (.str y), fun z e => ?_, _, rfl, ?_⟩
      · rw [← V.str.inj e]
        exact Nat.le_trans (ok.pfx.len y hym) (Nat.le_trans w32 (by decide))
      have e : isPfx (.str y) (w : Int) = true := by
        show (decide ((y.length : Int) ≤ w) && isBits y) = true
        rw [decide_eq_true (by have := ok.pfx.len y hym; omega), ok.pfx.bits y hym]
        rfl
      rw [e]
      exact iteF ⟨⟨_, rfl⟩, rfl⟩
    · rintro σ H1 ⟨⟨x3, rfl⟩, rfl⟩
      refine ⟨upd_same, ?_⟩
      rw [upd_back hd]
      -- the attributes
      refine ⟨.int w, rfl, .ref x, rfl, x, C, dx, [], rfl, hx, T.cl, T.nW, (by show 0 < 1000; decide), ?_⟩
      have ndx : d ≠ x := ne_of hd hx (fun e => nomatch e)
      have hdW : (upd H x (.ins C dx (putF "_width" (.int w) []))) d = some (.dK kvs) := by rw [upd_ne ndx]; exact hd
      refine ⟨.ref d, rfl, d, kvs, xs, rfl, .inl hdW, ok.keys, h64, fun ys l hperm hup nl => ?_⟩
      have hll : (upd (upd H x (.ins C dx (putF "_width" (.int w) []))) l (.lst (ys.map V.str))) l = some (.lst (ys.map V.str)) := upd_same
      have s1 := same_upd (o := .lst (ys.map V.str)) nl
      have hx1 := s1 _ _ (upd_same (H := H) (a := x) (o := .ins C dx (putF "_width" (.int w) [])))
      have hd1 := s1 _ _ hdW
      have old1 : ∀ b o, H b = some o → b ≠ x → (upd (upd H x (.ins C dx (putF "_width" (.int w) []))) l (.lst (ys.map V.str))) b = some o := fun b o e nb => s1 b o (by rw [upd_ne nb]; exact e)
      revert hll hx1 hd1 old1
      generalize upd (upd H x (.ins C dx (putF "_width" (.int w) []))) l (.lst (ys.map V.str)) = H2
      intro hll hx1 hd1 old1
      refine ⟨l, rfl, ⟨_, SqL.of hll⟩, fun G nG => ?_⟩
      have nxG : x ≠ G := ne_of_none hx1 nG
      have ndG : d ≠ G := ne_of_none hd1 nG
      have kn : (kvs.map (·.1)).Nodup := by
        rw [ok.keys]
        exact ok.pfx.nd.map Sum.inr (fun a b h e => h (Sum.inr.inj e))
      refine dc_it walk_list (fun i H' => ∃ kvs', H' G = some (.dK kvs') ∧ kvs'.map (·.1) = (ys.take i).map Sum.inr ∧ (∀ y v, (Sum.inr y, v) ∈ kvs' → valV kvs (.inr y) = some v) ∧ ∀ b o, H2 b = some o → H' b = some o) ⟨[], upd_same, rfl, fun _ _ h => (List.not_mem_nil h).elim, fun b o e => by rw [upd_ne (ne_of_none e nG)]; exact e⟩
        (fun _ H' _ h => by obtain ⟨_, _, _, _, k⟩ := h; exact SqL.of (k _ _ hll)) ?_ ?_
      · rintro i v H3 H4 hi ⟨kvs', hG, hk, hv, keep⟩ ⟨rfl, hvi⟩
        rw [List.getElem?_map] at hvi
        have hil : i < ys.length := by
          rw [List.length_map] at hi
          exact hi
        rw [List.getElem?_eq_getElem hil] at hvi
        obtain rfl : V.str ys[i] = v := Option.some.inj hvi
        have hym : ys[i] ∈ xs := hperm.mem_iff.mp (List.getElem_mem hil)
        refine ⟨rfl, yes_if ?_⟩
        have hkm : (Sum.inr ys[i] : Key) ∈ kvs.map (·.1) := (inr_mem ok.keys _).mpr hym
        obtain ⟨v, hval⟩ := Option.isSome_iff_exists.mp (valV_mem.mpr hkm)
        have hmem : (Sum.inr ys[i], v) ∈ kvs := by
          unfold valV at hval
          obtain ⟨p, hp, e⟩ := Option.map_eq_some_iff.mp hval
          have h1 := List.mem_of_find?_eq_some hp
          have h2 : p.1 = Sum.inr ys[i] := by
            have z := List.find?_some hp
            exact of_decide_eq_true z
          rw [← h2, ← e]
          exact h1
        refine ⟨.str ys[i], rfl, .ref x, rfl, x, dx, _, rfl, keep _ _ hx1, ?_, .ref d, rfl, .str ys[i], rfl, d, v, rfl, by rw [← hval]; exact DGet.k (k := .inr ys[i]) (keep _ _ hd1), ?_⟩
        · rw [lookup_putF, if_neg (by decide +kernel)]
          rfl
        refine ⟨x, dx, _, v, rfl, keep _ _ hx1, fun m nm => by rw [lookup_putF, if_neg nm]; rfl, ok.val _ hmem, kvs', .inr ys[i], rfl, hG, ?_, ?_⟩
        · have : kvs'.length = ((ys.take i).map Sum.inr : List Key).length := by rw [← hk, List.length_map]
          rw [List.length_map, List.length_take] at this
          have hp := hperm.length_eq
          exact Nat.lt_of_le_of_lt (show kvs'.length ≤ 1000 by omega) (by decide)
        have hnew : (Sum.inr ys[i] : Key) ∉ kvs'.map (·.1) := by
          rw [hk, List.mem_map]
          rintro ⟨z, hz, e⟩
          have ynd : ys.Nodup := hperm.nodup_iff.mpr ok.pfx.nd
          obtain ⟨j, hj, ej⟩ := List.mem_take_iff_getElem.mp hz
          have e2 : ys[j]'(by omega) = ys[i] := by rw [ej]; exact Sum.inr.inj e
          have := (List.getElem_inj ynd).mp e2
          omega
        refine ⟨kvs' ++ [(.inr ys[i], v)], by rw [upd_same, putK_end hnew], ?_, ?_, ?_⟩
        · rw [List.map_append, hk, List.take_add_one, List.getElem?_eq_getElem hil, List.map_append]
          rfl
        · intro y v' hm
          rcases List.mem_append.mp hm with hm | hm
          · exact hv y v' hm
          · obtain e := List.mem_singleton.mp hm
            cases e
            exact hval
        · intro b o e
          rw [upd_ne (ne_of_none e nG)]
          exact keep b o e
      · rintro H3 ⟨kvs', hG, hk, hv, keep⟩
        have etake : ys.take (ys.map V.str).length = ys := List.take_of_length_le (by rw [List.length_map]; exact Nat.le_refl _)
        rw [etake] at hk
        refine ⟨.ref x, rfl, x, C, dx, _, rfl, keep _ _ hx1, T.cl, T.nR, (by show 1 < 1000; decide), ?_⟩
        have ynd : ys.Nodup := hperm.nodup_iff.mpr ok.pfx.nd
        have kn' : (kvs'.map (·.1)).Nodup := by
          rw [hk]
          exact ynd.map Sum.inr (fun a b h e => h (Sum.inr.inj e))
        have hH : ∀ b, H2 b = none → H b = none := fun b hb => by
          cases e : H b with
          | none => rfl
          | some o =>
            by_cases hbx : b = x
            · rw [hbx, hx1] at hb
              cases hb
            · rw [old1 b o e hbx] at hb
              cases hb
        refine q G ys kvs' _ (hH G nG) ⟨hk, hperm, hup, fun y hy => ?_⟩ ⟨⟨dx, upd_same⟩, by rw [upd_ne nxG.symm]; exact hG⟩ fun b o e nb => by rw [upd_ne nb]; exact keep b o (old1 b o e nb)
        have hm : (Sum.inr y : Key) ∈ kvs'.map (·.1) := (inr_mem hk _).mpr (hperm.mem_iff.mpr hy)
        obtain ⟨p, hp, e⟩ := List.mem_map.mp hm
        obtain ⟨k', v⟩ := p
        have e' : k' = Sum.inr y := e
        subst e'
        rw [valV_some kn' hp, hv y v hp]
end
/-! ### tables -/
abbrev sTInit : Stmt := inClass sTab 0
abbrev sTgt : Stmt := inClass sTab 2
abbrev sTChk : Stmt := inClass sTab 3
abbrev sLook : Stmt := inClass sTab 5
abbrev sRows : Stmt := inClass sCls 4
abbrev letters : Str := "abcdefghijklmnopqrstuvwxyz"
/-- is_target -/
def isTgt (v : V) : Bool := match v with
  | .str x => decide ((1 : Int) ≤ x.length) && decide ((x.length : Int) ≤ 8) && onlyOf letters x
  | _ => false
def isTgtV (v : V) : Prop := isTgt v = true
def spTgt (K : PySem.W.Frag) : Sp := fun vs H Q _ => ∃ v : V, vs = [v] ∧ TyS K H v ∧ (∀ x, v = .str x → x.length ≤ sizeLine) ∧ Q (.bl (isTgt v)) H
def spAdr (K : PySem.W.Frag) : Sp := fun vs H Q _ => ∃ (x : Str) (w : Int), vs = [.str x, .int w] ∧ TyS K H (.str x) ∧ x.length ≤ sizeLine ∧ Q (.bl (isPfx (.str x) w && decide ((x.length : Int) = w))) H
/-- where a longest prefix leads -/
def leadV (kvs : List (Key × V)) (r : Option Str) : V := match r with
  | none => .non
  | some z => (valV kvs (.inr z)).getD .non
def spLook (K : PySem.W.Frag) (C : Addr) : Sp := fun vs H Q _ => ∃ (x e : Addr) (w : Nat) (xs : List Str) (kvs : List (Key × V)) (y : Str), vs = [.ref x, .str y] ∧ MapAt C H x e w kvs ∧ kvs.map (·.1) = xs.map Sum.inr ∧ isBits y = true ∧ y.length = w ∧ w ≤ 32 ∧
  ∀ r : Option Str, IsLong xs y r → Q (leadV kvs r) H
def spRows (C : Addr) : Sp := fun vs H Q _ => ∃ (x e : Addr) (w : Nat) (kvs : List (Key × V)), vs = [.ref x] ∧ MapAt C H x e w kvs ∧ ∀ d, H d = none → Q (.ref d) (upd H d (.dK kvs))
section
variable {P : Program} {w : World} {K : PySem.W.Frag} {mg : Str → Option Value} {base : Heap}
theorem scTgt : FnScope ["thing"] ["thing"] (defScope sTgt) := ⟨rfl, rfl, rfl, by decide +kernel, rfl, by decide +kernel, by decide +kernel⟩
theorem ok_tgt {f fH : Addr} {fd fdH : FuncData} {k : Nat} {t1 t2 : Tok} (F : Fun K "is_target" "Table.is_target" sTgt f fd) (FH : Fun K "has_only" "has_only" sHas fH fdH) (bH : Binds K fdH ["text", "signs"] []) (gH : mg "has_only" = some (.ref fH))
    (mi : mg "isinstance" = none) (ms : mg "str" = none) (ml : mg "len" = none) (m8 : mg "LONGEST_TARGET" = some (.int 8 t1)) (mL : mg "LETTERS" = some (.str letters t2)) : FnOk P w K mg base CX0 (k + 2) f fd ["thing"] (spTgt K) := by
  have GH : FnOk P w K mg base CX0 (k + 1) fH fdH ["text", "signs"] spHas := ok_has FH
  refine F.ok scTgt (fun vs H Q E h => ?_) (fun cdv A outer s H vs Q E hr h => ?_)
  · obtain ⟨v, rfl, _⟩ := h
    rfl
  · obtain ⟨v, rfl, ⟨t, ty, kt⟩, hl, q⟩ := h
    refine ⟨_, pss_one (ps_ret (pe_and (pe_callB call_isi (by rfl) mi (by decide +kernel) (pa_cons (pv 0) (pa_cons (pe_bltn (v := .ty "str") (by rfl) ms (by decide +kernel) rfl) pa_nil)))
      (pe_and (pe_chain op_le op_le pe_int (pe_callB call_len_str (by rfl) ml PySem.boot_len (pa_cons (pv 0) pa_nil)) (pe_glob (v := .int 8) rfl m8 ⟨_, rfl⟩))
        (pe_one (pe_call GH hr (by rfl) gH FH.kp bH .nil pass0 (pa_cons (pv 0) (pa_cons (pe_glob (v := .str letters) rfl mL ⟨_, rfl⟩) pa_nil))))))), ?_⟩
    refine ⟨v, rfl, v, .ty "str", .type t, .type "str", _, rfl, .ty _, ty, kt, _, rfl, ?_⟩
    cases v with
    | str x =>
      have hx := hl x rfl
      have q' : Q (.bl (decide ((1 : Int) ≤ x.length) && decide ((x.length : Int) ≤ 8) && onlyOf letters x)) H := q
      refine iteT ⟨.str x, rfl, x, rfl, hx, _, _, rfl, rfl, _, rfl, ?_⟩
      by_cases h1 : (1 : Int) ≤ x.length
      · rw [decide_eq_true h1] at q' ⊢
        refine iteT ⟨_, _, rfl, rfl, _, rfl, ?_⟩
        by_cases h2 : (x.length : Int) ≤ 8
        · rw [decide_eq_true h2] at q' ⊢
          exact iteT ⟨.str x, rfl, x, _, rfl, hx, q'⟩
        · rw [decide_eq_false h2] at q' ⊢
          exact iteF q'
      · rw [decide_eq_false h1] at q' ⊢
        exact iteF (by first | exact q' | exact ⟨_, rfl, iteF q'⟩)
    | _ => exact iteF q
theorem scTChk : FnScope ["self", "value"] ["self", "value"] (defScope sTChk) := ⟨rfl, rfl, rfl, by decide +kernel, rfl, by decide +kernel, by decide +kernel⟩
theorem tgt_str {v : V} (h : isTgtV v) : ∃ x, v = .str x ∧ x.length ≤ 8 ∧ 1 ≤ x.length ∧ onlyOf letters x = true := by
  unfold isTgtV isTgt at h
  cases v with
  | str x =>
    dsimp only at h
    rw [Bool.and_eq_true, Bool.and_eq_true, decide_eq_true_iff, decide_eq_true_iff] at h
    exact ⟨x, rfl, by omega, by omega, h.2⟩
  | _ => cases h
theorem ok_tchk {f p g C : Addr} {fd fdT : FuncData} {k : Nat} (F : Fun K "_checked" "Table._checked" sTChk f fd) (T : ClsF K C) (ST : SMeth K C "is_target" p g) (GT : FnOk P w K mg base CX0 k g fdT ["thing"] (spTgt K)) (bT : Binds K fdT ["thing"] []) :
    FnOk P w K mg base CX0 (k + 1) f fd ["self", "value"] (spChk K C isTgtV) := by
  refine F.ok scTChk (fun vs H Q E h => ?_) (fun cdv A outer s H vs Q E hr h => ?_)
  · obtain ⟨x, dx, fs, v, rfl, _⟩ := h
    rfl
  · obtain ⟨x, dx, fs, v, rfl, hx, hfs, hv, q⟩ := h
    refine ⟨_, pss_cons (ps_if (pt_not (pt_val (pe_stat (pv 0) T.cl ST GT hr bT (pa_cons (pv 1) pa_nil)))) (pss_one ps_never) pss_nil) (pss_one (ps_ret (pv 1))), ?_⟩
    obtain ⟨y, rfl, hy, _⟩ := tgt_str hv
    refine ⟨.ref x, rfl, x, dx, fs, rfl, hx, hfs _ (by decide +kernel), .str y, rfl, .str y, rfl, TyS.of (N := fun _ => True) (.str y), fun z e => by rw [← V.str.inj e]; exact big_of (by omega), _, rfl, ?_⟩
    rw [show isTgt (.str y) = true from hv]
    exact iteF ⟨.str y, rfl, q⟩
theorem scTInit : ScS ["self", "width", "rows"] (defScope sTInit) := ⟨rfl, rfl, rfl, by decide +kernel, by decide +kernel, by decide +kernel, by decide +kernel, by decide +kernel, by decide +kernel⟩
/-- __init__ of a table is that of its base -/
theorem ok_tinit {f f2 C D : Addr} {fd fd2 : FuncData} {k : Nat} {file : Str} (F : FunS K file "__init__" "Table.__init__" sTInit f D fd) (G2 : FnOk P w K mg base CX0 k f2 fd2 ["self", "width", "rows"] (spInit K C isTgtV)) (b2 : Binds K fd2 ["self", "width", "rows"] []) (fi : PySem.W.fnIn K f2 = true)
    (ty : PySem.W.typeIn K (.ref f2) = some (.type "function")) (hcd : ∃ cdD, PySem.W.clsIn K D = some cdD) (hsub : PySem.W.mroIn K C (.ref D) = some true) (hm : PySem.W.ks_superIn K C D "__init__" = some (some (.ref f2))) (hop : PySem.W.nsIn K cStatics "thirdparty.any" = some none) (hsu : mg "super" = none)
    (hfile : ((P.main.file : Str) == file) = true) (htop : (P.main.scope.names.lookup ("super" : Str)).isSome = false) : FnOk P w K mg base CX0 (k + 1) f fd ["self", "width", "rows"] (spInit K C isTgtV) := by
  refine ok_super (self := "self") F scTInit ((G2.raw b2 .nil).imp fun vs H Q E h => by rw [List.append_nil]; exact h) fi ty hcd hsub hm hop hsu hfile htop rfl ⟨_, rfl, rfl⟩ rfl (by decide +kernel) (fun _ => ⟨_, rfl⟩) (fun _ => rfl) (fun _ => rfl) (fun _ => rfl) (fun vs H Q E h => ?_) (fun h => h) (fun A cda cc outer s H vs Q hr h => ?_)
  · obtain ⟨x, dx, d, w, xs, kvs, rfl, _⟩ := h
    rfl
  · obtain ⟨x, dx, d, w, xs, kvs, rfl, hx, w1, w32, hd, ok, h64, q⟩ := h
    refine ⟨x, dx, _, _, _, rfl, hx, pa_cons (pv 1) (pa_cons (pv 2) pa_nil), pss_nil, ?_⟩
    exact ⟨.int w, rfl, .ref d, rfl, x, dx, d, w, xs, kvs, rfl, hx, w1, w32, hd, ok, h64, q⟩
theorem scRows : FnScope ["self"] ["self"] (defScope sRows) := ⟨rfl, rfl, rfl, by decide +kernel, rfl, by decide +kernel, by decide +kernel⟩
theorem ok_rows {f C : Addr} {fd : FuncData} {k : Nat} (F : Fun K "rows" "PrefixMap.rows" sRows f fd) (T : ClsF K C) (md : mg "dict" = none) : FnOk P w K mg base CX0 (k + 1) f fd ["self"] (spRows C) := by
  refine F.ok scRows (fun vs H Q E h => ?_) (fun cdv A outer s H vs Q E hr h => ?_)
  · obtain ⟨x, e, w, kvs, rfl, _⟩ := h
    rfl
  · obtain ⟨x, e, w, kvs, rfl, ⟨⟨dx, hx⟩, he⟩, q⟩ := h
    refine ⟨_, pss_one (ps_ret (pe_callTy call_dictD (by rfl) md (by decide +kernel) (pa_cons (pe_fld (pv 0) rfl) pa_nil))), ?_⟩
    exact ⟨.ref x, rfl, x, C, dx, _, _, rfl, hx, T.cl, T.nR, flds_r _ _, e, kvs, rfl, .inl he, q⟩
end
theorem same_free {H H' : Hp} {a : Addr} (s : Same H H') (h : H' a = none) : H a = none := by
  cases e : H a with
  | none => rfl
  | some o =>
    rw [s _ _ e] at h
    cases h
/-! ### _law_lines, _law_lead -/
abbrev used : List V := [.str "a", .str "ab", .str "b", .str "any"]
/-! ### ascending texts: one order alone -/
def LeS (a b : Str) : Prop := sg a ≤ sg b
theorem leS_trans {a b c : Str} (h : LeS a b) (h' : LeS b c) : LeS a c := List.le_trans h h'
theorem leS_anti {a b : Str} (h : LeS a b) (h' : LeS b a) : a = b := str_ext (List.le_antisymm h h')
theorem rise_pw : ∀ (l : List Str) (p : Str), risingS p l = true → (p :: l).Pairwise LeS
  | [], p, _ => List.pairwise_cons.mpr ⟨fun _ h => absurd h List.not_mem_nil, List.Pairwise.nil⟩
  | x :: r, p, h => by
    have h2 : (!ltCps (sg x) (sg p) && risingS x r) = true := h
    rw [Bool.and_eq_true, ltCps_eq] at h2
    have ih := rise_pw r x h2.2
    have hx : LeS p x := by
      have z : ¬ (sg x < sg p) := by
        have := h2.1
        simpa using this
      exact List.not_lt.mp z
    refine List.pairwise_cons.mpr ⟨fun y hy => ?_, ih⟩
    rcases List.mem_cons.mp hy with rfl | hy
    · exact hx
    · exact leS_trans hx ((List.pairwise_cons.mp ih).1 y hy)
theorem up_pw {l : List Str} (h : sortedS l = true) : l.Pairwise LeS := by
  cases l with
  | nil => exact List.Pairwise.nil
  | cons x r => exact rise_pw r x h
theorem up_uniq {l l' : List Str} (p : l.Perm l') (h : sortedS l = true) (h' : sortedS l' = true) : l = l' :=
  List.Perm.eq_of_pairwise (le := LeS) (fun a b _ _ q q' => leS_anti q q') (up_pw h) (up_pw h') p
theorem kv_ext {k1 k2 : List (Key × V)} (e : k1.map (·.1) = k2.map (·.1)) (nd : (k1.map (·.1)).Nodup) (v : ∀ k ∈ k1.map (·.1), valV k1 k = valV k2 k) : k1 = k2 := by
  have el : k1.length = k2.length := by
    have := congrArg List.length e
    rw [List.length_map, List.length_map] at this
    exact this
  refine List.ext_getElem el fun i h1 h2 => ?_
  have e1 : (k1[i]).1 = (k2[i]).1 := by
    have a1 : (k1.map (·.1))[i]? = some (k1[i]).1 := by rw [List.getElem?_map, List.getElem?_eq_getElem h1]; rfl
    have a2 : (k2.map (·.1))[i]? = some (k2[i]).1 := by rw [List.getElem?_map, List.getElem?_eq_getElem h2]; rfl
    rw [e, a2] at a1
    exact (Option.some.inj a1).symm
  have v1 := valV_some nd (k := (k1[i]).1) (v := (k1[i]).2) (List.getElem_mem h1)
  have v2 := valV_some (e ▸ nd) (k := (k2[i]).1) (v := (k2[i]).2) (List.getElem_mem h2)
  have v3 := v _ (List.mem_map.mpr ⟨_, List.getElem_mem h1, rfl⟩)
  have e2 : (k1[i]).2 = (k2[i]).2 := by
    rw [v1, e1, v2] at v3
    exact Option.some.inj v3
  exact Prod.ext e1 e2
theorem Sorted.uniq {xs ys1 ys2 : List Str} {kvs k1 k2 : List (Key × V)} (nd : xs.Nodup) (h1 : Sorted xs kvs k1 ys1) (h2 : Sorted xs kvs k2 ys2) : k1 = k2 := by
  have e : ys1 = ys2 := up_uniq (h1.perm.trans h2.perm.symm) h1.up h2.up
  refine kv_ext (by rw [h1.keys, h2.keys, e]) ?_ fun k hk => ?_
  · rw [h1.keys]
    exact (h1.perm.nodup_iff.mpr nd).map Sum.inr (fun a b h e => h (Sum.inr.inj e))
  · rw [h1.keys] at hk
    obtain ⟨y, hy, rfl⟩ := List.mem_map.mp hk
    have hx := h1.perm.mem_iff.mp hy
    rw [h1.val y hx, h2.val y hx]
/-! ### how tables show -/
theorem tgt_sm {v : V} (h : isTgtV v) : ∃ x, v = .str x ∧ Sm 8 x := by
  obtain ⟨x, rfl, h8, _, hx⟩ := tgt_str h
  refine ⟨x, rfl, h8, fun c hc => ?_⟩
  have h1 := List.all_eq_true.mp hx c hc
  have all : letters.cps.toList.all (fun c => decide (c < 128)) = true := by decide +kernel
  exact of_decide_eq_true (List.all_eq_true.mp all c (Array.mem_toList_iff.mpr (Array.contains_iff.mp h1)))
theorem dr_rows {K : PySem.W.Frag} {H : Hp} {N : Addr → Prop} : ∀ (kvs : List (Key × V)), (∀ kv ∈ kvs, (∃ y, kv.1 = .inr y ∧ Sm 32 y) ∧ isTgtV kv.2) → ∃ ds, DrKv K H N kvs ds ∧ ds.length = kvs.length ∧ ∀ d ∈ ds, OkD 0 322 d.1 ∧ OkD 0 82 d.2
  | [], _ => ⟨[], .nil, rfl, fun _ h => absurd h List.not_mem_nil⟩
  | (k, v) :: r, h => by
    obtain ⟨⟨y, e, sy⟩, hv⟩ := h (k, v) List.mem_cons_self
    have e' : k = .inr y := e
    subst e'
    obtain ⟨x, ex, sx⟩ := tgt_sm hv
    have ex' : v = .str x := ex
    subst ex'
    obtain ⟨ds, h1, h2, h3⟩ := dr_rows r fun kv hk => h kv (List.mem_cons_of_mem _ hk)
    refine ⟨(.str y, .str x) :: ds, .cons (k := .inr y) (.str x) h1, by rw [List.length_cons, List.length_cons, h2], fun d hd => ?_⟩
    rcases List.mem_cons.mp hd with rfl | hd
    · exact ⟨sy.ok (by decide), sx.ok (by decide)⟩
    · exact h3 d hd
abbrev sMade : Stmt := inClass sCls 1
abbrev sWith : Stmt := inClass sCls 9
/-- a new map of this class with these rows -/
def Made (C : Addr) (w : Nat) (xs : List Str) (kvs : List (Key × V)) (H : Hp) (Q : VK) : Prop := ∀ (x e : Addr) (ys : List Str) (kvs' : List (Key × V)) (H' : Hp), H x = none → Same H H' → Sorted xs kvs kvs' ys → MapAt C H' x e w kvs' → Q (.ref x) H'
def spMade (C : Addr) (vok : V → Prop) : Sp := fun vs H Q _ => ∃ (d : Addr) (w : Nat) (xs : List Str) (kvs : List (Key × V)), vs = [.ref C, .int w, .ref d] ∧ 1 ≤ w ∧ w ≤ 32 ∧ H d = some (.dK kvs) ∧ RowsOk w vok xs kvs ∧ xs.length < 64 ∧ Made C w xs kvs H Q
/-- a map with one row more, or replaced -/
def spWith (C : Addr) (vok : V → Prop) : Sp := fun vs H Q _ => ∃ (x e : Addr) (w : Nat) (xs : List Str) (kvs : List (Key × V)) (y : Str) (v : V), vs = [.ref x, .str y, v] ∧ MapAt C H x e w kvs ∧ RowsOk w vok xs kvs ∧ 1 ≤ w ∧ w ≤ 32 ∧ isBits y = true ∧ y.length ≤ w ∧ vok v ∧ xs.length < 60 ∧
  ∀ xs2, RowsOk w vok xs2 (putK kvs (.inr y) v) → (∀ z, z ∈ xs2 ↔ z = y ∨ z ∈ xs) → xs2.length ≤ xs.length + 1 → Made C w xs2 (putK kvs (.inr y) v) H Q
theorem Made.later {C : Addr} {w : Nat} {xs : List Str} {kvs : List (Key × V)} {H H1 : Hp} {Q : VK} (s : Same H H1) (h : Made C w xs kvs H Q) : Made C w xs kvs H1 Q := fun x e ys kvs' H' nx s' hs hm => h x e ys kvs' H' (same_free s nx) (s.trans s') hs hm
theorem keys_put {kvs : List (Key × V)} {k0 : Key} {v : V} (k : Key) : k ∈ (putK kvs k0 v).map (·.1) ↔ k = k0 ∨ k ∈ kvs.map (·.1) := by
  by_cases hm : k0 ∈ kvs.map (·.1)
  · have e : (putK kvs k0 v).map (·.1) = kvs.map (·.1) := by
      unfold putK
      rw [if_pos (by obtain ⟨p, hp, e⟩ := List.mem_map.mp hm; exact List.any_eq_true.mpr ⟨p, hp, decide_eq_true e⟩), List.map_map]
      refine List.map_congr_left fun p _ => ?_
      show (if p.1 = k0 then (p.1, v) else p).1 = p.1
      split <;> rfl
    rw [e]
    exact ⟨.inr, fun h => h.elim (fun q => q ▸ hm) id⟩
  · rw [putK_end hm, List.map_append, List.mem_append]
    exact ⟨fun h => h.elim .inr fun q => .inl (List.mem_singleton.mp q), fun h => h.elim (fun q => .inr (List.mem_singleton.mpr q)) .inl⟩
theorem RowsOk.acc {w : Nat} {vok : V → Prop} {xs : List Str} {kvs : List (Key × V)} (h : RowsOk w vok xs kvs) : RowsAcc w vok kvs := by
  refine ⟨by rw [h.keys]; exact h.pfx.nd.map Sum.inr (fun a b h e => h (Sum.inr.inj e)), fun kv hk => ?_⟩
  have hkey : kv.1 ∈ xs.map Sum.inr := by
    rw [← h.keys]
    exact List.mem_map.mpr ⟨kv, hk, rfl⟩
  obtain ⟨y, hy, ey⟩ := List.mem_map.mp hkey
  exact ⟨y, ey.symm, h.pfx.bits y hy, h.pfx.len y hy, h.val kv hk⟩
theorem RowsOk.put {w : Nat} {vok : V → Prop} {xs : List Str} {kvs : List (Key × V)} (h : RowsOk w vok xs kvs) {y : Str} {v : V} (hb : isBits y = true) (hl : y.length ≤ w) (hv : vok v) :
    ∃ xs2, RowsOk w vok xs2 (putK kvs (.inr y) v) ∧ (∀ z, z ∈ xs2 ↔ z = y ∨ z ∈ xs) ∧ xs2.length ≤ xs.length + 1 := by
  obtain ⟨xs2, ok2, l2⟩ := (h.acc.put hb hl hv).ok
  refine ⟨xs2, ok2, fun z => ?_, ?_⟩
  · rw [← inr_mem ok2.keys z, keys_put, inr_mem h.keys z]
    exact ⟨fun q => q.imp Sum.inr.inj id, fun q => q.imp (congrArg Sum.inr) id⟩
  · have a := length_putK kvs (.inr y) v
    have b : kvs.length = xs.length := by
      have := congrArg List.length h.keys
      rw [List.length_map, List.length_map] at this
      exact this
    omega
section
variable {P : Program} {w : World} {K : PySem.W.Frag} {mg : Str → Option Value} {base : Heap}
theorem scMade : FnScope ["cls", "width", "rows"] ["cls", "width", "rows"] (defScope sMade) := ⟨rfl, rfl, rfl, by decide +kernel, rfl, by decide +kernel, by decide +kernel⟩
theorem ok_made {f fI C : Addr} {fd fdI : FuncData} {k : Nat} {vok : V → Prop} (F : Fun K "_made" "PrefixMap._made" sMade f fd) (M : Mk K C fI) (GI : FnOk P w K mg base CX0 k fI fdI ["self", "width", "rows"] (spInit K C vok)) (bI : Binds K fdI ["self", "width", "rows"] []) :
    FnOk P w K mg base CX0 (k + 2) f fd ["cls", "width", "rows"] (spMade C vok) := by
  refine F.ok scMade (fun vs H Q E h => ?_) (fun cdv A outer s H vs Q E hr h => ?_)
  · obtain ⟨d, w, xs, kvs, rfl, _⟩ := h
    rfl
  · obtain ⟨d, w, xs, kvs, rfl, w1, w32, hd, ok, few, q⟩ := h
    refine ⟨_, pss_one (ps_ret (pe_makeL (i := 0) M GI hr (by rfl) (.inl (by rfl)) bI (pa_cons (pv 1) (pa_cons (pv 2) pa_nil)))), ?_⟩
    refine ⟨rfl, .int w, rfl, .ref d, rfl, fun x dx nx ndx nex => ?_⟩
    have n1 : d ≠ x := ne_of_none hd nx
    have n2 : d ≠ dx := ne_of_none hd ndx
    refine ⟨x, dx, d, w, xs, kvs, rfl, upd_same, w1, w32, by rw [upd_ne n1, upd_ne n2]; exact hd, ok, few, fun e ys kvs' H' ne hs hm keep => ⟨rfl, ?_⟩⟩
    exact q x e ys kvs' H' nx (Same.made nx ndx keep) hs hm
theorem scWith : FnScope ["self", "prefix", "value"] ["self", "prefix", "value"] (defScope sWith) := ⟨rfl, rfl, rfl, by decide +kernel, rfl, by decide +kernel, by decide +kernel⟩
theorem ok_with {f fP p g C : Addr} {fd fdP : FuncData} {k : Nat} {vok : V → Prop} (F : Fun K "with_row" "PrefixMap.with_row" sWith f fd) (T : ClsF K C) (GP : FnOk P w K mg base CX0 k fP fdP ["thing", "width"] (spPfx K)) (FP : Fun K "is_prefix" "is_prefix" sPfx fP fdP) (bP : Binds K fdP ["thing", "width"] []) (gP : mg "is_prefix" = some (.ref fP))
    (CI : ClX.CInst K C "_made" p g) (GM : FnR P w K mg base CX0 k g (spMade C vok)) : FnOk P w K mg base CX0 (k + 1) f fd ["self", "prefix", "value"] (spWith C vok) := by
  refine F.ok scWith (fun vs H Q E h => ?_) (fun cdv A outer s H vs Q E hr h => ?_)
  · obtain ⟨x, e, w, xs, kvs, y, v, rfl, _⟩ := h
    rfl
  · obtain ⟨x, e, w, xs, kvs, y, v, rfl, ⟨⟨dx, hx⟩, he⟩, ok, w1, w32, hb, hy, hv, few, q⟩ := h
    refine ⟨_, pss_cons (ps_if (pt_not (pt_val (pe_call GP hr (by rfl) gP FP.kp bP .nil pass0 (pa_cons (pv 1) (pa_cons (pe_fld (pv 0) rfl) pa_nil))))) (pss_one ps_never) pss_nil)
      (pss_one (ps_ret (ClX.pe_imethD (pv 0) CI GM hr pass0 (pa_cons (pe_fld (pv 0) rfl) (pa_cons (pe_dst (pe_fld (pv 0) rfl) (pv 1) (pv 2)) pa_nil))))), ?_⟩
    refine ⟨.str y, rfl, .ref x, rfl, x, C, dx, _, _, rfl, hx, T.cl, T.nW, flds_w _ _, .str y, w, rfl, TyS.of (N := fun _ => True) (.str y), fun z e => by rw [← V.str.inj e]; exact big_of (by omega), _, rfl, ?_⟩
    have ep : isPfx (.str y) (w : Int) = true := by
      show (decide ((y.length : Int) ≤ w) && isBits y) = true
      rw [decide_eq_true (by omega), hb]
      rfl
    rw [ep]
    refine iteF ?_
    obtain ⟨xs2, ok2, mem2, len2⟩ := ok.put hb hy hv
    refine ⟨.ref x, rfl, x, dx, _, rfl, hx, flds_no _ _ (by decide +kernel) (by decide +kernel), .ref x, rfl, x, C, dx, _, _, rfl, hx, T.cl, T.nW, flds_w _ _, fun p np => ?_⟩
    have s1 := same_upd (o := .dK []) np
    have ne : e ≠ p := ne_of_none he np
    have hkl : kvs.length = xs.length := by
      have := congrArg List.length ok.keys
      rw [List.length_map, List.length_map] at this
      exact this
    refine ⟨.ref x, rfl, x, C, dx, _, _, rfl, s1 _ _ hx, T.cl, T.nR, flds_r _ _, e, kvs, rfl, .inl (s1 _ _ he), ne, upd_same, ok.acc.nd, by omega, fun q2 nq => ?_⟩
    rw [upd_upd] at nq ⊢
    obtain ⟨q2p, nq2⟩ := upd_free nq
    refine ⟨.str y, rfl, v, rfl, .inr y, rfl, by rw [upd_ne q2p.symm, upd_same], upd_same, ?_⟩
    refine ⟨p, w, xs2, _, rfl, w1, w32, upd_same, ok2, by omega, (q xs2 ok2 mem2 len2).later fun b o eb => ?_⟩
    have bp := ne_of_none eb np
    have bq := ne_of_none eb nq2
    rw [upd_ne bp, upd_ne bq, upd_ne bq, upd_ne bp]
    exact eb
end
abbrev sWithout : Stmt := inClass sCls 10
/-- the rows without this key -/
def spWithout (C : Addr) (vok : V → Prop) : Sp := fun vs H Q _ => ∃ (x e : Addr) (w : Nat) (xs : List Str) (kvs : List (Key × V)) (y : Str), vs = [.ref x, .str y] ∧ MapAt C H x e w kvs ∧ RowsOk w vok xs kvs ∧ 1 ≤ w ∧ w ≤ 32 ∧ y ∈ xs ∧ xs.length < 60 ∧
  (RowsOk w vok (xs.filter (fun z => decide (z ≠ y))) (kvs.filter fun kv => decide (kv.1 ≠ .inr y)) → Made C w (xs.filter (fun z => decide (z ≠ y))) (kvs.filter fun kv => decide (kv.1 ≠ .inr y)) H Q)
theorem filt_keys {y : Str} : ∀ {kvs : List (Key × V)} {xs : List Str}, kvs.map (·.1) = xs.map Sum.inr → (kvs.filter fun kv => decide (kv.1 ≠ .inr y)).map (·.1) = (xs.filter fun z => decide (z ≠ y)).map Sum.inr
  | [], [], _ => rfl
  | [], _ :: _, h => by cases h
  | _ :: _, [], h => by cases h
  | (k, v) :: r, x :: xs, h => by
    obtain ⟨h1, h2⟩ := List.cons.inj h
    have e1 : k = Sum.inr x := h1
    subst e1
    have ih := filt_keys (y := y) h2
    by_cases hxy : x = y
    · subst hxy
      rw [List.filter_cons_of_neg (by simp), List.filter_cons_of_neg (by simp)]
      exact ih
    · rw [List.filter_cons_of_pos (by simpa using hxy), List.filter_cons_of_pos (by simpa using hxy), List.map_cons, List.map_cons, ih]
theorem RowsOk.filt {w : Nat} {vok : V → Prop} {xs : List Str} {kvs : List (Key × V)} (h : RowsOk w vok xs kvs) (y : Str) : RowsOk w vok (xs.filter fun z => decide (z ≠ y)) (kvs.filter fun kv => decide (kv.1 ≠ .inr y)) :=
  ⟨filt_keys h.keys, ⟨h.pfx.nd.filter _, fun x hx => h.pfx.bits x (List.mem_filter.mp hx).1, fun x hx => h.pfx.len x (List.mem_filter.mp hx).1⟩, fun kv hk => h.val kv (List.mem_filter.mp hk).1⟩
section
variable {P : Program} {w : World} {K : PySem.W.Frag} {mg : Str → Option Value} {base : Heap}
theorem scWithout : FnScope ["self", "prefix", "kept"] ["self", "prefix"] (defScope sWithout) := ⟨rfl, rfl, rfl, by decide +kernel, rfl, by decide +kernel, by decide +kernel⟩
theorem ok_without {f p g C : Addr} {fd : FuncData} {k : Nat} {vok : V → Prop} (F : Fun K "without" "PrefixMap.without" sWithout f fd) (T : ClsF K C) (mi : mg "isinstance" = none) (ms : mg "str" = none)
    (CI : ClX.CInst K C "_made" p g) (GM : FnR P w K mg base CX0 k g (spMade C vok)) : FnOk P w K mg base CX0 (k + 1) f fd ["self", "prefix"] (spWithout C vok) := by
  refine F.ok scWithout (fun vs H Q E h => ?_) (fun cdv A outer s H vs Q E hr h => ?_)
  · obtain ⟨x, e, w, xs, kvs, y, rfl, _⟩ := h
    rfl
  · obtain ⟨x, e, w, xs, kvs, y, rfl, ⟨⟨dx, hx⟩, he⟩, ok, w1, w32, hy, few, q⟩ := h
    have nd := scWithout.nd
    have hu := hu_of hr
    refine ⟨_, pss_cons (ps_if (PW.pt (pw_or (pt_not (pt_val (pe_callB call_isi (by rfl) mi (by decide +kernel) (pa_cons (pv 1) (pa_cons (pe_bltn (v := .ty "str") (by rfl) ms (by decide +kernel) rfl) pa_nil))))) (pw_or1 (pt_cmp (pc_dnotin hu (pv 1) (pe_fld (pv 0) rfl)))))) (pss_one ps_never) pss_nil)
      (pss_one (ps_ret (ClX.pe_imethD (pv 0) CI GM hr pass0 (pa_cons (pe_fld (pv 0) rfl) (pa_cons (pe_lock (pe_dc (own := [("kept", 2)]) (g := gName 2) (tv := tDGet (tFld K (tVar 0) "_rows") (tVar 2)) rfl nd (pi_keys (pe_fld (pv 0) rfl))
        (blkOk_by (N := ["self", "prefix", "kept"]) (sc := defScope sWithout) (by decide +kernel)) (fun _ _ _ _ _ => pg_name (i := 2) nd rfl (.inl rfl)) (fun _ _ _ _ _ => pts_one (pt_cmpR op_ne (pv 2) (pv 1) (nomark _))) (fun _ _ _ _ _ => pv 2)
        (fun _ _ _ _ _ => pe_dget hu (pe_fld (pv 0) rfl) (pv 2) (fun _ _ => rfl)))) pa_nil))))), ?_⟩
    obtain ⟨t, ty, kt⟩ := TyS.of (K := K) (H := H) (N := fun _ => True) (.str y)
    have hk : (Sum.inr y : Key) ∈ kvs.map (·.1) := (inr_mem ok.keys y).mpr hy
    refine ⟨.str y, rfl, .str y, .ty "str", .type t, .type "str", _, rfl, .ty _, ty, kt, _, rfl, iteF ?_⟩
    refine ⟨.str y, rfl, .ref x, rfl, x, C, dx, _, _, rfl, hx, T.cl, T.nR, flds_r _ _, e, _, rfl, DGet.k (k := .inr y) he, _, rfl, ?_⟩
    rw [show (valV kvs (.inr y)).isSome = true from valV_mem.mpr hk]
    refine iteF ?_
    have xe : x ≠ e := ne_of hx he (fun q => nomatch q)
    refine ⟨.ref x, rfl, x, dx, _, rfl, hx, flds_no _ _ (by decide +kernel) (by decide +kernel), .ref x, rfl, x, C, dx, _, _, rfl, hx, T.cl, T.nW, flds_w _ _, e, .dK kvs, he, trivial, fun od => ?_⟩
    refine ⟨.ref x, rfl, x, C, dx, _, _, rfl, by rw [upd_ne xe]; exact hx, T.cl, T.nR, flds_r _ _, e, od, rfl, .inl ⟨kvs, upd_same, fun D nD => ?_⟩⟩
    obtain ⟨nDe, nDH⟩ := upd_free nD
    have kn : (kvs.map (·.1)).Nodup := ok.acc.nd
    have hkl : kvs.length = xs.length := by
      have := congrArg List.length ok.keys
      rw [List.length_map, List.length_map] at this
      exact this
    refine dc_it walk_keys (fun i H' => H' D = some (.dK ((kvs.take i).filter fun kv => decide (kv.1 ≠ .inr y))) ∧ H' e = some (.frz od (.dK kvs)) ∧ ∀ b o, b ≠ e → H b = some o → H' b = some o) ⟨by rw [upd_same]; rfl, by rw [upd_ne nDe.symm, upd_same], fun b o nb eb => by rw [upd_ne (ne_of_none eb nDH), upd_ne nb]; exact eb⟩ (fun _ _ _ h => h.2.1) ?_ ?_
    · rintro i v H1 H2 hi ⟨hD, he1, keep⟩ ⟨rfl, k, v', hkv, rfl⟩
      obtain ⟨z, hz, rfl⟩ := key_at ok.keys hkv
      have et : kvs.take (i + 1) = kvs.take i ++ [(.inr z, v')] := by rw [List.take_add_one, hkv]; rfl
      refine ⟨rfl, .str z, rfl, .str y, rfl, rfl, _, rfl, ?_⟩
      by_cases hzy : z = y
      · subst hzy
        rw [decide_eq_true rfl]
        refine iteF ⟨?_, he1, keep⟩
        rw [et, List.filter_append, List.filter_cons_of_neg (by simp), List.filter_nil, List.append_nil]
        exact hD
      · rw [decide_eq_false (fun q => hzy (V.str.inj q))]
        refine iteT ?_
        have hv : valV kvs (.inr z) = some v' := valV_some kn (List.mem_of_getElem? hkv)
        refine ⟨.str z, rfl, .ref x, rfl, x, C, dx, _, _, rfl, keep _ _ xe hx, T.cl, T.nR, flds_r _ _, .str z, rfl, e, v', rfl, .inl ⟨kvs, .inr z, .inr ⟨od, he1⟩, rfl, hv.symm⟩, _, .inr z, rfl, hD, ?_, ?_, ?_, fun b o nb eb => ?_⟩
        · refine Nat.lt_of_le_of_lt (List.length_filter_le _ _) ?_
          rw [List.length_take]
          exact big_lt (by omega)
        · rw [upd_same, et, List.filter_append, List.filter_cons_of_pos (by simpa using hzy), List.filter_nil, putK_end]
          intro hm
          obtain ⟨pq, hp, eq⟩ := List.mem_map.mp hm
          have hp2 := (List.mem_filter.mp hp).1
          obtain ⟨j, hj, ej⟩ := List.mem_take_iff_getElem.mp hp2
          have kj : kvs[j]'(by omega) = pq := ej
          have hi2 := (List.getElem?_eq_some_iff.mp hkv)
          have a1 : (kvs.map (·.1))[j]'(by rw [List.length_map]; omega) = (kvs.map (·.1))[i]'(by rw [List.length_map]; exact hi2.1) := by
            rw [List.getElem_map, List.getElem_map, kj, eq, hi2.2]
          have := (List.getElem_inj kn).mp a1
          omega
        · rw [upd_ne nDe.symm]
          exact he1
        · rw [upd_ne (ne_of_none eb nDH)]
          exact keep b o nb eb
    · rintro H1 ⟨hD, he1, keep⟩
      rw [List.take_of_length_le (Nat.le_refl _)] at hD
      have ok2 := ok.filt y
      refine ⟨he1, D, w, _, _, rfl, w1, w32, by rw [upd_ne nDe]; exact hD, ok2, by have := List.length_filter_le (fun z => decide (z ≠ y)) xs; omega, (q ok2).later fun b o eb => ?_⟩
      by_cases hb : b = e
      · rw [hb, upd_same, ← he, ← hb, eb]
      · rw [upd_ne hb]
        exact keep b o hb eb
end
/-! ### == and != of maps -/
abbrev sEq : Stmt := inClass sCls 6
/-- __eq__ of two maps of one class with the same rows -/
def spEqM (C : Addr) : Sp := fun vs H Q _ => ∃ (x y e e2 : Addr) (w : Nat) (kvs : List (Key × V)), vs = [.ref x, .ref y] ∧ MapAt C H x e w kvs ∧ MapAt C H y e2 w kvs ∧ (kvs.map (·.1)).Nodup ∧ (∀ kv ∈ kvs, flatB kv.2 = true) ∧ Q (.bl true) H
/-- what isinstance and != ask of a class of one's own -/
structure ObjC (K : PySem.W.Frag) (C : Addr) : Prop where
  ca : PySem.W.findIn K (.ref C) "__class__" = some (some (.builtin "object.__class__"))
  cg : PySem.W.specialIn K (.builtin "object.__class__") "__get__" = some (some (.builtin "getset_descriptor.__get__"))
  ct : PySem.W.takesIn K (.builtin "object.__class__") = some true
  ob : PySem.W.mroIn K C (.type "object") = some true
  ne : PySem.W.findIn K (.ref C) "__ne__" = some (some (.builtin "object.__ne__"))
section
variable {P : Program} {w : World} {K : PySem.W.Frag} {mg : Str → Option Value} {base : Heap}
theorem scEq : FnScope ["self", "other"] ["self", "other"] (defScope sEq) := ⟨rfl, rfl, rfl, by decide +kernel, rfl, by decide +kernel, by decide +kernel⟩
theorem ok_eqm {f C D : Addr} {fd : FuncData} {k : Nat} (F : Fun K "__eq__" "PrefixMap.__eq__" sEq f fd) (T : ClsF K C) (mi : mg "isinstance" = none) (mt : mg "type" = none) (mD : mg "PrefixMap" = some (.ref D)) (hk : PySem.W.kitOne K (.ref C) (.ref D) = some true) (hmk : PySem.W.makesIn K C = true) (OC : ObjC K C) :
    FnOk P w K mg base CX0 (k + 1) f fd ["self", "other"] (spEqM C) := by
  refine F.ok scEq (fun vs H Q E h => ?_) (fun cdv A outer s H vs Q E hr h => ?_)
  · obtain ⟨x, y, e, e2, w, kvs, rfl, _⟩ := h
    rfl
  · obtain ⟨x, y, e, e2, w, kvs, rfl, ⟨⟨dx, hx⟩, he⟩, ⟨⟨dy, hy⟩, he2⟩, nd, fl, q⟩ := h
    have hu := hu_of hr
    refine ⟨_, pss_cons (ps_if (pt_not (pt_val (pe_callB call_isi (by rfl) mi (by decide +kernel) (pa_cons (pv 1) (pa_cons (pe_glob (v := .ref D) rfl mD rfl) pa_nil))))) (pss_one (ps_ret pe_bl)) pss_nil)
      (pss_one (ps_ret (pe_and (pe_cmpR op_is_cls (pe_callTy cr_type (by rfl) mt (by decide +kernel) (pa_cons (pv 0) pa_nil)) (pe_callTy cr_type (by rfl) mt (by decide +kernel) (pa_cons (pv 1) pa_nil)) (nomark _))
        (pe_and (pe_cmpR op_eq (pe_fld (pv 0) rfl) (pe_fld (pv 1) rfl) (nomark _)) (pe_one (pe_cmpR (op_eq_dictA (Nat.lt_of_succ_lt hu)) (pe_fld (pv 0) rfl) (pe_fld (pv 1) rfl) (nomark _))))))), ?_⟩
    refine ⟨.ref y, rfl, .ref y, .ref D, .ref C, .ref D, _, rfl, .own _, .base (.ins hy T.cl OC.ca OC.cg OC.ct OC.ob), hk, _, rfl, iteF ?_⟩
    refine ⟨.ref x, rfl, x, C, dx, _, rfl, hx, .ref y, rfl, y, C, dy, _, rfl, hy, C, C, rfl, rfl, .inl rfl, _, rfl, ?_⟩
    rw [decide_eq_true rfl]
    refine iteT ⟨.ref x, rfl, x, C, dx, _, _, rfl, hx, T.cl, T.nW, flds_w _ _, .ref y, rfl, y, C, dy, _, _, rfl, hy, T.cl, T.nW, flds_w _ _, rfl, _, rfl, ?_⟩
    rw [decide_eq_true rfl]
    refine iteT ⟨.ref x, rfl, x, C, dx, _, _, rfl, hx, T.cl, T.nR, flds_r _ _, .ref y, rfl, y, C, dy, _, _, rfl, hy, T.cl, T.nR, flds_r _ _, e, e2, kvs, kvs, rfl, rfl, he, he2, rfl, fun p hp => ⟨valV_some nd (k := p.1) (v := p.2) hp, fl p hp⟩, q⟩
end
section
open PySem.W
variable {M : Model} {P : Program} {w : World} {K : Frag} {A : Around} {E : Value → Shared → Prop} {s : Shared} {x C : Addr} {ox : Obj} {od : Option Obj}
/-- a special method that is a built-in's -/
theorem special_b {name : Str} {id : String} {args : List Value} {Z : Option Value → Shared → Prop} (X : K.In s.heap) (J : InstAt s.heap x ox C od) (hs : findIn K (.ref C) name = some (some (.builtin id))) (S : Slot "object" name id)
    (h : wpAny M A (call (.builtin id) (.ref x :: args)) (fun v => Z (some v)) E s) : wpAny M A (callSpecialIfBound? (.ref x) name args) Z E s := by
  simp only [callSpecialIfBound?, bindSpecialIfBound?]
  refine wpAny_holding (wpAny_bind (wpAny_bind (wpAny_bind (J.type.here ((looks_findIn X hs).here ?_)))))
  simp only [S.bind]
  refine wpAny_bind (wpAny_askSetting (wpAny_ite ?_))
  have done : wpAny M A (call (.builtin id) ([.ref x] ++ args) >>= fun v => pure (some v)) Z E s := wpAny_bind (thn h fun v s' q => wpAny_pure q)
  split
  · exact wpAny_bind (wpAny_pure (wpAny_pure done))
  · exact wpAny_tryCatch (wpAny_bind (wpAny_pure (wpAny_pure done)))
theorem ne_inst {y f : Addr} {oy : Obj} {od' : Option Obj} {Z : Value → Shared → Prop} (X : K.In s.heap) (OC : Kt.ObjC K C) (J : InstAt s.heap x ox C od) (J' : InstAt s.heap y oy C od') (hu : A.units + 1 < cLine) (he : findIn K (.ref C) "__eq__" = some (some (.ref f))) (hf : isFn K (.ref f) = true)
    (h : wpAny (model P w) A.in1 (call (.ref f) [.ref x, .ref y]) (fun v s' => ∃ b, v = .bool b ∧ Z (.bool (!b)) s') E s) : wpAny (model P w) A (richCompare .NotEq (.ref x) (.ref y)) Z E s := by
  have S := PySem.F.cmp_object.ne
  unfold richCompare
  simp only [oneThing_ref]
  refine wpAny_holding (wpAny_bind (wpAny_cRoomFor (Nat.lt_of_succ_lt hu) ?_))
  rw [cmpInfo_NotEq]
  dsimp only
  refine wpAny_bind (J.type.here (wpAny_bind (J'.type.here ?_)))
  simp only [bne_self_eq_false, Bool.false_eq_true, if_false]
  refine wpAny_bind (wpAny_pure ?_)
  simp only [Bool.false_eq_true, if_false]
  refine wpAny_bind ?_
  unfold tryCompare
  have sub : Looks (model P w) s.heap (isInstance (.ref x) (.type "object")) true := J.type.andThen (looks_mroIn X OC.ob)
  refine wpAny_bind (special_b X J OC.ne S (wpAny_call (codeAny_call_builtin S.plain PySem.F.cmpEntry_ne (check_slot PySem.F.cmpKind_ne PySem.F.cmpSplit_ne sub (PySem.F.cmpArgs_ne _ _) ?_))))
  unfold Builtin.«object.__ne__»
  refine wpAny_bind (m := slotArgs "__ne__" 1 _) (wpAny_pure ?_)
  refine wpAny_bind (wpAny_cRoomFor hu ?_)
  refine wpAny_bind (ifBound_K X J he hf (thn h fun v s' q => ?_))
  obtain ⟨b, rfl, q⟩ := q
  refine wpAny_bind (m := truthy (.bool b)) (wpAny_truthy_bool ?_)
  exact wpAny_pure (wpAny_pure (wpAny_pure q))
end
/-- a != b, two instances of a class whose own == promises -/
def rNeI (C : Addr) (sp : Sp) : R2 := fun x y H Q => ∃ a b dx dy fs gs, x = .ref a ∧ y = .ref b ∧ H a = some (.ins C dx fs) ∧ H b = some (.ins C dy gs) ∧ sp [.ref a, .ref b] H (fun v H' => ∃ k, v = .bl k ∧ Q (.bl (!k)) H') E0
theorem op_neI {X : Cx} {C f : Addr} {fd : FuncData} {k : Nat} {ps : List Str} {sp : Sp} (F : FnOk X.prog X.w X.K X.mg X.base CX0 k f fd ps sp) (hr : Room (k + 1) X.A) (OC : ObjC X.K C) (he : PySem.W.findIn X.K (.ref C) "__eq__" = some (some (.ref f))) (hf : PySem.W.isFn X.K (.ref f) = true) (hb : Binds X.K fd ps []) :
    OpR X (compareOp .NotEq) (rNeI C sp) := by
  intro pins s σ H x y v u Q I rx ry h
  obtain ⟨a, b, dx, dy, fs, gs, rfl, rfl, ha, hb', q⟩ := h
  cases rx
  cases ry
  obtain ⟨_, O1, _⟩ := ins_get I.hok ha
  obtain ⟨_, O2, _⟩ := ins_get I.hok hb'
  obtain ⟨_, J1, _⟩ := O1.look
  obtain ⟨_, J2, _⟩ := O2.look
  have hl := F.len _ _ _ _ q
  show wpAny (model X.prog X.w) X.A (richCompare .NotEq (.ref a) (.ref b)) (EP X pins σ Q) X.xe s
  refine ne_inst I.kIn OC J1 J2 (by have := hr.units; omega) he hf (wpAny_call (codeAny_mono (F.run X.A.in1 X.stack s H ⟨[.ref a, .ref b], []⟩ [.ref a, .ref b] [.ref a, .ref b] _ _ hr.in1 I.env0.in1 (by
    have z := hb s [.ref a, .ref b] I.kIn (by simpa using hl)
    simpa using z) (.cons rfl (.cons rfl .nil)) q) fun res s' hq => ?_))
  match res, hq with
  | .ok (.ret r), hq =>
    obtain ⟨z, H', I', rz, k, ez, q'⟩ := I.after hq
    subst ez
    obtain rfl : r = Value.bool k := rz
    exact ⟨k, rfl, .bl (!k), H', I', rfl, q'⟩
theorem kit_own {K : PySem.W.Frag} {C D : Addr} (h1 : PySem.W.isClsIn K D = true) (h2 : PySem.W.typeIn K (.ref D) = some (.type "type")) (h3 : PySem.W.mroIn K C (.ref D) = some true) : PySem.W.kitOne K (.ref C) (.ref D) = some true := by
  unfold PySem.W.kitOne
  split
  · rfl
  · show (if ((PySem.W.clsIn K D).isSome && PySem.W.typeIn K (.ref D) == some (.type "type")) = true then PySem.W.mroIn K C (.ref D) else none) = some true
    rw [if_pos (by rw [show (PySem.W.clsIn K D).isSome = true from h1, h2]; exact beq_self_eq_true _)]
    exact h3
/-! ### the rows put into ascending order, one by one -/
structure KeptAt (kvs : List (Key × V)) (ys : List Str) (i : Nat) (kvs' : List (Key × V)) : Prop where
  keys : kvs'.map (·.1) = (ys.take i).map Sum.inr
  val : ∀ y v, (Sum.inr y, v) ∈ kvs' → valV kvs (.inr y) = some v
theorem KeptAt.nil {kvs : List (Key × V)} {ys : List Str} : KeptAt kvs ys 0 [] := ⟨rfl, fun _ _ h => (List.not_mem_nil h).elim⟩
theorem KeptAt.len {kvs kvs' : List (Key × V)} {ys : List Str} {i : Nat} (h : KeptAt kvs ys i kvs') : kvs'.length ≤ ys.length := by
  have : kvs'.length = ((ys.take i).map Sum.inr : List Key).length := by rw [← h.keys, List.length_map]
  rw [List.length_map, List.length_take] at this
  omega
theorem KeptAt.new {kvs kvs' : List (Key × V)} {ys : List Str} {i : Nat} (h : KeptAt kvs ys i kvs') (nd : ys.Nodup) (hi : i < ys.length) : (Sum.inr ys[i] : Key) ∉ kvs'.map (·.1) := by
  rw [h.keys, List.mem_map]
  rintro ⟨z, hz, e⟩
  obtain ⟨j, hj, ej⟩ := List.mem_take_iff_getElem.mp hz
  have e2 : ys[j]'(by omega) = ys[i] := by rw [ej]; exact Sum.inr.inj e
  have := (List.getElem_inj nd).mp e2
  omega
theorem KeptAt.snoc {kvs kvs' : List (Key × V)} {ys : List Str} {i : Nat} {v : V} (h : KeptAt kvs ys i kvs') (hi : i < ys.length) (hv : valV kvs (.inr ys[i]) = some v) : KeptAt kvs ys (i + 1) (kvs' ++ [(.inr ys[i], v)]) := by
  refine ⟨?_, fun y v' hm => ?_⟩
  · rw [List.map_append, h.keys, List.take_add_one, List.getElem?_eq_getElem hi, List.map_append]
    rfl
  · rcases List.mem_append.mp hm with hm | hm
    · exact h.val y v' hm
    · cases List.mem_singleton.mp hm
      exact hv
theorem KeptAt.put {kvs kvs' : List (Key × V)} {ys : List Str} {i : Nat} {v : V} (h : KeptAt kvs ys i kvs') (nd : ys.Nodup) (hi : i < ys.length) (hv : valV kvs (.inr ys[i]) = some v) : KeptAt kvs ys (i + 1) (putK kvs' (.inr ys[i]) v) := by
  rw [putK_end (h.new nd hi)]
  exact h.snoc hi hv
theorem KeptAt.done {kvs kvs' : List (Key × V)} {xs ys : List Str} {n : Nat} (h : KeptAt kvs ys n kvs') (hn : ys.length ≤ n) (perm : ys.Perm xs) (nd : xs.Nodup) (up : sortedS ys = true) : Sorted xs kvs kvs' ys := by
  have hk : kvs'.map (·.1) = ys.map Sum.inr := by rw [h.keys, List.take_of_length_le hn]
  have kn' : (kvs'.map (·.1)).Nodup := by
    rw [hk]
    exact (perm.nodup_iff.mpr nd).map Sum.inr (fun a b h e => h (Sum.inr.inj e))
  refine ⟨hk, perm, up, fun y hy => ?_⟩
  have hm : (Sum.inr y : Key) ∈ kvs'.map (·.1) := (inr_mem hk _).mpr (perm.mem_iff.mpr hy)
  obtain ⟨p, hp, e⟩ := List.mem_map.mp hm
  obtain ⟨k', v⟩ := p
  have e' : k' = Sum.inr y := e
  subst e'
  rw [valV_some kn' hp, h.val y v hp]
/-- the value of a row that is there -/
theorem val_at {kvs : List (Key × V)} {xs : List Str} (hk : kvs.map (·.1) = xs.map Sum.inr) {y : Str} (hy : y ∈ xs) : ∃ v, valV kvs (.inr y) = some v ∧ (Sum.inr y, v) ∈ kvs := by
  have hkm : (Sum.inr y : Key) ∈ kvs.map (·.1) := (inr_mem hk _).mpr hy
  obtain ⟨v, hval⟩ := Option.isSome_iff_exists.mp (valV_mem.mpr hkm)
  refine ⟨v, hval, ?_⟩
  unfold valV at hval
  obtain ⟨p, hp, e⟩ := Option.map_eq_some_iff.mp hval
  have h1 := List.mem_of_find?_eq_some hp
  have h2 : p.1 = Sum.inr y := by
    have z := List.find?_some hp
    exact of_decide_eq_true z
  rw [← h2, ← e]
  exact h1
theorem upd_free2 {H : Hp} {a b e : Addr} {o u : HO} (h : upd (upd H a o) b u e = none) : e ≠ b ∧ e ≠ a ∧ H e = none := by
  obtain ⟨h1, h2⟩ := upd_free h
  obtain ⟨h3, h4⟩ := upd_free h2
  exact ⟨h1, h3, h4⟩
/-! ### C.m(..), m a staticmethod of the class C -/
structure CSta (K : PySem.W.Frag) (C : Addr) (mc : Value) (m : Str) (p g : Addr) : Prop where
  at_ : PySem.W.findCls K (.ref C) mc m = some (.get (.builtin "staticmethod.__get__") (.ref p) .none (.ref C))
  rc : ∃ rest, PySem.W.recIn K p "staticmethod" = some (.ref g :: rest)
  kp : PySem.W.keepIn K (.ref g) = true
def tCStat (C : Addr) (sp : Sp) (ta : TE) (t : TA) : TE := fun σ H Q => ta σ H fun x H1 => x = .ref C ∧ t σ H1 fun ws H2 => sp ws H2 Q E0
section
variable {X : Cx} {k : Nat} {C p g f : Addr} {mc : Value} {sp : Sp} {o e : Expr} {es : List Expr} {m : Str} {pos apos : Pos} {ta : TE} {t : TA} {fd : FuncData} {ps : List Str}
theorem pe_cstat {pl : Sem Bool} (he : PE X o ta) (r : ClX.CRead X.K C mc) (c : CSta X.K C mc m p g) (F : FnOk X.prog X.w X.K X.mg X.base CX0 k g fd ps sp) (hr : Room k X.A) (hb : Binds X.K fd ps []) (ha : PA X (e :: es) t)
    (hst : starEach (e :: es) X.env = (false, eval e X.env) :: starEach es X.env := by rfl) (hpl : (backTo pos (starEach es X.env)).any (·.1) = false := by rfl)
    (ht : eval (.Call (.Attribute o m apos) (e :: es) [] pos) X.env = (eval o X.env >>= fun ov => standAt apos.atName >>= fun _ => holding [ov] (getMethod ov m pl) >>= fun q => callWith pos q.1 q.2 (backTo pos (starEach (e :: es) X.env)) (backToKw pos (keywordEach [] X.env))) := by rfl) :
    PE X (.Call (.Attribute o m apos) (e :: es) [] pos) (tCStat C sp ta t) := by
  refine ⟨fun pins s σ H Q I h => ?_⟩
  refine PySem.W.methodCall_KW (pl := pl) (thn (he.run pins s σ H _ I h) fun u s1 ⟨x, H1, I1, rx, ex, q⟩ => ?_) ht
  subst ex
  obtain rfl : u = Value.ref C := rx
  obtain ⟨rest, hrec⟩ := c.rc
  refine PySem.W.method_cls I1.kIn r.ga (PySem.W.cls_bind I1.kIn r.rd c.at_ ?_)
  refine wpAny_call (PySem.W.sm_get (s := { s1 with toks := s1.toks + 1 }) I1.kIn hrec (PySem.W.handed_on (by rfl) ?_))
  have I2 := I1.tok (s1.toks + 1)
  refine PySem.W.callWith_K (first := []) (h₀ := X.base) I2.ok.mod.kin c.kp (thn (ha.run pos pins _ σ H1 _ I2 q) fun us s2 ⟨vs, H2, I3, r, q2⟩ => ⟨I3.kIn, ?_⟩) hst hpl
  exact run_fn F hr hb .nil pass0 I3 r (by rw [List.append_nil]; exact q2)
end
/-! ### sets of texts -/
abbrev NK : Type := Option Key
/-- what an entry of a set's table holds: None, an int or a text -/
def nxV : Value → NK
  | .str k _ => some (.inr k)
  | .int i _ => some (.inl i)
  | _ => none
def nxOf (e : Int × Value) : NK := nxV e.2
def hashN (w : World) : NK → Int
  | none => reduceHash 0xFCA86420
  | some k => keyH w k
theorem nx_val {k : NK} {v : Value} (h : nkIs k v = true) : nxV v = k ∧ v.scannable = true := by
  cases k with
  | none =>
    have e := nk_none h
    subst e
    exact ⟨rfl, rfl⟩
  | some k =>
    rcases keyIs_shape (show keyIs k v = true from h) with ⟨i, t, rfl, rfl⟩ | ⟨x, t, rfl, rfl⟩
    · exact ⟨rfl, rfl⟩
    · exact ⟨rfl, rfl⟩
/-- an entry is such a value with its own hash -/
def NxE (w : World) (e : Int × Value) : Prop := ∃ k, nkIs k e.2 = true ∧ e.1 = hashN w k
theorem hashN_is (P : Program) (w : World) (k : NK) : (noneKind P w).hash k = hashN w k := by cases k <;> rfl
/-- the table of a set whose members are ks -/
structure NxT (w : World) (es : Array (Int × Value)) (t : SetTable) (ks : List NK) : Prop where
  ent : ∀ e ∈ es.toList, NxE w e
  mem : (es.toList.map nxOf).Perm ks
  nd : ks.Nodup
  few : es.size < scanBound
  fit : t.fits es.size = true
  ris : Ris t.place.toList
  led : w.params.followText "set-order" = true ∨ t.led = true
/-- at a the set of the texts ks -/
def NxS (w : World) (h : Heap) (a : Addr) (ks : List NK) : Prop := ∃ (o : Obj) (es : Array (Int × Value)) (ep : Nat) (t : SetTable), h.get? a = some o ∧ o.ExactSet ∧ o.data = .set es ep t ∧ NxT w es t ks
theorem NxS.keep {w : World} {h h' : Heap} {a : Addr} {ks : List NK} (R : NxS w h a ks) (k : ∀ o, h.get? a = some o → h'.get? a = some o) : NxS w h' a ks :=
  let ⟨o, es, ep, t, ho, r⟩ := R
  ⟨o, es, ep, t, k o ho, r⟩
theorem nx_is {P : Program} {w : World} {e : Int × Value} (g : NxE w e) (k : NK) : (noneKind P w).is k e.2 = true ↔ nxOf e = k := by
  obtain ⟨k0, h1, _⟩ := g
  have z : nxOf e = k0 := (nx_val h1).1
  rw [z]
  constructor
  · intro q
    exact (noneKind P w).inj _ _ _ h1 q
  · rintro rfl
    exact h1
section
variable {P : Program} {w : World} {A : Around} {E : Value → Shared → Prop} {s : Shared} {a : Addr}
theorem NxT.elems {es : Array (Int × Value)} {t : SetTable} {ks : List NK} (T : NxT w es t ks) : ElemsOf (noneKind P w) es.toList := fun e he => by
  obtain ⟨k, h1, h2⟩ := T.ent e he
  exact ⟨⟨k, h1, by rw [h2, hashN_is]⟩, (nx_val h1).2⟩
theorem NxT.relaid {es es' : Array (Int × Value)} {t t' : SetTable} {ks : List NK} (T : NxT w es t ks) (p : es'.toList.Perm es.toList) (hf : t'.fits es'.size = true) (hr : Ris t'.place.toList) (hl : t'.led = t.led) : NxT w es' t' ks := by
  have n : es'.size = es.size := by
    rw [← Array.length_toList, ← Array.length_toList]
    exact p.length_eq
  exact ⟨fun e he => T.ent e (p.mem_iff.mp he), (p.map nxOf).trans T.mem, T.nd, n ▸ T.few, hf, hr, by rw [hl]; exact T.led⟩
theorem nx_store {h : Heap} {o : Obj} {es es' : Array (Int × Value)} {ep : Nat} {t t' : SetTable} (ho : h.get? a = some o) (hd : o.data = .set es ep t) : (h.update a (Obj.putSet es' t')).get? a = some { o with data := .set es' (ep + 1) t' } :=
  L2.store_at ho hd
theorem nx_tail {g : Bool → Sem Unit} (free : ∀ (b : Bool) (r : Shared) (Z : Unit → Shared → Prop), Z () r → wpAny (model P w) A (g b) Z E r) {o : Obj} {es es1 : Array (Int × Value)} {ep : Nat} {t t2 : SetTable} {ks : List NK} (ho : s.heap.get? a = some o) (hx : o.ExactSet)
    (hd : o.data = .set es ep t) (T : NxT w es1 t2 ks) {wd : Bool} {Z : Option Bool → Shared → Prop} (hZ : ∀ h', Heap.SameBut a s.heap h' → NxS w h' a ks → Z (some true) { s with heap := h' }) :
    wpAny (model P w) A (storeSet a es1 t2 >>= fun _ => if (!wd && t2.tooFull) = true then g (relayAll t2 es1 (SetTable.grown es1.size)).2.2 >>= fun _ => storeSet a (relayAll t2 es1 (SetTable.grown es1.size)).1 (relayAll t2 es1 (SetTable.grown es1.size)).2.1 >>= fun _ => pure (some true) else pure (some true)) Z E s := by
  refine wpAny_bind (wpAny_storeSet_of ho hd ?_ (fits_of_scanBound T.few))
  have o1 := nx_store (es' := es1) (t' := t2) ho hd
  have b1 := Heap.SameBut.update s.heap a (Obj.putSet es1 t2)
  split
  · have T2 := T.relaid (relayAll_perm t2 es1 (SetTable.grown es1.size)) (relayAll_fits t2 es1 _) (L2.relayAll_ris t2 es1 _) (L2.relayAll_led t2 es1 _)
    revert T2
    generalize relayAll t2 es1 (SetTable.grown es1.size) = z
    intro T2
    refine wpAny_bind (free _ _ _ (wpAny_bind (wpAny_storeSet_of o1 rfl ?_ (fits_of_scanBound T2.few))))
    exact wpAny_pure (hZ _ (b1.trans (Heap.SameBut.update _ a _)) ⟨_, z.1, _, z.2.1, nx_store (es' := z.1) (t' := z.2.1) o1 rfl, hx, rfl, T2⟩)
  · exact wpAny_pure (hZ _ b1 ⟨_, es1, _, t2, o1, hx, rfl, T⟩)
theorem nx_add {ks : List NK} {k : NK} {v : Value} {Z : Bool → Shared → Prop} (kv : nkIs k v = true) (R : NxS w s.heap a ks) (room : ks.length + 1 < scanBound)
    (hZ : ∀ h' b ks', Heap.SameBut a s.heap h' → NxS w h' a ks' → (∀ x, x ∈ ks' ↔ x = k ∨ x ∈ ks) → ks'.length ≤ ks.length + 1 → Z b { s with heap := h' }) : wpAny (model P w) A (setAddHashed a v ((noneKind P w).hash k)) Z E s := by
  obtain ⟨o, es, ep, t, ho, hx, hd, T⟩ := R
  have hsc : v.scannable = true := (nx_val kv).2
  unfold setAddHashed setAddHashedIn
  refine wpAny_holding (wpAny_bind (wpAny_setState_of ho hd T.fit ?_))
  show wpAny _ _ (if byScan v es = true then _ else _) _ _ _
  rw [if_pos (byScan_of hsc T.few (T.elems (P := P)))]
  unfold setAddByScan
  refine wpAny_bind (wpAny_bind (wpAny_rule (wpAny_bind (wpAny_setScan_of (kv) ho hd T.fit T.elems ?_))))
  cases hf : es.toList.findIdx? (fun e => (noneKind P w).is k e.2) with
  | some j =>
    obtain ⟨hj, pj, _⟩ := List.findIdx?_eq_some_iff_getElem.mp hf
    have hk : k ∈ ks := T.mem.mem_iff.mp (List.mem_map.mpr ⟨_, List.getElem_mem hj, (nx_is (T.ent _ (List.getElem_mem hj)) k).mp pj⟩)
    refine wpAny_pure (wpAny_pure (hZ s.heap _ ks (Heap.SameBut.refl a s.heap) ⟨o, es, ep, t, ho, hx, hd, T⟩ (fun x => ⟨.inr, fun q => q.elim (fun e => e ▸ hk) id⟩) (Nat.le_succ _)))
  | none =>
    have hk : k ∉ ks := fun q => by
      obtain ⟨e, he, ee⟩ := List.mem_map.mp (T.mem.mem_iff.mpr q)
      have c := List.findIdx?_eq_none_iff.mp hf e he
      rw [(nx_is (T.ent e he) k).mpr ee] at c
      cases c
    have gw : ∀ (b : Bool) {r : Shared} {Y : Unit → Shared → Prop}, Y () r → wpAny (model P w) A (match b with | true => rule "set.scan.the-table-gave-way" | false => pure ()) Y E r := fun b r Y q => by
      cases b
      · exact wpAny_pure q
      · exact wpAny_rule q
    have pm := layNew_perm t es ((noneKind P w).hash k) v
    have f1 := layNew_fits t es ((noneKind P w).hash k) v
    have r1 := L2.layNew_ris t es ((noneKind P w).hash k) v T.ris
    have l1 := L2.layNew_led t es ((noneKind P w).hash k) v
    dsimp only
    revert pm f1 r1 l1
    generalize layNew t es ((noneKind P w).hash k) v = z
    obtain ⟨es1, t1, wd, gave⟩ := z
    dsimp only
    intro pm f1 r1 l1
    rw [Array.toList_push] at pm
    have pc : es1.toList.Perm (((noneKind P w).hash k, v) :: es.toList) := pm.trans (List.perm_append_singleton _ _)
    have n1 : es1.size = es.size + 1 := by
      rw [← Array.length_toList, pc.length_eq, List.length_cons, Array.length_toList]
    have n2 : ks.length = es.size := by
      rw [← T.mem.length_eq, List.length_map, Array.length_toList]
    have mk : ∀ t2 : SetTable, t2.fits es1.size = true → Ris t2.place.toList → t2.led = t1.led → NxT w es1 t2 (k :: ks) := fun t2 q1 q2 q3 =>
      ⟨fun e he => (List.mem_cons.mp (pc.mem_iff.mp he)).elim (fun q => by rw [q]; exact ⟨k, kv, by rw [hashN_is]⟩) (T.ent e), (pc.map nxOf).trans (by rw [List.map_cons, show nxOf (_, v) = k from (nx_val kv).1]; exact T.mem.cons k), List.nodup_cons.mpr ⟨hk, T.nd⟩, by rw [n1, ← n2]; exact room, q1, q2, by rw [q3, l1]; exact T.led⟩
    have fin : ∀ h', Heap.SameBut a s.heap h' → NxS w h' a (k :: ks) → Z true { s with heap := h' } := fun h' sb r => hZ h' true (k :: ks) sb r (fun x => List.mem_cons) (Nat.le_refl _)
    refine wpAny_bind (gw _ ?_)
    split
    · refine wpAny_bind ?_
      rw [hashByValue_scannable 8 hsc]
      refine wpAny_pure (nx_tail (fun b r Y q => gw b q) ho hx hd (mk _ ?_ ?_ ?_) fun h' sb r => wpAny_pure (fin h' sb r))
      · first | (split <;> first | exact f1 | exact SetTable.fits_plain_off f1) | exact f1
      · first | (split <;> exact r1) | exact r1
      · first | (split <;> rfl) | rfl
    · refine wpAny_bind (wpAny_pure ?_)
      simp only [↓reduceIte]
      exact nx_tail (fun b r Y q => gw b q) ho hx hd (mk t1 f1 r1 rfl) fun h' sb r => wpAny_pure (fin h' sb r)
end
/-! ### set(a list of texts), sorted(a set of texts) -/
abbrev newSetN (w : World) : Obj := { cls := .type "set", dict := none, data := .set #[] 0 (.fresh 0 0 (!w.params.followText "set-order")) }
theorem nx_new {w : World} {h : Heap} {a : Addr} (e : h.get? a = some (newSetN w)) : NxS w h a [] := by
  refine ⟨_, #[], 0, _, e, ⟨rfl, rfl, rfl⟩, rfl, fun e he => ?_, .nil, List.nodup_nil, by decide, by rfl, List.Pairwise.nil, ?_⟩
  · simp at he
  · show _ ∨ (!w.params.followText "set-order") = true
    cases w.params.followText "set-order"
    · exact .inr rfl
    · exact .inl rfl
section
variable {P : Program} {w : World} {A : Around} {E : Value → Shared → Prop} {s : Shared}
theorem nx_fill {I S : Addr} {fp wr : List Addr} {G : Array GenState → Array GenState → Prop} {n : Nat} {Pv : Nat → Value → Prop} {St : Nat → Shared → Prop} {Z : Result → Shared → Prop} (W : WalksS P w A.in1 I fp wr G n Pv St) (nS : S ∉ fp) (xs : List NK) (en : n = xs.length) (room : xs.length + 1 < scanBound)
    (txt : ∀ i v, Pv i v → ∃ k, xs[i]? = some k ∧ nkIs k v = true) : ∀ (m i : Nat) (s : Shared), n - i = m → i ≤ n → St i s → (∃ ks, NxS w s.heap S ks ∧ (∀ x, x ∈ ks ↔ x ∈ xs.take i) ∧ ks.length ≤ i) →
      (∀ s' ks, Moved (S :: wr) G s s' → NxS w s'.heap S ks → (∀ x, x ∈ ks ↔ x ∈ xs) → ks.length ≤ n → Z (.ok (.ret .none)) s') → codeAny (model P w) A (.builtin "set.update.loop" ⟨[.ref S, .ref I], []⟩) Z s := by
  have nW : S ∉ wr := fun q => nS (W.sub _ q)
  have up : ∀ b ∈ wr, b ∈ S :: wr := fun b q => List.mem_cons_of_mem _ q
  intro m
  induction m with
  | zero =>
    rintro i s hm hi st ⟨ks, R, sub, len⟩ fin
    obtain rfl : i = n := by omega
    rw [List.take_of_length_le (by omega)] at sub
    refine codeAny_builtin PyProof.Rows.F.entry_set_update_loop ?_
    rw [Around.under_plainId PyProof.Rows.F.plain_set_update_loop _]
    show wpAny _ A.in1 (pyNext (.ref I) >>= _) _ _ _
    refine wpAny_bind (W.done s _ _ st fun s' mv => ?_)
    exact wpAny_pure (fin s' ks (mv.mono up) (R.keep fun o e => mv.heap S o nW e) sub len)
  | succ m ih =>
    rintro i s hm hi st ⟨ks, R, sub, len⟩ fin
    have lt : i < n := by omega
    refine codeAny_builtin PyProof.Rows.F.entry_set_update_loop ?_
    rw [Around.under_plainId PyProof.Rows.F.plain_set_update_loop _]
    show wpAny _ A.in1 (pyNext (.ref I) >>= _) _ _ _
    refine wpAny_bind (W.item i s _ _ lt st fun v s' pv st' mv => ?_)
    obtain ⟨k, hk, kv⟩ := txt i v pv
    have R1 : NxS w s'.heap S ks := R.keep fun o e => mv.heap S o nW e
    show wpAny _ A.in1 (holding [v] (setAdd S v) >>= _) _ _ _
    refine wpAny_bind (wpAny_holding ?_)
    unfold setAdd
    refine wpAny_holding (wpAny_bind ((noneKind P w).pyHash (k := k) kv ?_))
    refine nx_add (s := { s' with toks := s'.toks + 1 }) kv R1 (by omega) fun h' b ks' sb R2 mem ln => ?_
    refine wpAny_pure ⟨plainId_quiet PyProof.Rows.F.plain_set_update_loop _, ih (i + 1) _ (by omega) lt (W.frame _ s' _ _ st' (Nat.le_succ _) fun c hc o e => ?_) ⟨ks', R2, fun x => ?_, by omega⟩ fun s'' ks'' mv2 R3 sub3 ln3 => ?_⟩
    · rw [sb.2 c (fun q : c = S => nS (q ▸ hc))]
      exact e
    · rw [mem x, List.take_add_one, hk, List.mem_append, sub x]
      exact ⟨fun q => q.elim (fun e => .inr (by rw [e]; exact List.mem_singleton.mpr rfl)) .inl, fun q => q.elim .inr fun e => .inl (List.mem_singleton.mp e)⟩
    · refine fin s'' ks'' (Moved.trans W.gtrans ((mv.mono up).then_heap (Nat.le_succ _) fun c o hc e => ?_) mv2) R3 sub3 ln3
      rw [sb.2 c (fun q : c = S => hc (by rw [q]; exact List.mem_cons_self))]
      exact e
set_option maxHeartbeats 8000000 in
theorem nx_make {l : Addr} {its : Array Value} (xs : List NK) {Z : Value → Shared → Prop} (calm : A.handled = none) (hl : s.heap.IsList l its) (many : its.size = xs.length) (hx : ∀ (i : Nat) (v : Value), its[i]? = some v → ∃ k, xs[i]? = some k ∧ nkIs k v = true) (room : xs.length + 1 < scanBound)
    (hZ : ∀ (h' : Heap) (tk : Nat) (ks : List NK), NxS w h' s.heap.objs.size ks → (∀ x, x ∈ ks ↔ x ∈ xs) → ks.length ≤ xs.length → (∀ b o, s.heap.get? b = some o → h'.get? b = some o) → Z (.ref s.heap.objs.size) { s with heap := h', toks := tk }) :
    wpAny (model P w) A (call (.type "set") [.ref l]) Z E s := by
  obtain ⟨_, _, m1⟩ := PySem.F.called_set.mro; have m2 := PySem.F.called_set.made; have m3 := PySem.F.called_set.sub
  refine wpAny_call (codeAny_of_tree ?_)
  show wpAny _ _ (callAny (.type "set") ⟨[.ref l], []⟩) _ _ _
  refine wpAny_pure ⟨Code.quiet_builtin _ (by decide +kernel), codeAny_builtin PySem.F.entry_type_call ?_⟩
  rw [Around.under_plain (weight_type_call_type "set" [.ref l] []) rfl]
  have c1 := PySem.F.called_set.notType; have c2 := PySem.F.called_set.canCreate; have c3 := PySem.F.typeCall_set_1 (.ref l)
  repeat (any_goals (first | assumption | wp_step))
  refine codeAny_mono (L2.code_set_led1 (.ref l) (E := E) (Q₁ := fun v r => v = .ref s.heap.objs.size ∧ r = { s with heap := s.heap.push (newSetN w) }) ⟨rfl, rfl⟩) fun res r1 hr => ?_
  match res, hr with
  | .error e, hr => exact hr
  | .ok (.ret v), hr =>
    obtain ⟨rfl, rfl⟩ := hr
    have at0 : (s.heap.push (newSetN w)).get? s.heap.objs.size = some (newSetN w) := Heap.get?_push_size _ rfl
    have ty0 : Shared.TypeIs { s with heap := s.heap.push (newSetN w) } (.ref s.heap.objs.size) "set" := ⟨_, at0, rfl⟩
    have i1 := PySem.F.called_set.init.lookup; have i2 := PySem.F.called_set.init.bind (.ref s.heap.objs.size)
    repeat (any_goals (first | assumption | wp_step))
    refine codeAny_mono (codeAny_call_builtin (R := wants (fun v r => v = .none ∧ ∃ h' tk ks, r = { s with heap := h', toks := tk } ∧ NxS w h' s.heap.objs.size ks ∧ (∀ x, x ∈ ks ↔ x ∈ xs) ∧ ks.length ≤ xs.length ∧ ∀ b o, s.heap.get? b = some o → h'.get? b = some o) E) PySem.F.called_set.init.plain
      PySem.F.entry_set_init (check_set_init_1 ty0 ?_)) fun res2 r2 hr2 => ?_
    · obtain ⟨⟨ocls, od, odt, osl⟩, e0, e1, nn, e2⟩ := hl
      simp only at e1 e2
      subst e1; subst e2
      have lS : l < s.heap.objs.size := Heap.lt_size e0
      have e3 := Heap.get?_push_of_some (newSetN w) e0
      have d1 := PySem.F.sub_list_set; have d2 := PySem.F.sub_list_frozenset; have d3 : (Value.type "list" == Value.type "dict") = false := by decide
      have l1 : (s.heap.push (newSetN w)).IsList l its := ⟨_, e3, rfl, nn, rfl⟩
      unfold Builtin.«set.__init__» noKeywords Builtin.Frozenset.updateFrom
      generalize hPI : pyIter = PI
      wp_walk
      subst hPI
      refine wpAny_pyIter_list l1 (wpAny_bind (wpAny_runValue ?_))
      have z1 : (s.heap.push (newSetN w)).objs.size = s.heap.objs.size + 1 := Heap.size_push ..
      have far : l ≠ (s.heap.push (newSetN w)).objs.size := by
        rw [z1]
        exact Nat.ne_of_lt (Nat.lt_succ_of_lt lS)
      have out : s.heap.objs.size ∉ [(s.heap.push (newSetN w)).objs.size, l] := by
        rw [z1, List.mem_cons, List.mem_singleton]
        exact fun q => q.elim (Nat.ne_of_lt (Nat.lt_succ_self _)) (Nat.ne_of_gt lS)
      refine nx_fill ((Walks.list (show A.in1.in1.in1.handled = none by simp [calm]) _ l far its).toS) out xs many room (fun i v hv => ?_) (its.size - 0) 0 _ rfl (Nat.zero_le _) ⟨⟨_, Heap.get?_push_size _ rfl, rfl, rfl⟩, l1.push _⟩ ⟨[], nx_new (Heap.get?_push_of_some _ at0), fun _ => Iff.rfl, Nat.le_refl _⟩ fun r ks mv R sub ln => ?_
      · exact hx i v hv
      · obtain ⟨h', g', d', tk', os'⟩ := r
        obtain rfl : g' = s.gens := mv.gens
        obtain rfl : d' = s.drawn := mv.drawn
        obtain rfl : os' = s.os := mv.os
        show wpAny _ _ _ _ _ _
        refine wpAny_pure ?_
        show wpAny _ _ (ret Value.none) _ _ _
        refine wpAny_pure ⟨rfl, h', tk', ks, rfl, R, sub, by omega, fun b o e => ?_⟩
        have b0 : b < s.heap.objs.size := Heap.lt_size e
        refine mv.heap b o ?_ (Heap.get?_push_of_some _ (Heap.get?_push_of_some _ e))
        rw [List.mem_cons, List.mem_singleton, z1]
        exact fun q => q.elim (Nat.ne_of_lt b0) (Nat.ne_of_lt (Nat.lt_succ_of_lt b0))
    · match res2, hr2 with
      | .error e, hr2 => exact hr2
      | .ok (.ret v), hr2 =>
        obtain ⟨rfl, h', tk, ks, rfl, R, sub, ln, kp⟩ := hr2
        repeat (any_goals (first | assumption | wp_step))
        exact hZ _ _ _ R sub ln kp
set_option maxHeartbeats 8000000 in
theorem nx_makeT {l : Addr} {its : Array Value} (xs : List NK) {Z : Value → Shared → Prop} (calm : A.handled = none) (hl : s.heap.IsTuple l its) (many : its.size = xs.length) (hx : ∀ (i : Nat) (v : Value), its[i]? = some v → ∃ k, xs[i]? = some k ∧ nkIs k v = true) (room : xs.length + 1 < scanBound)
    (hZ : ∀ (h' : Heap) (tk : Nat) (ks : List NK), NxS w h' s.heap.objs.size ks → (∀ x, x ∈ ks ↔ x ∈ xs) → ks.length ≤ xs.length → (∀ b o, s.heap.get? b = some o → h'.get? b = some o) → Z (.ref s.heap.objs.size) { s with heap := h', toks := tk }) :
    wpAny (model P w) A (call (.type "set") [.ref l]) Z E s := by
  obtain ⟨_, _, m1⟩ := PySem.F.called_set.mro; have m2 := PySem.F.called_set.made; have m3 := PySem.F.called_set.sub
  refine wpAny_call (codeAny_of_tree ?_)
  show wpAny _ _ (callAny (.type "set") ⟨[.ref l], []⟩) _ _ _
  refine wpAny_pure ⟨Code.quiet_builtin _ (by decide +kernel), codeAny_builtin PySem.F.entry_type_call ?_⟩
  rw [Around.under_plain (weight_type_call_type "set" [.ref l] []) rfl]
  have c1 := PySem.F.called_set.notType; have c2 := PySem.F.called_set.canCreate; have c3 := PySem.F.typeCall_set_1 (.ref l)
  repeat (any_goals (first | assumption | wp_step))
  refine codeAny_mono (L2.code_set_led1 (.ref l) (E := E) (Q₁ := fun v r => v = .ref s.heap.objs.size ∧ r = { s with heap := s.heap.push (newSetN w) }) ⟨rfl, rfl⟩) fun res r1 hr => ?_
  match res, hr with
  | .error e, hr => exact hr
  | .ok (.ret v), hr =>
    obtain ⟨rfl, rfl⟩ := hr
    have at0 : (s.heap.push (newSetN w)).get? s.heap.objs.size = some (newSetN w) := Heap.get?_push_size _ rfl
    have ty0 : Shared.TypeIs { s with heap := s.heap.push (newSetN w) } (.ref s.heap.objs.size) "set" := ⟨_, at0, rfl⟩
    have i1 := PySem.F.called_set.init.lookup; have i2 := PySem.F.called_set.init.bind (.ref s.heap.objs.size)
    repeat (any_goals (first | assumption | wp_step))
    refine codeAny_mono (codeAny_call_builtin (R := wants (fun v r => v = .none ∧ ∃ h' tk ks, r = { s with heap := h', toks := tk } ∧ NxS w h' s.heap.objs.size ks ∧ (∀ x, x ∈ ks ↔ x ∈ xs) ∧ ks.length ≤ xs.length ∧ ∀ b o, s.heap.get? b = some o → h'.get? b = some o) E) PySem.F.called_set.init.plain
      PySem.F.entry_set_init (check_set_init_1 ty0 ?_)) fun res2 r2 hr2 => ?_
    · obtain ⟨⟨ocls, od, odt, osl⟩, e0, e1, nn, e2⟩ := hl
      simp only at e1 e2
      subst e1; subst e2
      have lS : l < s.heap.objs.size := Heap.lt_size e0
      have e3 := Heap.get?_push_of_some (newSetN w) e0
      have d1 := PySem.F.sub_tuple_set; have d2 := PySem.F.sub_tuple_frozenset; have d3 : (Value.type "tuple" == Value.type "dict") = false := by decide
      have l1 : (s.heap.push (newSetN w)).IsTuple l its := ⟨_, e3, rfl, nn, rfl⟩
      unfold Builtin.«set.__init__» noKeywords Builtin.Frozenset.updateFrom
      generalize hPI : pyIter = PI
      wp_walk
      subst hPI
      refine wpAny_pyIter_tuple l1 (wpAny_bind (wpAny_runValue ?_))
      have z1 : (s.heap.push (newSetN w)).objs.size = s.heap.objs.size + 1 := Heap.size_push ..
      have far : l ≠ (s.heap.push (newSetN w)).objs.size := by
        rw [z1]
        exact Nat.ne_of_lt (Nat.lt_succ_of_lt lS)
      have out : s.heap.objs.size ∉ [(s.heap.push (newSetN w)).objs.size, l] := by
        rw [z1, List.mem_cons, List.mem_singleton]
        exact fun q => q.elim (Nat.ne_of_lt (Nat.lt_succ_self _)) (Nat.ne_of_gt lS)
      refine nx_fill ((Walks.tuple (show A.in1.in1.in1.handled = none by simp [calm]) _ l far its).toS) out xs many room (fun i v hv => ?_) (its.size - 0) 0 _ rfl (Nat.zero_le _) ⟨⟨_, Heap.get?_push_size _ rfl, rfl, rfl⟩, l1.push _⟩ ⟨[], nx_new (Heap.get?_push_of_some _ at0), fun _ => Iff.rfl, Nat.le_refl _⟩ fun r ks mv R sub ln => ?_
      · exact hx i v hv
      · obtain ⟨h', g', d', tk', os'⟩ := r
        obtain rfl : g' = s.gens := mv.gens
        obtain rfl : d' = s.drawn := mv.drawn
        obtain rfl : os' = s.os := mv.os
        show wpAny _ _ _ _ _ _
        refine wpAny_pure ?_
        show wpAny _ _ (ret Value.none) _ _ _
        refine wpAny_pure ⟨rfl, h', tk', ks, rfl, R, sub, by omega, fun b o e => ?_⟩
        have b0 : b < s.heap.objs.size := Heap.lt_size e
        refine mv.heap b o ?_ (Heap.get?_push_of_some _ (Heap.get?_push_of_some _ e))
        rw [List.mem_cons, List.mem_singleton, z1]
        exact fun q => q.elim (Nat.ne_of_lt b0) (Nat.ne_of_lt (Nat.lt_succ_of_lt b0))
    · match res2, hr2 with
      | .error e, hr2 => exact hr2
      | .ok (.ret v), hr2 =>
        obtain ⟨rfl, h', tk, ks, rfl, R, sub, ln, kp⟩ := hr2
        repeat (any_goals (first | assumption | wp_step))
        exact hZ _ _ _ R sub ln kp
end

/-! ### as rules -/
def NxO (w : World) (a : Addr) (ks : List NK) : HO := .ext fun h => NxS w h a ks
theorem nxO_new {w : World} {P : Program} {H : Hp} {h : Heap} {a : Addr} {ks : List NK} (R : NxS w h a ks) : ObjOk P w H h a (NxO w a ks) := by
  have ⟨o, _, _, _, ho, _⟩ := R
  exact ⟨R, ⟨o, ho⟩, fun _ _ p k => p.keep k⟩
def nkV : NK → V
  | none => .non
  | some k => kV k
theorem nk_rel {k : NK} {v : Value} (h : RelV (nkV k) v) : nkIs k v = true := by
  cases k with
  | none =>
    cases (show v = Value.none from h)
    rfl
  | some k =>
    cases k with
    | inl i =>
      obtain ⟨t, rfl⟩ := (show ∃ t, v = Value.int i t from h)
      exact beq_self_eq_true _
    | inr x =>
      obtain ⟨t, rfl⟩ := (show ∃ t, v = Value.str x t from h)
      exact beq_self_eq_true _
theorem nk_vals : ∀ {ks : List NK} {vs : List Value}, Vals (ks.map nkV) vs → vs.length = ks.length ∧ ∀ (i : Nat) (v : Value), vs[i]? = some v → ∃ k, ks[i]? = some k ∧ nkIs k v = true
  | [], _, r => by
    cases r
    exact ⟨rfl, fun i v h => by cases i <;> cases h⟩
  | k :: ks, _, r => by
    cases r with
    | cons r1 r2 =>
      obtain ⟨l, h⟩ := nk_vals r2
      refine ⟨congrArg (· + 1) l, fun i v hi => ?_⟩
      cases i with
      | zero =>
        cases hi
        exact ⟨k, rfl, nk_rel r1⟩
      | succ i => exact h i v hi
section
variable {X : Cx}
/-- set(a list or tuple of texts, ints, None) -/
def rSetN (w : World) (K : PySem.W.Frag) : List V → Hp → VK → Prop := fun xs H Q => ∃ (a : Addr) (ys : List NK), xs = [.ref a] ∧ (SqL K H a (ys.map nkV) ∨ SqT K H a (ys.map nkV)) ∧ ys.length < 4000 ∧ ∀ (p : Addr) (ks : List NK), H p = none → ks.Nodup → (∀ x, x ∈ ks ↔ x ∈ ys) → ks.length ≤ ys.length → Q (.ref p) (upd H p (NxO w p ks))
theorem cr_setN (calm : X.calm = true) : CallR X (.type "set") (rSetN X.w X.K) := by
  intro pins s σ H xs us Q I r h
  obtain ⟨a, ys, rfl, hs, hl, q⟩ := h
  rw [Vals.ref1 r]
  have hn : H s.heap.objs.size = none := I.hok.fresh (Nat.le_refl _)
  rcases hs with hs | hs
  · obtain ⟨its, rv, at1, _⟩ := I.list hs
    obtain ⟨l1, l2⟩ := nk_vals rv
    refine nx_make ys (I.ok.hd calm) at1.isList (by rw [List.size_toArray]; exact l1) (fun i v hi => l2 i v (by rw [List.getElem?_toArray] at hi; exact hi)) (by show ys.length + 1 < 4096; omega) fun h' tk ks R sub ln kp => ?_
    exact ⟨.ref s.heap.objs.size, _, I.laid (t' := tk) kp (Nat.le_refl _) (nxO_new R), rfl, q _ ks hn (let ⟨_, _, _, _, _, _, _, T⟩ := R; T.nd) sub ln⟩
  · obtain ⟨its, rv, at1, _⟩ := I.tuple hs
    obtain ⟨l1, l2⟩ := nk_vals rv
    refine nx_makeT ys (I.ok.hd calm) at1 (by rw [List.size_toArray]; exact l1) (fun i v hi => l2 i v (by rw [List.getElem?_toArray] at hi; exact hi)) (by show ys.length + 1 < 4096; omega) fun h' tk ks R sub ln kp => ?_
    exact ⟨.ref s.heap.objs.size, _, I.laid (t' := tk) kp (Nat.le_refl _) (nxO_new R), rfl, q _ ks hn (let ⟨_, _, _, _, _, _, _, T⟩ := R; T.nd) sub ln⟩
/-- len(such a set) -/
def rLenN (w : World) : List V → Hp → VK → Prop := fun xs H Q => ∃ (a : Addr) (ks : List NK), xs = [.ref a] ∧ H a = some (NxO w a ks) ∧ Q (.int ks.length) H
theorem cr_lenN : CallR X (.builtin "len") (rLenN X.w) := by
  intro pins s σ H xs us Q I r h
  obtain ⟨a, ks, rfl, ha, q⟩ := h
  have R : NxS X.w s.heap a ks := (I.hok a _ ha).1
  obtain ⟨o, es, ep, t, ho, hx, hd, T⟩ := R
  have n2 : ks.length = es.size := by
    rw [← T.mem.length_eq, List.length_map, Array.length_toList]
  have few : es.size < 4096 := T.few
  rw [Vals.ref1 r]
  exact call_len_set ho hx hd T.fit (by omega) ⟨.int ks.length, H, I.tok _, ⟨_, by rw [n2]⟩, q⟩
end
/-! ### ascending order as a function -/
instance (a b : Str) : Decidable (LeS a b) := inferInstanceAs (Decidable (sg a ≤ sg b))
def leB (a b : Str) : Bool := decide (LeS a b)
def sortS (xs : List Str) : List Str := xs.mergeSort leB
theorem sortS_perm (xs : List Str) : (sortS xs).Perm xs := List.mergeSort_perm _ _
theorem pw_rise : ∀ (l : List Str) (p : Str), (p :: l).Pairwise LeS → risingS p l = true
  | [], _, _ => rfl
  | x :: r, p, h => by
    obtain ⟨h1, h2⟩ := List.pairwise_cons.mp h
    show (!ltCps (sg x) (sg p) && risingS x r) = true
    rw [pw_rise r x h2, Bool.and_true, ltCps_eq]
    have z : ¬ (sg x < sg p) := List.not_lt.mpr (h1 x List.mem_cons_self)
    simpa using z
theorem pw_up {l : List Str} (h : l.Pairwise LeS) : sortedS l = true := by
  cases l with
  | nil => rfl
  | cons x r => exact pw_rise r x h
theorem sortS_up (xs : List Str) : sortedS (sortS xs) = true := by
  refine pw_up ?_
  have h := List.pairwise_mergeSort (le := leB) (fun a b c h1 h2 => decide_eq_true (leS_trans (of_decide_eq_true h1) (of_decide_eq_true h2))) (fun a b => by
    rcases List.le_total (sg a) (sg b) with h | h
    · rw [show leB a b = true from decide_eq_true h]; rfl
    · rw [show leB b a = true from decide_eq_true h, Bool.or_true]) xs
  exact h.imp fun h => of_decide_eq_true h
theorem sortS_of {xs ys : List Str} (p : ys.Perm xs) (up : sortedS ys = true) : ys = sortS xs := up_uniq (p.trans (sortS_perm xs).symm) up (sortS_up xs)
theorem sortS_idem (xs : List Str) : sortS (sortS xs) = sortS xs := (sortS_of (sortS_perm xs |>.trans (.refl _) |> fun p => by exact List.Perm.refl _) (sortS_up xs)).symm
theorem sortS_congr {xs ys : List Str} (p : xs.Perm ys) : sortS xs = sortS ys := sortS_of ((sortS_perm xs).trans p) (sortS_up xs)
theorem mem_sortS {xs : List Str} {x : Str} : x ∈ sortS xs ↔ x ∈ xs := (sortS_perm xs).mem_iff
/-! ### what a row of a wish allows -/
/-- None, then the targets in ascending order -/
def ascO (l : List (Option Str)) : List (Option Str) := (if none ∈ l then [none] else []) ++ (sortS (l.filterMap id)).map some
theorem filt_some (l : List Str) : (l.map some).filterMap id = l := by
  induction l with
  | nil => rfl
  | cons x r ih =>
    show x :: (r.map some).filterMap id = _
    rw [ih]
theorem ascO_mem {l : List (Option Str)} {o : Option Str} : o ∈ ascO l ↔ o ∈ l := by
  unfold ascO
  rw [List.mem_append]
  cases o with
  | none =>
    constructor
    · rintro (h | h)
      · split at h
        · assumption
        · exact absurd h List.not_mem_nil
      · obtain ⟨x, _, e⟩ := List.mem_map.mp h
        cases e
    · intro h
      rw [if_pos h]
      exact .inl List.mem_cons_self
  | some x =>
    constructor
    · rintro (h | h)
      · split at h
        · rcases List.mem_cons.mp h with e | h
          · cases e
          · exact absurd h List.not_mem_nil
        · exact absurd h List.not_mem_nil
      · obtain ⟨y, hy, e⟩ := List.mem_map.mp h
        cases e
        have := mem_sortS.mp hy
        rw [List.mem_filterMap] at this
        obtain ⟨o, ho, e⟩ := this
        rw [show o = some x from e] at ho
        exact ho
    · intro h
      refine .inr (List.mem_map.mpr ⟨x, mem_sortS.mpr ?_, rfl⟩)
      exact List.mem_filterMap.mpr ⟨some x, h, rfl⟩
theorem ascO_filt (l : List (Option Str)) : (ascO l).filterMap id = sortS (l.filterMap id) := by
  unfold ascO
  rw [List.filterMap_append, filt_some]
  split <;> rfl
theorem ascO_idem (l : List (Option Str)) : ascO (ascO l) = ascO l := by
  have e2 : ascO (ascO l) = (if none ∈ ascO l then [none] else []) ++ (sortS ((ascO l).filterMap id)).map some := rfl
  rw [e2, ascO_filt, sortS_idem]
  have e3 : ascO l = (if none ∈ l then [none] else []) ++ (sortS (l.filterMap id)).map some := rfl
  by_cases h : none ∈ l
  · rw [if_pos (ascO_mem.mpr h), e3, if_pos h]
  · rw [if_neg (fun q => h (ascO_mem.mp q)), e3, if_neg h]
theorem nodup_filt {l : List (Option Str)} (h : l.Nodup) : (l.filterMap id).Nodup := by
  induction l with
  | nil => exact List.nodup_nil
  | cons o r ih =>
    obtain ⟨h1, h2⟩ := List.nodup_cons.mp h
    cases o with
    | none => exact ih h2
    | some x =>
      show (x :: r.filterMap id).Nodup
      refine List.nodup_cons.mpr ⟨fun q => h1 ?_, ih h2⟩
      obtain ⟨o, ho, e⟩ := List.mem_filterMap.mp q
      rw [show o = some x from e] at ho
      exact ho
theorem ascO_nodup {l : List (Option Str)} (h : l.Nodup) : (ascO l).Nodup := by
  unfold ascO
  refine List.nodup_append.mpr ⟨by split; exact List.nodup_cons.mpr ⟨List.not_mem_nil, List.nodup_nil⟩; exact List.nodup_nil, (((sortS_perm _).nodup_iff.mpr (nodup_filt h)).map some fun a b h e => h (Option.some.inj e)), fun a ha b hb e => ?_⟩
  split at ha
  · rcases List.mem_cons.mp ha with rfl | ha
    · obtain ⟨x, _, ex⟩ := List.mem_map.mp hb
      rw [← e] at ex
      cases ex
    · exact absurd ha List.not_mem_nil
  · exact absurd ha List.not_mem_nil
theorem filt_len (l : List (Option Str)) : (l.filterMap id).length ≤ l.length := List.length_filterMap_le ..
theorem ascO_len {l : List (Option Str)} (h : l.Nodup) : (ascO l).length = l.length := by
  have p : (ascO l).Perm l := (List.perm_ext_iff_of_nodup (ascO_nodup h) h).mpr fun o => ascO_mem
  exact p.length_eq
/-- a target of a row: a target or None -/
def tgtO (t : Str → Bool) : Option Str → Prop
  | none => True
  | some x => t x = true
structure OkL (t : Str → Bool) (l : List (Option Str)) : Prop where
  nd : l.Nodup
  tg : ∀ o ∈ l, tgtO t o
  few : l.length ≤ 40
theorem OkL.asc {t : Str → Bool} {l : List (Option Str)} (h : OkL t l) : OkL t (ascO l) := ⟨ascO_nodup h.nd, fun o ho => h.tg o (ascO_mem.mp ho), by rw [ascO_len h.nd]; exact h.few⟩
/-! ### rows of a wish -/
abbrev WRows := List (Str × List (Option Str))
def look (rows : WRows) (y : Str) : List (Option Str) := ((rows.find? fun r => decide (r.1 = y)).map (·.2)).getD []
def sortW (rows : WRows) : WRows := (sortS (rows.map (·.1))).map fun y => (y, ascO (look rows y))
def putR (rows : WRows) (y : Str) (l : List (Option Str)) : WRows := if y ∈ rows.map (·.1) then rows.map (fun r => if r.1 = y then (y, l) else r) else rows ++ [(y, l)]
structure RowsW (t : Str → Bool) (w : Nat) (rows : WRows) : Prop where
  pfx : PfxL w (rows.map (·.1))
  ok : ∀ r ∈ rows, OkL t r.2
theorem look_cons (r : Str × List (Option Str)) (rows : WRows) (z : Str) : look (r :: rows) z = if r.1 = z then r.2 else look rows z := by
  unfold look
  rw [List.find?_cons]
  by_cases e : r.1 = z
  · rw [if_pos e, decide_eq_true e]
    rfl
  · rw [if_neg e, decide_eq_false e]
theorem look_mem {rows : WRows} (nd : (rows.map (·.1)).Nodup) {y : Str} {l : List (Option Str)} (h : (y, l) ∈ rows) : look rows y = l := by
  induction rows with
  | nil => cases h
  | cons r rows ih =>
    rw [List.map_cons, List.nodup_cons] at nd
    rw [look_cons]
    rcases List.mem_cons.mp h with rfl | h
    · rw [if_pos rfl]
    · rw [if_neg fun e => nd.1 (by rw [e]; exact List.mem_map.mpr ⟨_, h, rfl⟩)]
      exact ih nd.2 h
theorem look_at {rows : WRows} {y : Str} (h : y ∈ rows.map (·.1)) : (y, look rows y) ∈ rows := by
  induction rows with
  | nil => cases h
  | cons r rows ih =>
    rw [look_cons]
    by_cases e : r.1 = y
    · rw [if_pos e, ← e]
      exact List.mem_cons_self
    · rw [if_neg e]
      rw [List.map_cons] at h
      exact List.mem_cons_of_mem _ (ih ((List.mem_cons.mp h).resolve_left (fun q => e q.symm)))
theorem look_snoc {rows : WRows} {y z : Str} {l : List (Option Str)} (hm : y ∉ rows.map (·.1)) : look (rows ++ [(y, l)]) z = if z = y then l else look rows z := by
  induction rows with
  | nil =>
    rw [List.nil_append, look_cons]
    by_cases q : z = y
    · rw [if_pos q, if_pos q.symm]
    · rw [if_neg q, if_neg fun e => q e.symm]
  | cons r rows ih =>
    rw [List.map_cons, List.mem_cons, not_or] at hm
    rw [List.cons_append, look_cons, look_cons, ih hm.2]
    by_cases e : r.1 = z
    · rw [if_pos e, if_pos e, if_neg fun q => hm.1 (q.symm.trans e.symm)]
    · rw [if_neg e, if_neg e]
theorem look_repl {rows : WRows} {y z : Str} {l : List (Option Str)} (h : y ∈ rows.map (·.1)) : look (rows.map fun r => if r.1 = y then (y, l) else r) z = if z = y then l else look rows z := by
  have main : ∀ rows : WRows, look (rows.map fun r => if r.1 = y then (y, l) else r) z = if z = y then (if y ∈ rows.map (·.1) then l else []) else look rows z := by
    intro rows
    induction rows with
    | nil => split <;> rfl
    | cons r rows ih =>
      rw [List.map_cons, look_cons, ih, look_cons, List.map_cons]
      by_cases e : r.1 = y
      · rw [if_pos e]
        by_cases q : z = y
        · rw [if_pos q.symm, if_pos q, if_pos (List.mem_cons.mpr (.inl e.symm))]
        · rw [if_neg (fun e2 => q e2.symm), if_neg q, if_neg q, if_neg (fun e2 => q (e2.symm.trans e))]
      · rw [if_neg e]
        by_cases q : z = y
        · rw [if_neg (fun e2 => e (e2.trans q)), if_pos q, if_pos q]
          by_cases hm : y ∈ rows.map (·.1)
          · rw [if_pos hm, if_pos (List.mem_cons_of_mem _ hm)]
          · rw [if_neg hm, if_neg (fun q2 => (List.mem_cons.mp q2).elim (fun q3 => e q3.symm) hm)]
        · rw [if_neg q, if_neg q]
  rw [main, if_pos h]
theorem sortW_keys (rows : WRows) : (sortW rows).map (·.1) = sortS (rows.map (·.1)) := by
  unfold sortW
  rw [List.map_map]
  exact List.map_id' _
theorem look_sortW {rows : WRows} (nd : (rows.map (·.1)).Nodup) {y : Str} (h : y ∈ rows.map (·.1)) : look (sortW rows) y = ascO (look rows y) := by
  refine look_mem ?_ ?_
  · rw [sortW_keys]
    exact (sortS_perm _).nodup_iff.mpr nd
  · exact List.mem_map.mpr ⟨y, mem_sortS.mpr h, rfl⟩
theorem RowsW.sort {t : Str → Bool} {w : Nat} {rows : WRows} (h : RowsW t w rows) : RowsW t w (sortW rows) := by
  refine ⟨?_, fun r hr => ?_⟩
  · rw [sortW_keys]
    exact ⟨(sortS_perm _).nodup_iff.mpr h.pfx.nd, fun x hx => h.pfx.bits x (mem_sortS.mp hx), fun x hx => h.pfx.len x (mem_sortS.mp hx)⟩
  · obtain ⟨y, hy, rfl⟩ := List.mem_map.mp hr
    exact (h.ok _ (look_at (mem_sortS.mp hy))).asc
theorem sortW_len (rows : WRows) : (sortW rows).length = rows.length := by
  unfold sortW
  rw [List.length_map, (sortS_perm _).length_eq, List.length_map]
theorem putR_keys {rows : WRows} {y : Str} {l : List (Option Str)} (z : Str) : z ∈ (putR rows y l).map (·.1) ↔ z = y ∨ z ∈ rows.map (·.1) := by
  unfold putR
  split
  · rename_i h
    have e : (rows.map fun r => if r.1 = y then (y, l) else r).map (·.1) = rows.map (·.1) := by
      rw [List.map_map]
      refine List.map_congr_left fun r _ => ?_
      show (if r.1 = y then (y, l) else r).1 = r.1
      split
      · rename_i e; exact e.symm
      · rfl
    rw [e]
    exact ⟨.inr, fun q => q.elim (fun e => e ▸ h) id⟩
  · rw [List.map_append, List.mem_append]
    exact ⟨fun q => q.elim .inr fun q => .inl (List.mem_singleton.mp q), fun q => q.elim (fun e => .inr (List.mem_singleton.mpr e)) .inl⟩
theorem look_putR {rows : WRows} {y z : Str} {l : List (Option Str)} : look (putR rows y l) z = if z = y then l else look rows z := by
  unfold putR
  split
  · rename_i h
    exact look_repl h
  · rename_i h
    exact look_snoc h
theorem putR_len (rows : WRows) (y : Str) (l : List (Option Str)) : (putR rows y l).length ≤ rows.length + 1 := by
  unfold putR
  split
  · rw [List.length_map]; omega
  · rw [List.length_append]; exact Nat.le_refl _
theorem RowsW.put {t : Str → Bool} {w : Nat} {rows : WRows} (h : RowsW t w rows) {y : Str} {l : List (Option Str)} (hb : isBits y = true) (hl : y.length ≤ w) (ok : OkL t l) : RowsW t w (putR rows y l) := by
  have nd : ((putR rows y l).map (·.1)).Nodup := by
    unfold putR
    split
    · have e : (rows.map fun r => if r.1 = y then (y, l) else r).map (·.1) = rows.map (·.1) := by
        rw [List.map_map]
        refine List.map_congr_left fun r _ => ?_
        show (if r.1 = y then (y, l) else r).1 = r.1
        split
        · rename_i e; exact e.symm
        · rfl
      rw [e]
      exact h.pfx.nd
    · rename_i hm
      rw [List.map_append]
      refine List.nodup_append.mpr ⟨h.pfx.nd, List.nodup_cons.mpr ⟨List.not_mem_nil, List.nodup_nil⟩, fun a ha b hb e => hm ?_⟩
      have e : a = y := by rw [e, List.mem_singleton.mp hb]
      rw [← e]
      exact ha
  refine ⟨⟨nd, fun x hx => ?_, fun x hx => ?_⟩, fun r hr => ?_⟩
  · rcases (putR_keys x).mp hx with rfl | hx
    · exact hb
    · exact h.pfx.bits x hx
  · rcases (putR_keys x).mp hx with rfl | hx
    · exact hl
    · exact h.pfx.len x hx
  · have e := look_mem nd (y := r.1) (l := r.2) hr
    rw [look_putR] at e
    rw [← e]
    split
    · exact ok
    · rename_i q
      have hk : r.1 ∈ (putR rows y l).map (·.1) := List.mem_map.mpr ⟨r, hr, rfl⟩
      exact h.ok _ (look_at (((putR_keys r.1).mp hk).resolve_left q))
/-! ### the values of wishes in the heap -/
def isT (x : Str) : Bool := isTgt (.str x)
def InRow (K : PySem.W.Frag) (H : Hp) (kv : Key × V) (r : Str × List (Option Str)) : Prop := kv.1 = .inr r.1 ∧ ∃ a, kv.2 = .ref a ∧ (SqL K H a (r.2.map optV) ∨ SqT K H a (r.2.map optV))
def InVal (K : PySem.W.Frag) (H : Hp) (kvs : List (Key × V)) (rows : WRows) : Prop := Paired (InRow K H) kvs rows
/-- kept: new tuples -/
def WRow (H : Hp) (kv : Key × V) (r : Str × List (Option Str)) : Prop := kv.1 = .inr r.1 ∧ ∃ a, kv.2 = .ref a ∧ H a = some (.tup (r.2.map optV))
def WVal (H : Hp) (kvs : List (Key × V)) (rows : WRows) : Prop := Paired (WRow H) kvs rows
theorem WVal.in {K : PySem.W.Frag} {H : Hp} {kvs : List (Key × V)} {rows : WRows} (h : WVal H kvs rows) : InVal K H kvs rows := h.mono fun _ _ ⟨e, a, e2, ha⟩ => ⟨e, a, e2, .inr (SqT.of ha)⟩
theorem SqO.same {K : PySem.W.Frag} {H H' : Hp} {a : Addr} {vs : List V} (s : Same H H') (h : SqL K H a vs ∨ SqT K H a vs) : SqL K H' a vs ∨ SqT K H' a vs := h.imp s.seq (SqT.same s)
theorem InVal.same {K : PySem.W.Frag} {H H' : Hp} {kvs : List (Key × V)} {rows : WRows} (s : Same H H') (h : InVal K H kvs rows) : InVal K H' kvs rows := h.mono fun _ _ ⟨e, a, e2, ha⟩ => ⟨e, a, e2, SqO.same s ha⟩
theorem WVal.same {H H' : Hp} {kvs : List (Key × V)} {rows : WRows} (s : Same H H') (h : WVal H kvs rows) : WVal H' kvs rows := h.mono fun _ _ ⟨e, a, e2, ha⟩ => ⟨e, a, e2, s _ _ ha⟩
theorem paired_keys {R : Key × V → Str × List (Option Str) → Prop} (hR : ∀ kv r, R kv r → kv.1 = .inr r.1) : ∀ {kvs : List (Key × V)} {rows : WRows}, Paired R kvs rows → kvs.map (·.1) = (rows.map (·.1)).map Sum.inr
  | _, _, .nil => rfl
  | _, _, .cons h t => by
    rw [List.map_cons, List.map_cons, List.map_cons, hR _ _ h, paired_keys hR t]
theorem InVal.keys {K : PySem.W.Frag} {H : Hp} {kvs : List (Key × V)} {rows : WRows} (h : InVal K H kvs rows) : kvs.map (·.1) = (rows.map (·.1)).map Sum.inr := paired_keys (fun _ _ q => q.1) h
theorem WVal.keys {H : Hp} {kvs : List (Key × V)} {rows : WRows} (h : WVal H kvs rows) : kvs.map (·.1) = (rows.map (·.1)).map Sum.inr := paired_keys (fun _ _ q => q.1) h
theorem paired_at {R : Key × V → Str × List (Option Str) → Prop} (hR : ∀ kv r, R kv r → kv.1 = .inr r.1) {y : Str} : ∀ {kvs : List (Key × V)} {rows : WRows}, Paired R kvs rows → y ∈ rows.map (·.1) → ∃ v, valV kvs (.inr y) = some v ∧ R (.inr y, v) (y, look rows y)
  | _, _, .nil, h => by cases h
  | (k, v) :: kvs, r :: rows, .cons h t, hy => by
    have e1 : k = Sum.inr r.1 := hR _ _ h
    subst e1
    rw [look_cons]
    by_cases e : r.1 = y
    · rw [if_pos e]
      subst e
      exact ⟨v, valV_pos rfl, h⟩
    · rw [if_neg e]
      rw [List.map_cons] at hy
      obtain ⟨v', h1, h2⟩ := paired_at hR t ((List.mem_cons.mp hy).resolve_left fun q => e q.symm)
      refine ⟨v', ?_, h2⟩
      unfold valV at h1 ⊢
      rw [List.find?_cons_of_neg (by simpa using e)]
      exact h1
theorem InVal.at {K : PySem.W.Frag} {H : Hp} {kvs : List (Key × V)} {rows : WRows} (h : InVal K H kvs rows) {y : Str} (hy : y ∈ rows.map (·.1)) : ∃ a, valV kvs (.inr y) = some (.ref a) ∧ (SqL K H a ((look rows y).map optV) ∨ SqT K H a ((look rows y).map optV)) := by
  obtain ⟨v, h1, _, a, e, h2⟩ := paired_at (fun _ _ q => q.1) h hy
  have e' : v = .ref a := e
  exact ⟨a, by rw [h1, e'], h2⟩
theorem WVal.at {H : Hp} {kvs : List (Key × V)} {rows : WRows} (h : WVal H kvs rows) {y : Str} (hy : y ∈ rows.map (·.1)) : ∃ a, valV kvs (.inr y) = some (.ref a) ∧ H a = some (.tup ((look rows y).map optV)) := by
  obtain ⟨v, h1, _, a, e, h2⟩ := paired_at (fun _ _ q => q.1) h hy
  have e' : v = .ref a := e
  exact ⟨a, by rw [h1, e'], h2⟩
theorem paired_put {R : Key × V → Str × List (Option Str) → Prop} (hR : ∀ kv r, R kv r → kv.1 = .inr r.1) {y : Str} {v : V} {l : List (Option Str)} (hv : R (.inr y, v) (y, l)) {kvs : List (Key × V)} {rows : WRows} (h : Paired R kvs rows) : Paired R (putK kvs (.inr y) v) (putR rows y l) := by
  have hk := paired_keys hR h
  by_cases hm : y ∈ rows.map (·.1)
  · have hm2 : (kvs.any fun kv => decide (kv.1 = Sum.inr y)) = true := by
      have : (Sum.inr y : Key) ∈ kvs.map (·.1) := by rw [hk]; exact List.mem_map.mpr ⟨y, hm, rfl⟩
      obtain ⟨p, hp, e⟩ := List.mem_map.mp this
      exact List.any_eq_true.mpr ⟨p, hp, decide_eq_true e⟩
    unfold putK putR
    rw [if_pos hm2, if_pos hm]
    clear hm hm2 hk
    induction h with
    | nil => exact .nil
    | cons q t ih =>
      rename_i kv r kvs rows
      refine .cons ?_ ih
      have e1 := hR _ _ q
      show R (if kv.1 = Sum.inr y then (kv.1, v) else kv) (if r.1 = y then (y, l) else r)
      by_cases e : r.1 = y
      · rw [if_pos (by rw [e1, e]), if_pos e, e1, e]
        exact hv
      · rw [if_neg (by rw [e1]; exact fun z => e (Sum.inr.inj z)), if_neg e]
        exact q
  · have hm2 : (Sum.inr y : Key) ∉ kvs.map (·.1) := by
      rw [hk, List.mem_map]
      rintro ⟨z, hz, e⟩
      exact hm (by rw [← Sum.inr.inj e]; exact hz)
    rw [putK_end hm2]
    unfold putR
    rw [if_neg hm]
    exact paired_app h (.cons hv .nil)
theorem paired_filt {R : Key × V → Str × List (Option Str) → Prop} (hR : ∀ kv r, R kv r → kv.1 = .inr r.1) (y : Str) : ∀ {kvs : List (Key × V)} {rows : WRows}, Paired R kvs rows → Paired R (kvs.filter fun kv => decide (kv.1 ≠ .inr y)) (rows.filter fun r => decide (r.1 ≠ y))
  | _, _, .nil => .nil
  | kv :: kvs, r :: rows, .cons h t => by
    have e1 := hR _ _ h
    by_cases e : r.1 = y
    · rw [List.filter_cons_of_neg (by rw [e1, e]; simp), List.filter_cons_of_neg (by simpa using e)]
      exact paired_filt hR y t
    · rw [List.filter_cons_of_pos (by rw [e1]; simpa using fun q => e q), List.filter_cons_of_pos (by simpa using e)]
      exact .cons h (paired_filt hR y t)
theorem look_filt {rows : WRows} {y z : Str} : look (rows.filter fun r => decide (r.1 ≠ y)) z = if z = y then [] else look rows z := by
  induction rows with
  | nil => split <;> rfl
  | cons r rows ih =>
    by_cases e : r.1 = y
    · rw [List.filter_cons_of_neg (by simpa using e), ih, look_cons]
      by_cases q : z = y
      · rw [if_pos q, if_pos q]
      · rw [if_neg q, if_neg q, if_neg fun e2 => q (e2.symm.trans e)]
    · rw [List.filter_cons_of_pos (by simpa using e), look_cons, ih, look_cons]
      by_cases q : r.1 = z
      · rw [if_pos q, if_pos q, if_neg fun e2 => e (q.trans e2)]
      · rw [if_neg q, if_neg q]
theorem filtR_keys {rows : WRows} {y : Str} : (rows.filter fun r => decide (r.1 ≠ y)).map (·.1) = (rows.map (·.1)).filter fun z => decide (z ≠ y) := by
  induction rows with
  | nil => rfl
  | cons r rows ih =>
    by_cases e : r.1 = y
    · rw [List.filter_cons_of_neg (by simpa using e), List.map_cons, List.filter_cons_of_neg (by simpa using e), ih]
    · rw [List.filter_cons_of_pos (by simpa using e), List.map_cons, List.map_cons, List.filter_cons_of_pos (by simpa using e), ih]
theorem RowsW.filt {t : Str → Bool} {w : Nat} {rows : WRows} (h : RowsW t w rows) (y : Str) : RowsW t w (rows.filter fun r => decide (r.1 ≠ y)) := by
  refine ⟨?_, fun r hr => h.ok r (List.mem_filter.mp hr).1⟩
  rw [filtR_keys]
  exact ⟨h.pfx.nd.filter _, fun x hx => h.pfx.bits x (List.mem_filter.mp hx).1, fun x hx => h.pfx.len x (List.mem_filter.mp hx).1⟩
/-- at x a wish, its rows at e -/
structure WishAt (C : Addr) (H : Hp) (x e : Addr) (w : Nat) (rows : WRows) : Prop where
  ob : ∃ dx, H x = some (.ins C dx (flds w e))
  dc : ∃ kvs, H e = some (.dK kvs) ∧ WVal H kvs rows
theorem WishAt.same {C : Addr} {H H' : Hp} {x e : Addr} {w : Nat} {rows : WRows} (s : Same H H') (h : WishAt C H x e w rows) : WishAt C H' x e w rows := by
  obtain ⟨⟨dx, h1⟩, kvs, h2, h3⟩ := h
  exact ⟨⟨dx, s _ _ h1⟩, kvs, s _ _ h2, h3.same s⟩
theorem WishAt.but {C : Addr} {H H' : Hp} {p x e : Addr} {w : Nat} {rows : WRows} {o : List V} (k : But p H H') (hp : H p = some (.lst o)) (h : WishAt C H x e w rows) : WishAt C H' x e w rows := by
  obtain ⟨⟨dx, h1⟩, kvs, h2, h3⟩ := h
  exact ⟨⟨dx, k _ _ (ne_of h1 hp (fun z => nomatch z)) h1⟩, kvs, k _ _ (ne_of h2 hp (fun z => nomatch z)) h2, h3.mono fun _ _ ⟨e, a, e2, ha⟩ => ⟨e, a, e2, k _ _ (ne_of ha hp (fun z => nomatch z)) ha⟩⟩
theorem WishAt.map {C : Addr} {H : Hp} {x e : Addr} {w : Nat} {rows : WRows} (h : WishAt C H x e w rows) : ∃ kvs, MapAt C H x e w kvs ∧ WVal H kvs rows := by
  obtain ⟨h1, kvs, h2, h3⟩ := h
  exact ⟨kvs, ⟨h1, h2⟩, h3⟩
/-- _checked of a list or tuple of different targets and None: a new tuple, in order -/
def spChkW (K : PySem.W.Frag) : Sp := fun vs H Q _ => ∃ (x a : Addr) (l : List (Option Str)), vs = [.ref x, .ref a] ∧ (SqL K H a (l.map optV) ∨ SqT K H a (l.map optV)) ∧ OkL isT l ∧ ∀ (t : Addr) (H' : Hp), Same H H' → H t = none → H' t = some (.tup ((ascO l).map optV)) → Q (.ref t) H'
def spInitW (K : PySem.W.Frag) (C : Addr) : Sp := fun vs H Q _ => ∃ (x dx d : Addr) (w : Nat) (kvs : List (Key × V)) (rows : WRows), vs = [.ref x, .int w, .ref d] ∧ H x = some (.ins C dx []) ∧ 1 ≤ w ∧ w ≤ 32 ∧ H d = some (.dK kvs) ∧ InVal K H kvs rows ∧ RowsW isT w rows ∧ rows.length < 64 ∧
  ∀ (e : Addr) (H' : Hp), H e = none → WishAt C H' x e w (sortW rows) → (∀ b o, H b = some o → b ≠ x → H' b = some o) → Q .non H'
def MadeW (C : Addr) (w : Nat) (rows : WRows) (H : Hp) (Q : VK) : Prop := ∀ (x e : Addr) (H' : Hp), H x = none → H e = none → Same H H' → WishAt C H' x e w (sortW rows) → Q (.ref x) H'
theorem MadeW.later {C : Addr} {w : Nat} {rows : WRows} {H H1 : Hp} {Q : VK} (s : Same H H1) (h : MadeW C w rows H Q) : MadeW C w rows H1 Q := fun x e H' nx ne s' hw => h x e H' (s.free nx) (s.free ne) (s.trans s') hw
def spMadeW (K : PySem.W.Frag) (C : Addr) : Sp := fun vs H Q _ => ∃ (d : Addr) (w : Nat) (kvs : List (Key × V)) (rows : WRows), vs = [.ref C, .int w, .ref d] ∧ 1 ≤ w ∧ w ≤ 32 ∧ H d = some (.dK kvs) ∧ InVal K H kvs rows ∧ RowsW isT w rows ∧ rows.length < 64 ∧ MadeW C w rows H Q
def spWithW (K : PySem.W.Frag) (C : Addr) : Sp := fun vs H Q _ => ∃ (x e : Addr) (w : Nat) (rows : WRows) (y : Str) (a : Addr) (l : List (Option Str)), vs = [.ref x, .str y, .ref a] ∧ WishAt C H x e w rows ∧ RowsW isT w rows ∧ 1 ≤ w ∧ w ≤ 32 ∧ isBits y = true ∧ y.length ≤ w ∧ (SqL K H a (l.map optV) ∨ SqT K H a (l.map optV)) ∧ OkL isT l ∧ rows.length < 60 ∧ MadeW C w (putR rows y l) H Q
def spWithoutW (K : PySem.W.Frag) (C : Addr) : Sp := fun vs H Q _ => ∃ (x e : Addr) (w : Nat) (rows : WRows) (y : Str), vs = [.ref x, .str y] ∧ WishAt C H x e w rows ∧ RowsW isT w rows ∧ 1 ≤ w ∧ w ≤ 32 ∧ y ∈ rows.map (·.1) ∧ rows.length < 60 ∧ MadeW C w (rows.filter fun r => decide (r.1 ≠ y)) H Q
/-- what an address is allowed -/
def spAllowed (C : Addr) : Sp := fun vs H Q _ => ∃ (x e : Addr) (w : Nat) (rows : WRows) (y : Str), vs = [.ref x, .str y] ∧ WishAt C H x e w rows ∧ isBits y = true ∧ y.length = w ∧ w ≤ 32 ∧
  ∀ r : Option Str, IsLong (rows.map (·.1)) y r → (∀ z, r = some z → ∀ a, H a = some (.tup ((look rows z).map optV)) → Q (.ref a) H) ∧ (r = none → Q (.str "any") H)
/-- the set of what a row allows -/
def keyO (o : Option Str) : NK := o.map Sum.inr
theorem keyO_val (o : Option Str) : nkV (keyO o) = optV o := by cases o <;> rfl
theorem keyO_inj {a b : Option Str} (h : keyO a = keyO b) : a = b := by
  cases a <;> cases b
  · rfl
  · cases h
  · cases h
  · exact congrArg some (Sum.inr.inj (Option.some.inj h))
theorem map_keyO (l : List (Option Str)) : (l.map keyO).map nkV = l.map optV := by
  rw [List.map_map]
  exact List.map_congr_left fun o _ => keyO_val o
theorem none_in : ∀ l : List (Option Str), inV .non (l.map optV) = decide (none ∈ l)
  | [] => rfl
  | o :: l => by
    have e : inV .non ((o :: l).map optV) = (eqV (optV o) .non || inV .non (l.map optV)) := rfl
    rw [e, none_in l]
    cases o with
    | none =>
      rw [show eqV (optV none) .non = true from rfl, Bool.true_or]
      exact (decide_eq_true List.mem_cons_self).symm
    | some x =>
      rw [show eqV (optV (some x)) .non = false from rfl, Bool.false_or]
      refine decide_eq_decide.mpr ⟨List.mem_cons_of_mem _, fun h => (List.mem_cons.mp h).resolve_left fun e => nomatch e⟩
theorem flat_opt (l : List (Option Str)) : (l.map optV).all flatV = true := by
  rw [List.all_map]
  exact List.all_eq_true.mpr fun o _ => by cases o <;> rfl
abbrev sG : Stmt := sTgt
abbrev sK : Stmt := sTChk
abbrev sU : Stmt := sInit
abbrev sT : Stmt := sTInit

theorem ty_list {K : PySem.W.Frag} {H : Hp} {a : Addr} {xs : List V} (h : SqL K H a xs) : TyX K H (.ref a) (.type "list") := by
  rcases h with (h | ⟨o, h⟩) | ⟨o, _, _, h, hc, _⟩
  · exact .base (.lst h)
  · exact .base (.frz h)
  · exact .kList h hc
theorem ty_tuple {K : PySem.W.Frag} {H : Hp} {a : Addr} {xs : List V} (h : SqT K H a xs) : TyX K H (.ref a) (.type "tuple") := by
  rcases h with (h | ⟨o, h⟩) | ⟨o, _, _, h, hc, _⟩
  · exact .base (.tup h)
  · exact .fTuple h
  · exact .kTuple h hc
theorem kit2_list {K : PySem.W.Frag} : PySem.W.kitAny K (.type "list") [.type "list", .type "tuple"] = some true := by
  unfold PySem.W.kitAny
  rw [kitv (K := K) (t := "list") (c := "list") (b := true) (by decide +kernel)]
theorem kit2_tuple {K : PySem.W.Frag} : PySem.W.kitAny K (.type "tuple") [.type "list", .type "tuple"] = some true := by
  unfold PySem.W.kitAny
  rw [kitv (K := K) (t := "tuple") (c := "list") (b := false) (by decide +kernel)]
  show PySem.W.kitAny K (.type "tuple") [.type "tuple"] = some true
  unfold PySem.W.kitAny
  rw [kitv (K := K) (t := "tuple") (c := "tuple") (b := true) (by decide +kernel)]
theorem asc_map {l : List (Option Str)} {ys : List Str} (p : ys.Perm (l.filterMap id)) (up : sortedS ys = true) : (ascO l).map optV = (if none ∈ l then [V.non] else []) ++ ys.map V.str := by
  rw [sortS_of p up]
  unfold ascO
  rw [List.map_append, List.map_map]
  congr 1
  split <;> rfl
abbrev sWK : Stmt := inClass (top 18) 2
section
variable {P : Program} {w : World} {K : PySem.W.Frag} {mg : Str → Option Value} {base : Heap}
abbrev NWK : List Str := ["self", "value", "target", "named"]
theorem scWK : FnScope NWK ["self", "value"] (defScope sWK) := ⟨rfl, rfl, rfl, by decide +kernel, rfl, by decide +kernel, by decide +kernel⟩
set_option maxHeartbeats 8000000 in
theorem ok_WK {f fG pG CC : Addr} {fd fdG : FuncData} {k : Nat} (F : Fun K "_checked" "Wish._checked" sWK f fd)
    (m_tuple : mg "tuple" = none)
    (m_list : mg "list" = none)
    (m_isinstance : mg "isinstance" = none)
    (gC : mg "Table" = some (.ref CC))
    (RCC : ClX.CRead K CC (.type "type"))
    (GG : FnOk P w K mg base CX0 k fG fdG ["thing"] (spTgt K))
    (csG : CSta K CC (.type "type") "is_target" pG fG) (bG : Binds K fdG ["thing"] [])
    (m_set : mg "set" = none)
    (m_len : mg "len" = none)
    (m_sorted : mg "sorted" = none)
    : FnOk P w K mg base CX0 (k + 1) f fd ["self", "value"] (spChkW K) := by
  refine F.ok scWK (fun vs H Q E h => ?_) (fun cdv A outer s H vs Q E hr h => ?_)
  · obtain ⟨x, a, l, rfl, _⟩ := h
    rfl
  · obtain ⟨x, a, l, rfl, hin, ok, q⟩ := h
    have nd := scWK.nd
    have hu := hr.units
    have hu1 := hu_of hr
    have hr1 := hr
    rcases hin with hin | hin
    · refine ⟨_, pss_cons (ps_if (pt_not (pt_val (pe_callB call_isiT (by rfl) m_isinstance (by decide +kernel) (pa_cons (pv 1) (pa_cons (pe_tup (pa_cons (pe_bltn (v := .ty "list") (by rfl) m_list (by decide +kernel) rfl) (pa_cons (pe_bltn (v := .ty "tuple") (by rfl) m_tuple (by decide +kernel) rfl) pa_nil))) pa_nil)))))
            (pss_one ps_never) pss_nil)
          (pss_cons (ps_for PassesOwn.never rfl (pi_list (pv 1)) (pg_name (i := 2) nd rfl (.inl rfl))
            (pss_one (ps_if (PW.pt (pw_and (pt_cmpR op_notN (pv 2) pe_non (nomark _)) (pw_and1 (pt_not (pt_val (pe_cstat (pe_glob (v := .ref CC) rfl gC rfl) RCC csG GG hr1 bG (pa_cons (pv 2) pa_nil)))))))
              (pss_one ps_never) pss_nil)))
          (pss_cons (ps_if (pt_cmpR op_ne (pe_callB cr_lenN (by rfl) m_len (by decide +kernel) (pa_cons (pe_callTy (cr_setN rfl) (by rfl) m_set (by decide +kernel) (pa_cons (pv 1) pa_nil)) pa_nil)) (pe_callB call_len_seq (by rfl) m_len (by decide +kernel) (pa_cons (pv 1) pa_nil)) (nomark _))
            (pss_one ps_never) pss_nil)
          (pss_cons (ps_set (i := 3) nd rfl (.inl rfl) (pe_callB cr_sortedS (by rfl) m_sorted (by decide +kernel) (pa_cons (pe_lc (own := [("target", 2)]) (g := gName 2) rfl nd (pi_list (pv 1)) (blkOk_by (N := NWK) (sc := defScope sWK) (by decide +kernel)) (fun _ _ _ _ _ => pg_name (i := 2) nd rfl (.inl rfl)) (fun _ _ _ _ _ => pts_one (pt_cmpR op_notN (pv 2) pe_non (nomark _))) (fun _ _ _ _ _ => (pv 2))) pa_nil)))
          (pss_cons (ps_if (pt_cmpR op_in_seq pe_non (pv 1) (by rfl))
            (pss_one (ps_ret (pe_tup (pa_cons pe_non (StX.pa_star (pv 3) pa_nil))))) pss_nil)
          (pss_one (ps_ret (pe_callTy call_tuple_of (by rfl) m_tuple (by decide +kernel) (pa_cons (pv 3) pa_nil)))))))), ?_⟩
      refine ⟨.ref a, rfl, by show 2 ≤ sizeLine; decide, fun t1 nt1 => ?_⟩
      have s1 := same_upd (o := .tup [.ty "list", .ty "tuple"]) nt1
      have hin1 := s1.seq hin
      refine ⟨.ref a, t1, [.ty "list", .ty "tuple"], .type "list", [.type "list", .type "tuple"], true, rfl, upd_same, .cons (.ty _) (.cons (.ty _) .nil), ty_list hin1, kit2_list, _, rfl, iteF ?_⟩
      revert s1 hin1
      generalize upd H t1 (.tup [.ty "list", .ty "tuple"]) = H1
      intro s1 hin1
      refine ⟨.ref a, rfl, a, rfl, ⟨_, hin1⟩, for_list (K := K) (a := a) (xs := l.map optV) (fun _ σ H' => (∃ x2, σ = [some (.ref x), some (.ref a), x2, none]) ∧ H' = H1) ⟨⟨_, rfl⟩, rfl⟩ (fun _ _ _ _ h => by rw [h.2]; exact hin1) ?_ ?_⟩
      · rintro i v σ H' hv ⟨⟨x2, rfl⟩, rfl⟩
        rw [List.getElem?_map] at hv
        obtain ⟨o, ho, rfl⟩ := Option.map_eq_some_iff.mp hv
        have hto := ok.tg o (List.mem_of_getElem? ho)
        cases o with
        | none => exact ⟨.non, rfl, rfl, _, rfl, iteF ⟨⟨_, rfl⟩, rfl⟩⟩
        | some z =>
          have hz : isTgtV (.str z) := hto
          obtain ⟨z', ez, hz8, _⟩ := tgt_str hz
          have ez' := V.str.inj ez
          subst ez'
          refine ⟨.str z, rfl, rfl, _, rfl, iteT ⟨rfl, .str z, rfl, .str z, rfl, TyS.of (N := fun _ => True) (.str z), fun u e => by rw [← V.str.inj e]; exact big_of (by omega), _, rfl, ?_⟩⟩
          rw [show isTgt (.str z) = true from hz]
          exact iteF ⟨⟨_, rfl⟩, rfl⟩
      · rintro σ H' ⟨⟨x2, rfl⟩, rfl⟩
        have few := ok.few
        refine ⟨.ref a, rfl, a, l.map keyO, rfl, .inl (by rw [map_keyO]; exact hin1), by rw [List.length_map]; omega, fun p ks np knd kmem klen => ?_⟩
        have s2 := same_upd (o := NxO w p ks) np
        have kl : ks.length = l.length := by
          have e := (List.perm_ext_iff_of_nodup knd (ok.nd.map keyO fun a b h e => h (keyO_inj e))).mpr kmem
          rw [e.length_eq, List.length_map]
        have hin2 := s2.seq hin1
        refine ⟨p, ks, rfl, upd_same, .ref a, rfl, a, l.map optV, rfl, .inl hin2, rfl, _, rfl, ?_⟩
        rw [List.length_map, kl]
        refine iteNS rfl ?_
        have s12 := s1.trans s2
        -- the targets, in order
        refine ⟨.ref a, rfl, a, rfl, ⟨_, hin2⟩, fun D nD => ?_⟩
        refine lc_it walk_list (fun i Hx => Hx D = some (.lst (((l.take i).filterMap id).map V.str)) ∧ Same (upd H' p (NxO w p ks)) Hx) ⟨upd_same, same_upd nD⟩ (fun _ _ _ h => by have s9 := h.2; exact s9.seq hin2) ?_ ?_
        · rintro i v H3 H4 hi ⟨hD, s4⟩ ⟨rfl, hv⟩
          rw [List.getElem?_map] at hv
          obtain ⟨o, ho, rfl⟩ := Option.map_eq_some_iff.mp hv
          have et : l.take (i + 1) = l.take i ++ [o] := by rw [List.take_add_one, ho]; rfl
          cases o with
          | none =>
            refine ⟨rfl, .non, rfl, rfl, _, rfl, iteF ⟨?_, s4⟩⟩
            rw [et, List.filterMap_append]
            show H4 D = some (.lst (((l.take i).filterMap id ++ []).map V.str))
            rw [List.append_nil]
            exact hD
          | some z =>
            refine ⟨rfl, .str z, rfl, rfl, _, rfl, iteT ⟨.str z, rfl, _, hD, ?_, ?_, fun b o eb => ?_⟩⟩
            · refine big_lt ?_
              have := filt_len (l.take i)
              rw [List.length_take] at this
              rw [List.length_map]
              omega
            · rw [upd_same, et, List.filterMap_append, List.map_append]
              rfl
            · rw [upd_ne (ne_of_none eb nD)]
              exact s4 b o eb
        · rintro H3 ⟨hD, s4⟩
          rw [List.length_map, List.take_of_length_le (Nat.le_refl _)] at hD
          have fl := filt_len l
          refine ⟨D, l.filterMap id, rfl, SqL.of hD, by omega, fun ys N perm up nN => ?_⟩
          have s5 := same_upd (o := .lst (ys.map V.str)) nN
          have hN : (upd H3 N (.lst (ys.map V.str))) N = some (.lst (ys.map V.str)) := upd_same
          have s15 := s12.trans (s4.trans s5)
          have hin5 := s15.seq hin
          have yl := perm.length_eq
          refine ⟨.ref a, rfl, a, _, rfl, .inl hin5, rfl, flat_opt l, _, rfl, ?_⟩
          have em := asc_map perm up
          show if inV .non (l.map optV) = true then _ else _
          rw [none_in]
          refine ite2 (fun h => ?_) (fun h => ?_)
          · have h' : none ∈ l := of_decide_eq_true h
            rw [if_pos h'] at em
            refine ⟨.ref N, rfl, N, _, rfl, .inr (SqL.of hN), big_of (by show (ys.map V.str ++ []).length + 1 ≤ 1000; rw [List.append_nil, List.length_map]; omega), fun t nt => ?_⟩
            refine q t _ (s15.trans (same_upd nt)) (s15.free nt) ?_
            rw [upd_same, em, List.append_nil]
            rfl
          · have h' : none ∉ l := fun q => h (decide_eq_true q)
            rw [if_neg h'] at em
            refine ⟨.ref N, rfl, N, _, rfl, .inl ⟨SqL.of hN, fun t nt => ?_⟩⟩
            refine q t _ (s15.trans (same_upd nt)) (s15.free nt) ?_
            rw [upd_same, em]
            rfl
    · refine ⟨_, pss_cons (ps_if (pt_not (pt_val (pe_callB call_isiT (by rfl) m_isinstance (by decide +kernel) (pa_cons (pv 1) (pa_cons (pe_tup (pa_cons (pe_bltn (v := .ty "list") (by rfl) m_list (by decide +kernel) rfl) (pa_cons (pe_bltn (v := .ty "tuple") (by rfl) m_tuple (by decide +kernel) rfl) pa_nil))) pa_nil)))))
            (pss_one ps_never) pss_nil)
          (pss_cons (ps_for PassesOwn.never rfl (pi_tup (pv 1)) (pg_name (i := 2) nd rfl (.inl rfl))
            (pss_one (ps_if (PW.pt (pw_and (pt_cmpR op_notN (pv 2) pe_non (nomark _)) (pw_and1 (pt_not (pt_val (pe_cstat (pe_glob (v := .ref CC) rfl gC rfl) RCC csG GG hr1 bG (pa_cons (pv 2) pa_nil)))))))
              (pss_one ps_never) pss_nil)))
          (pss_cons (ps_if (pt_cmpR op_ne (pe_callB cr_lenN (by rfl) m_len (by decide +kernel) (pa_cons (pe_callTy (cr_setN rfl) (by rfl) m_set (by decide +kernel) (pa_cons (pv 1) pa_nil)) pa_nil)) (pe_callB call_len_seq (by rfl) m_len (by decide +kernel) (pa_cons (pv 1) pa_nil)) (nomark _))
            (pss_one ps_never) pss_nil)
          (pss_cons (ps_set (i := 3) nd rfl (.inl rfl) (pe_callB cr_sortedS (by rfl) m_sorted (by decide +kernel) (pa_cons (pe_lc (own := [("target", 2)]) (g := gName 2) rfl nd (pi_tup (pv 1)) (blkOk_by (N := NWK) (sc := defScope sWK) (by decide +kernel)) (fun _ _ _ _ _ => pg_name (i := 2) nd rfl (.inl rfl)) (fun _ _ _ _ _ => pts_one (pt_cmpR op_notN (pv 2) pe_non (nomark _))) (fun _ _ _ _ _ => (pv 2))) pa_nil)))
          (pss_cons (ps_if (pt_cmpR op_in_seq pe_non (pv 1) (by rfl))
            (pss_one (ps_ret (pe_tup (pa_cons pe_non (StX.pa_star (pv 3) pa_nil))))) pss_nil)
          (pss_one (ps_ret (pe_callTy call_tuple_of (by rfl) m_tuple (by decide +kernel) (pa_cons (pv 3) pa_nil)))))))), ?_⟩
      refine ⟨.ref a, rfl, by show 2 ≤ sizeLine; decide, fun t1 nt1 => ?_⟩
      have s1 := same_upd (o := .tup [.ty "list", .ty "tuple"]) nt1
      have hin1 := SqT.same s1 hin
      refine ⟨.ref a, t1, [.ty "list", .ty "tuple"], .type "tuple", [.type "list", .type "tuple"], true, rfl, upd_same, .cons (.ty _) (.cons (.ty _) .nil), ty_tuple hin1, kit2_tuple, _, rfl, iteF ?_⟩
      revert s1 hin1
      generalize upd H t1 (.tup [.ty "list", .ty "tuple"]) = H1
      intro s1 hin1
      refine ⟨.ref a, rfl, a, rfl, ⟨_, hin1⟩, for_tup (K := K) (a := a) (xs := l.map optV) (fun _ σ H' => (∃ x2, σ = [some (.ref x), some (.ref a), x2, none]) ∧ H' = H1) ⟨⟨_, rfl⟩, rfl⟩ (fun _ _ _ _ h => by rw [h.2]; exact hin1) ?_ ?_⟩
      · rintro i v σ H' hv ⟨⟨x2, rfl⟩, rfl⟩
        rw [List.getElem?_map] at hv
        obtain ⟨o, ho, rfl⟩ := Option.map_eq_some_iff.mp hv
        have hto := ok.tg o (List.mem_of_getElem? ho)
        cases o with
        | none => exact ⟨.non, rfl, rfl, _, rfl, iteF ⟨⟨_, rfl⟩, rfl⟩⟩
        | some z =>
          have hz : isTgtV (.str z) := hto
          obtain ⟨z', ez, hz8, _⟩ := tgt_str hz
          have ez' := V.str.inj ez
          subst ez'
          refine ⟨.str z, rfl, rfl, _, rfl, iteT ⟨rfl, .str z, rfl, .str z, rfl, TyS.of (N := fun _ => True) (.str z), fun u e => by rw [← V.str.inj e]; exact big_of (by omega), _, rfl, ?_⟩⟩
          rw [show isTgt (.str z) = true from hz]
          exact iteF ⟨⟨_, rfl⟩, rfl⟩
      · rintro σ H' ⟨⟨x2, rfl⟩, rfl⟩
        have few := ok.few
        refine ⟨.ref a, rfl, a, l.map keyO, rfl, .inr (by rw [map_keyO]; exact hin1), by rw [List.length_map]; omega, fun p ks np knd kmem klen => ?_⟩
        have s2 := same_upd (o := NxO w p ks) np
        have kl : ks.length = l.length := by
          have e := (List.perm_ext_iff_of_nodup knd (ok.nd.map keyO fun a b h e => h (keyO_inj e))).mpr kmem
          rw [e.length_eq, List.length_map]
        have hin2 := SqT.same s2 hin1
        refine ⟨p, ks, rfl, upd_same, .ref a, rfl, a, l.map optV, rfl, .inr hin2, rfl, _, rfl, ?_⟩
        rw [List.length_map, kl]
        refine iteNS rfl ?_
        have s12 := s1.trans s2
        -- the targets, in order
        refine ⟨.ref a, rfl, a, rfl, ⟨_, hin2⟩, fun D nD => ?_⟩
        refine lc_it walk_tup (fun i Hx => Hx D = some (.lst (((l.take i).filterMap id).map V.str)) ∧ Same (upd H' p (NxO w p ks)) Hx) ⟨upd_same, same_upd nD⟩ (fun _ _ _ h => by have s9 := h.2; exact SqT.same s9 hin2) ?_ ?_
        · rintro i v H3 H4 hi ⟨hD, s4⟩ ⟨rfl, hv⟩
          rw [List.getElem?_map] at hv
          obtain ⟨o, ho, rfl⟩ := Option.map_eq_some_iff.mp hv
          have et : l.take (i + 1) = l.take i ++ [o] := by rw [List.take_add_one, ho]; rfl
          cases o with
          | none =>
            refine ⟨rfl, .non, rfl, rfl, _, rfl, iteF ⟨?_, s4⟩⟩
            rw [et, List.filterMap_append]
            show H4 D = some (.lst (((l.take i).filterMap id ++ []).map V.str))
            rw [List.append_nil]
            exact hD
          | some z =>
            refine ⟨rfl, .str z, rfl, rfl, _, rfl, iteT ⟨.str z, rfl, _, hD, ?_, ?_, fun b o eb => ?_⟩⟩
            · refine big_lt ?_
              have := filt_len (l.take i)
              rw [List.length_take] at this
              rw [List.length_map]
              omega
            · rw [upd_same, et, List.filterMap_append, List.map_append]
              rfl
            · rw [upd_ne (ne_of_none eb nD)]
              exact s4 b o eb
        · rintro H3 ⟨hD, s4⟩
          rw [List.length_map, List.take_of_length_le (Nat.le_refl _)] at hD
          have fl := filt_len l
          refine ⟨D, l.filterMap id, rfl, SqL.of hD, by omega, fun ys N perm up nN => ?_⟩
          have s5 := same_upd (o := .lst (ys.map V.str)) nN
          have hN : (upd H3 N (.lst (ys.map V.str))) N = some (.lst (ys.map V.str)) := upd_same
          have s15 := s12.trans (s4.trans s5)
          have hin5 := SqT.same s15 hin
          have yl := perm.length_eq
          refine ⟨.ref a, rfl, a, _, rfl, .inr hin5, rfl, flat_opt l, _, rfl, ?_⟩
          have em := asc_map perm up
          show if inV .non (l.map optV) = true then _ else _
          rw [none_in]
          refine ite2 (fun h => ?_) (fun h => ?_)
          · have h' : none ∈ l := of_decide_eq_true h
            rw [if_pos h'] at em
            refine ⟨.ref N, rfl, N, _, rfl, .inr (SqL.of hN), big_of (by show (ys.map V.str ++ []).length + 1 ≤ 1000; rw [List.append_nil, List.length_map]; omega), fun t nt => ?_⟩
            refine q t _ (s15.trans (same_upd nt)) (s15.free nt) ?_
            rw [upd_same, em, List.append_nil]
            rfl
          · have h' : none ∉ l := fun q => h (decide_eq_true q)
            rw [if_neg h'] at em
            refine ⟨.ref N, rfl, N, _, rfl, .inl ⟨SqL.of hN, fun t nt => ?_⟩⟩
            refine q t _ (s15.trans (same_upd nt)) (s15.free nt) ?_
            rw [upd_same, em]
            rfl
end
abbrev sWU : Stmt := inClass (top 12) 0
section
variable {P : Program} {w : World} {K : PySem.W.Frag} {mg : Str → Option Value} {base : Heap}
abbrev NWU : List Str := ["self", "width", "rows", "prefix"]
theorem scWU : FnScope NWU ["self", "width", "rows"] (defScope sWU) := ⟨rfl, rfl, rfl, by decide +kernel, rfl, by decide +kernel, by decide +kernel⟩
set_option maxHeartbeats 8000000 in
theorem ok_WU {f fV fI fWK CW : Addr} {fd fdV fdI fdWK : FuncData} {k : Nat} (F : Fun K "__init__" "PrefixMap.__init__" sWU f fd)
    (GV : FnOk P w K mg base CX0 k fV fdV ["thing"] (spWidth K))
    (FV : Fun K "is_width" "is_width" sV fV fdV) (bV : Binds K fdV ["thing"] []) (gV : mg "is_width" = some (.ref fV))
    (m_dict : mg "dict" = none)
    (m_isinstance : mg "isinstance" = none)
    (GI : FnOk P w K mg base CX0 k fI fdI ["thing", "width"] (spPfx K))
    (FI : Fun K "is_prefix" "is_prefix" sI fI fdI) (bI : Binds K fdI ["thing", "width"] []) (gI : mg "is_prefix" = some (.ref fI))
    (clW : Cls K CW)
    (nW_width : NoAttr K CW "_width")
    (m_sorted : mg "sorted" = none)
    (GWK : FnOk P w K mg base CX0 k fWK fdWK ["self", "value"] (spChkW K))
    (mtWK : Meth K CW "_checked" fWK) (bWK : Binds K fdWK ["self", "value"] [])
    (nW_rows : NoAttr K CW "_rows")
    : FnOk P w K mg base CX0 (k + 1) f fd ["self", "width", "rows"] (spInitW K CW) := by
  refine F.ok scWU (fun vs H Q E h => ?_) (fun cdv A outer s H vs Q E hr h => ?_)
  · obtain ⟨x, dx, d, w, kvs, rows, rfl, _⟩ := h
    rfl
  · obtain ⟨x, dx, d, w, kvs, rows, rfl, hx, w1, w32, hd, hin, ok, few, q⟩ := h
    have nd := scWU.nd
    have hu := hr.units
    have hu1 := hu_of hr
    have hr1 := hr
    refine ⟨_, pss_cons (ps_if (pt_not (pt_val (pe_call GV hr1 (by rfl) gV FV.kp bV .nil pass0 (pa_cons (pv 1) pa_nil))))
        (pss_one ps_never) pss_nil)
      (pss_cons (ps_if (pt_not (pt_val (pe_callB call_isi (by rfl) m_isinstance (by decide +kernel) (pa_cons (pv 2) (pa_cons (pe_bltn (v := .ty "dict") (by rfl) m_dict (by decide +kernel) rfl) pa_nil)))))
        (pss_one ps_never) pss_nil)
      (pss_cons (ps_lock (ps_for PassesOwn.never rfl (pi_keys (pv 2)) (pg_name (i := 3) nd rfl (.inl rfl))
        (pss_one (ps_if (pt_not (pt_val (pe_call GI hr1 (by rfl) gI FI.kp bI .nil pass0 (pa_cons (pv 3) (pa_cons (pv 1) pa_nil)))))
          (pss_one ps_never) pss_nil))))
      (pss_cons (ps_fld (pv 0) (pv 1) rfl)
      (pss_one (ps_fld (pv 0) (pe_dc (own := [("prefix", 3)]) (g := gName 3) (tt := tYes) rfl nd (pi_list (pe_callB (call_sortedD rfl) (by rfl) m_sorted (by decide +kernel) (pa_cons (pv 2) pa_nil))) (blkOk_by (N := NWU) (sc := defScope sWU) (by decide +kernel)) (fun _ _ _ _ _ => pg_name (i := 3) nd rfl (.inl rfl)) (fun _ _ _ _ _ => pts_nil) (fun _ _ _ _ _ => (pv 3)) (fun _ _ _ _ _ => (pe_meth (pv 0) clW mtWK GWK hr1 bWK .nil pass0 (pa_cons (pe_dget hu1 (pv 2) (pv 3) (fun _ _ => rfl)) pa_nil)))) rfl))))), ?_⟩
    -- the width
    obtain ⟨t, ht⟩ := TyI.of (K := K) (H := H) (N := fun _ => True) (.int (w : Int))
    refine ⟨.int w, rfl, .int w, t, rfl, ht, _, rfl, ?_⟩
    have hw : isWidthV (.int (w : Int)) = true := by
      show (decide ((1 : Int) ≤ w) && decide ((w : Int) ≤ 32)) = true
      rw [decide_eq_true (by omega), decide_eq_true (by omega)]
      rfl
    rw [hw]
    refine iteF ?_
    refine ⟨.ref d, rfl, .ref d, .ty "dict", .type "dict", .type "dict", _, rfl, .ty _, .base (.dK hd), kitv (b := true) (by decide +kernel), _, rfl, iteF ?_⟩
    have hkeys := hin.keys
    -- its prefixes
    refine ⟨d, .dK kvs, hd, trivial, fun od => ?_⟩
    refine ⟨.ref d, rfl, d, od, rfl, .inl ⟨kvs, upd_same, ?_⟩⟩
    refine for_it walk_keys (fun _ σ H' => (∃ x3, σ = [some (.ref x), some (.int w), some (.ref d), x3]) ∧ H' = upd H d (.frz od (.dK kvs))) ⟨⟨_, rfl⟩, rfl⟩ (fun _ _ _ _ h => by rw [h.2, upd_same]) ?_ ?_
    · rintro i v σ H1 H2 hi ⟨⟨x3, rfl⟩, rfl⟩ ⟨rfl, k, v', hkv, rfl⟩
      obtain ⟨y, hy, rfl⟩ := key_at hkeys hkv
      have hym := List.mem_of_getElem? hy
      refine ⟨.str y, rfl, .int w, rfl, .str y, w, rfl, TyS.of (N := fun _ => True) (.str y), fun z e => ?_, _, rfl, ?_⟩
      · rw [← V.str.inj e]
        exact Nat.le_trans (ok.pfx.len y hym) (Nat.le_trans w32 (by decide))
      have e : isPfx (.str y) (w : Int) = true := by
        show (decide ((y.length : Int) ≤ w) && isBits y) = true
        rw [decide_eq_true (by have := ok.pfx.len y hym; omega), ok.pfx.bits y hym]
        rfl
      rw [e]
      exact iteF ⟨⟨_, rfl⟩, rfl⟩
    · rintro σ H1 ⟨⟨x3, rfl⟩, rfl⟩
      refine ⟨upd_same, ?_⟩
      rw [upd_back hd]
      refine ⟨.int w, rfl, .ref x, rfl, x, CW, dx, [], rfl, hx, clW, nW_width, (by show 0 < 1000; decide), ?_⟩
      have ndx : d ≠ x := ne_of hd hx (fun e => nomatch e)
      have hdW : (upd H x (.ins CW dx (putF "_width" (.int w) []))) d = some (.dK kvs) := by rw [upd_ne ndx]; exact hd
      refine ⟨.ref d, rfl, d, kvs, rows.map (·.1), rfl, .inl hdW, hkeys, by rw [List.length_map]; exact few, fun ys l hperm hup nl => ?_⟩
      have eys := sortS_of hperm hup
      have hll : (upd (upd H x (.ins CW dx (putF "_width" (.int w) []))) l (.lst (ys.map V.str))) l = some (.lst (ys.map V.str)) := upd_same
      have s1 := same_upd (o := .lst (ys.map V.str)) nl
      have hx1 := s1 _ _ (upd_same (H := H) (a := x) (o := .ins CW dx (putF "_width" (.int w) [])))
      have hd1 := s1 _ _ hdW
      have old1 : ∀ b o, H b = some o → b ≠ x → (upd (upd H x (.ins CW dx (putF "_width" (.int w) []))) l (.lst (ys.map V.str))) b = some o := fun b o e nb => s1 b o (by rw [upd_ne nb]; exact e)
      have hin1 : InVal K (upd (upd H x (.ins CW dx (putF "_width" (.int w) []))) l (.lst (ys.map V.str))) kvs rows := hin.mono fun kv r ⟨e, a, e2, ha⟩ => by
        have nax : (SqL K H a (r.2.map optV) ∨ SqT K H a (r.2.map optV)) → SqL K (upd H x (.ins CW dx (putF "_width" (.int w) []))) a (r.2.map optV) ∨ SqT K (upd H x (.ins CW dx (putF "_width" (.int w) []))) a (r.2.map optV) := fun h => by
          rcases h with ((h | ⟨o, h⟩) | h) | ((h | ⟨o, h⟩) | h)
          · exact .inl (.inl (.inl (by rw [upd_ne (ne_of h hx (fun z => nomatch z))]; exact h)))
          · exact .inl (.inl (.inr ⟨o, by rw [upd_ne (ne_of h hx (fun z => nomatch z))]; exact h⟩))
          · exact .inl (.inr h)
          · exact .inr (.inl (.inl (by rw [upd_ne (ne_of h hx (fun z => nomatch z))]; exact h)))
          · exact .inr (.inl (.inr ⟨o, by rw [upd_ne (ne_of h hx (fun z => nomatch z))]; exact h⟩))
          · exact .inr (.inr h)
        exact ⟨e, a, e2, SqO.same s1 (nax ha)⟩
      revert hll hx1 hd1 old1 hin1
      generalize upd (upd H x (.ins CW dx (putF "_width" (.int w) []))) l (.lst (ys.map V.str)) = H2
      intro hll hx1 hd1 old1 hin1
      refine ⟨l, rfl, ⟨_, SqL.of hll⟩, fun G nG => ?_⟩
      have nxG : x ≠ G := ne_of_none hx1 nG
      have ynd : ys.Nodup := hperm.nodup_iff.mpr ok.pfx.nd
      refine dc_it walk_list (fun i H' => ∃ kvs', H' G = some (.dK kvs') ∧ WVal H' kvs' ((ys.take i).map fun y => (y, ascO (look rows y))) ∧ ∀ b o, H2 b = some o → H' b = some o) ⟨[], upd_same, .nil, fun b o e => by rw [upd_ne (ne_of_none e nG)]; exact e⟩
        (fun _ H' _ h => by obtain ⟨_, _, _, k⟩ := h; exact SqL.of (k _ _ hll)) ?_ ?_
      · rintro i v H3 H4 hi ⟨kvs', hG, hv, keep⟩ ⟨rfl, hvi⟩
        rw [List.getElem?_map] at hvi
        have hil : i < ys.length := by rw [List.length_map] at hi; exact hi
        rw [List.getElem?_eq_getElem hil] at hvi
        obtain rfl : V.str ys[i] = v := Option.some.inj hvi
        have hym : ys[i] ∈ rows.map (·.1) := hperm.mem_iff.mp (List.getElem_mem hil)
        obtain ⟨a, hva, hsa⟩ := hin1.at hym
        refine ⟨rfl, yes_if ?_⟩
        refine ⟨.str ys[i], rfl, .ref x, rfl, x, dx, _, rfl, keep _ _ hx1, ?_, .ref d, rfl, .str ys[i], rfl, d, .ref a, rfl, by rw [← hva]; exact DGet.k (k := .inr ys[i]) (keep _ _ hd1), ?_⟩
        · rw [lookup_putF, if_neg (by decide +kernel)]
          rfl
        refine ⟨x, a, look rows ys[i], rfl, SqO.same keep hsa, ok.ok _ (look_at hym), fun t H5 s5 nt ht => ?_⟩
        have hG5 := s5 _ _ hG
        have kl : kvs'.length ≤ ys.length := by
          have e := congrArg List.length hv.keys
          rw [List.length_map, List.length_map, List.length_map, List.length_map, List.length_take] at e
          omega
        have hp := hperm.length_eq
        rw [List.length_map] at hp
        have et : (ys.take (i + 1)) = ys.take i ++ [ys[i]] := by rw [List.take_add_one, List.getElem?_eq_getElem hil]; rfl
        have hk : kvs'.map (·.1) = (ys.take i).map Sum.inr := by
          rw [hv.keys, List.map_map, List.map_map]
          rfl
        have hnew : (Sum.inr ys[i] : Key) ∉ kvs'.map (·.1) := by
          rw [hk, List.mem_map]
          rintro ⟨z, hz, e⟩
          obtain ⟨j, hj, ej⟩ := List.mem_take_iff_getElem.mp hz
          have e2 : ys[j]'(by omega) = ys[i] := by rw [ej]; exact Sum.inr.inj e
          have := (List.getElem_inj ynd).mp e2
          omega
        have s56 : ∀ b o, (∀ k, o ≠ HO.dK k) → H5 b = some o → (upd H5 G (.dK (putK kvs' (.inr ys[i]) (.ref t)))) b = some o := fun b o no e => by
          rw [upd_ne (fun q => no kvs' (by rw [q, hG5] at e; exact (Option.some.inj e).symm))]
          exact e
        refine ⟨kvs', .inr ys[i], rfl, hG5, big_lt (by omega), kvs' ++ [(.inr ys[i], .ref t)], by rw [upd_same, putK_end hnew], ?_, fun b o e => ?_⟩
        · rw [et, List.map_append]
          refine paired_app ?_ (.cons ⟨rfl, t, rfl, s56 _ _ (fun _ z => nomatch z) ht⟩ .nil)
          exact hv.mono fun kv r ⟨e, a, e2, ha⟩ => ⟨e, a, e2, s56 _ _ (fun _ z => nomatch z) (s5 _ _ ha)⟩
        · rw [upd_ne (ne_of_none e nG)]
          exact s5 _ _ (keep b o e)
      · rintro H3 ⟨kvs', hG, hv, keep⟩
        rw [List.length_map, List.take_of_length_le (Nat.le_refl _), eys] at hv
        refine ⟨.ref x, rfl, x, CW, dx, _, rfl, keep _ _ hx1, clW, nW_rows, (by show 1 < 1000; decide), ?_⟩
        have hH : ∀ b, H2 b = none → H b = none := fun b hb => by
          cases e : H b with
          | none => rfl
          | some o =>
            by_cases hbx : b = x
            · rw [hbx, hx1] at hb
              cases hb
            · rw [old1 b o e hbx] at hb
              cases hb
        have hx3 := keep _ _ hx1
        have s3 : ∀ b o, (∀ c d f, o ≠ HO.ins c d f) → H3 b = some o → (upd H3 x (.ins CW dx (putF "_rows" (.ref G) (putF "_width" (.int w) [])))) b = some o := fun b o no e => by
          rw [upd_ne (fun q => no _ _ _ (by rw [q, hx3] at e; exact (Option.some.inj e).symm))]
          exact e
        refine q G _ (hH G nG) ⟨⟨dx, upd_same⟩, kvs', s3 _ _ (fun _ _ _ z => nomatch z) hG, hv.mono fun kv r ⟨e, a, e2, ha⟩ => ⟨e, a, e2, s3 _ _ (fun _ _ _ z => nomatch z) ha⟩⟩ fun b o e nb => ?_
        rw [upd_ne nb]
        exact keep b o (old1 b o e nb)
end

abbrev sWTInit : Stmt := inClass sWsh 0
theorem scWTInit : ScS ["self", "width", "rows"] (defScope sWTInit) := ⟨rfl, rfl, rfl, by decide +kernel, by decide +kernel, by decide +kernel, by decide +kernel, by decide +kernel, by decide +kernel⟩
theorem ok_wtinit {P : Program} {w : World} {K : PySem.W.Frag} {mg : Str → Option Value} {base : Heap} {f f2 C D : Addr} {fd fd2 : FuncData} {k : Nat} {file : Str} (F : FunS K file "__init__" "Wish.__init__" sWTInit f D fd) (G2 : FnOk P w K mg base CX0 k f2 fd2 ["self", "width", "rows"] (spInitW K C)) (b2 : Binds K fd2 ["self", "width", "rows"] []) (fi : PySem.W.fnIn K f2 = true)
    (ty : PySem.W.typeIn K (.ref f2) = some (.type "function")) (hcd : ∃ cdD, PySem.W.clsIn K D = some cdD) (hsub : PySem.W.mroIn K C (.ref D) = some true) (hm : PySem.W.ks_superIn K C D "__init__" = some (some (.ref f2))) (hop : PySem.W.nsIn K cStatics "thirdparty.any" = some none) (hsu : mg "super" = none)
    (hfile : ((P.main.file : Str) == file) = true) (htop : (P.main.scope.names.lookup ("super" : Str)).isSome = false) : FnOk P w K mg base CX0 (k + 1) f fd ["self", "width", "rows"] (spInitW K C) := by
  refine ok_super (self := "self") F scWTInit ((G2.raw b2 .nil).imp fun vs H Q E h => by rw [List.append_nil]; exact h) fi ty hcd hsub hm hop hsu hfile htop rfl ⟨_, rfl, rfl⟩ rfl (by decide +kernel) (fun _ => ⟨_, rfl⟩) (fun _ => rfl) (fun _ => rfl) (fun _ => rfl) (fun vs H Q E h => ?_) (fun h => h) (fun A cda cc outer s H vs Q hr h => ?_)
  · obtain ⟨x, dx, d, w, kvs, rows, rfl, _⟩ := h
    rfl
  · obtain ⟨x, dx, d, w, kvs, rows, rfl, hx, w1, w32, hd, hin, ok, few, q⟩ := h
    refine ⟨x, dx, _, _, _, rfl, hx, pa_cons (pv 1) (pa_cons (pv 2) pa_nil), pss_nil, ?_⟩
    exact ⟨.int w, rfl, .ref d, rfl, x, dx, d, w, kvs, rows, rfl, hx, w1, w32, hd, hin, ok, few, q⟩
abbrev sWT : Stmt := sWTInit

/-! ### == of two dicts whose values are data -/
def DEq (K : PySem.W.Frag) (H : Hp) (x y : V) : Prop := ∃ d, Dp K H x d ∧ Dp K H y d ∧ SeqAt.shaped d = true
def rEqDD (K : PySem.W.Frag) : R2 := fun x y H Q => ∃ a b ks ls, x = .ref a ∧ y = .ref b ∧ H a = some (.dK ks) ∧ H b = some (.dK ls) ∧ ks.length = ls.length ∧ (∀ p ∈ ks, ∃ u, valV ls p.1 = some u ∧ DEq K H p.2 u) ∧ Q (.bl true) H
theorem units65 {k : Nat} {A : Around} (r : Room k A) : A.units + 65 < cLine := by have := r.un; omega
theorem op_eqDD {X : Cx} (hu : X.A.units + 65 < cLine) : OpR X (compareOp .Eq) (rEqDD X.K) := by
  intro pins s σ H x y v u Q I rx ry h
  obtain ⟨a, b, ks, ls, rfl, rfl, ha, hb, hl, hp, q⟩ := h
  refine eqR_run (F := DEq X.K H) I (A := X.A) (by omega) (fun x y v u h r1 r2 => ?_) (.inr ⟨a, b, ks, ls, rfl, rfl, ha, hb, hl, hp⟩) rx ry _ _ ⟨.bl true, H, I, rfl, q⟩
  obtain ⟨d, h1, h2, sh⟩ := h
  obtain ⟨as, q1⟩ := Dp.reads I d x v h1 r1
  obtain ⟨bs, q2⟩ := Dp.reads I d y u h2 r2
  have z := SeqAt.eqAt_reads d d X.A.in1 s v u as bs q1 q2 (SeqAt.canLay_of_shaped sh) (SeqAt.canLay_of_shaped sh) (SeqAt.room_of_shaped sh (show X.A.units + 1 + 64 < cLine by omega))
  rw [SeqAt.eqv_refl] at z
  · exact z.eqP
  · exact SeqAt.canLay_of_shaped sh
def optD : Option Str → PyData
  | none => .none
  | some x => .str x
theorem dpAll_opt {K : PySem.W.Frag} {H : Hp} : ∀ l : List (Option Str), DpAll K H (l.map optV) (l.map optD)
  | [] => .nil
  | none :: r => .cons .non (dpAll_opt r)
  | some x :: r => .cons (.str x) (dpAll_opt r)
def lowS (x : Str) : Prop := ∀ c ∈ sg x, c < 128
theorem lay_opt : ∀ l : List (Option Str), (∀ x, some x ∈ l → lowS x) → PyData.canLayAll0 (l.map optD) = true
  | [], _ => by simp only [List.map_nil, PyData.canLayAll0]
  | o :: r, h => by
    rw [List.map_cons]
    simp only [PyData.canLayAll0]
    rw [lay_opt r fun x hx => h x (List.mem_cons_of_mem _ hx), Bool.and_true]
    cases o with
    | none => simp only [optD, PyData.canLay0]
    | some x =>
      simp only [optD, PyData.canLay0]
      unfold PyData.strOk
      rw [Array.all_eq_true']
      intro c hc
      have := h x List.mem_cons_self c (Array.mem_toList_iff.mpr hc)
      exact decide_eq_true (by omega)
theorem depth_opt (l : List (Option Str)) : PyData.depthAll (l.map optD) ≤ 0 := depthAll_le fun d hd => by
  obtain ⟨o, _, rfl⟩ := List.mem_map.mp hd
  cases o <;> (simp only [optD, PyData.depth]; exact Nat.le_refl _)
theorem shaped_optT {l : List (Option Str)} (h : ∀ x, some x ∈ l → lowS x) : SeqAt.shaped (.tuple (l.map optD)) = true := by
  have := depth_opt l
  unfold SeqAt.shaped
  rw [Bool.and_eq_true]
  refine ⟨by simp only [PyData.canLay0]; exact lay_opt l h, decide_eq_true ?_⟩
  simp only [PyData.depth]
  omega
theorem isT_low {x : Str} (h : isT x = true) : lowS x := by
  obtain ⟨y, e, s⟩ := tgt_sm (v := .str x) h
  rw [V.str.inj e]
  exact s.ch
theorem OkL.low {l : List (Option Str)} (h : OkL isT l) : ∀ x, some x ∈ l → lowS x := fun x hx => isT_low (h.tg _ hx)
theorem rows_len2 {kvs : List (Key × V)} {rows : WRows} (h : kvs.map (·.1) = (rows.map (·.1)).map Sum.inr) : kvs.length = rows.length := by
  have := congrArg List.length h
  rw [List.length_map, List.length_map, List.length_map] at this
  exact this
theorem wval_eq {K : PySem.W.Frag} {H : Hp} {kvs kvs2 : List (Key × V)} {rows : WRows} (h : WVal H kvs rows) (h2 : WVal H kvs2 rows) (nd : (rows.map (·.1)).Nodup) (sm : ∀ r ∈ rows, OkL isT r.2) {p : Key × V} (hp : p ∈ kvs) : ∃ u, valV kvs2 p.1 = some u ∧ DEq K H p.2 u := by
  have hk : p.1 ∈ (rows.map (·.1)).map Sum.inr := by
    rw [← h.keys]
    exact List.mem_map.mpr ⟨p, hp, rfl⟩
  obtain ⟨y, hy, ey⟩ := List.mem_map.mp hk
  obtain ⟨a, va, ha⟩ := h.at hy
  obtain ⟨b, vb, hb⟩ := h2.at hy
  have kn : (kvs.map (·.1)).Nodup := by
    rw [h.keys]
    exact nd.map Sum.inr (fun a b h e => h (Sum.inr.inj e))
  have vp := valV_some kn (k := p.1) (v := p.2) hp
  rw [← ey, va] at vp
  refine ⟨.ref b, by rw [← ey]; exact vb, .tuple ((look rows y).map optD), ?_, .tup (SqT.of hb) (dpAll_opt _), shaped_optT (sm _ (look_at hy)).low⟩
  rw [← Option.some.inj vp]
  exact .tup (SqT.of ha) (dpAll_opt _)
/-- == of two wishes of the same rows -/
def spEqW (C : Addr) : Sp := fun vs H Q _ => ∃ (x y e e2 : Addr) (w : Nat) (rows : WRows), vs = [.ref x, .ref y] ∧ WishAt C H x e w rows ∧ WishAt C H y e2 w rows ∧ (rows.map (·.1)).Nodup ∧ (∀ r ∈ rows, OkL isT r.2) ∧ Q (.bl true) H
section
variable {P : Program} {w : World} {K : PySem.W.Frag} {mg : Str → Option Value} {base : Heap}
theorem ok_eqmW {f C D : Addr} {fd : FuncData} {k : Nat} (F : Fun K "__eq__" "PrefixMap.__eq__" sEq f fd) (T : ClsF K C) (mi : mg "isinstance" = none) (mt : mg "type" = none) (mD : mg "PrefixMap" = some (.ref D)) (hk : PySem.W.kitOne K (.ref C) (.ref D) = some true) (hmk : PySem.W.makesIn K C = true) (OC : ObjC K C) :
    FnOk P w K mg base CX0 (k + 1) f fd ["self", "other"] (spEqW C) := by
  refine F.ok scEq (fun vs H Q E h => ?_) (fun cdv A outer s H vs Q E hr h => ?_)
  · obtain ⟨x, y, e, e2, w, rows, rfl, _⟩ := h
    rfl
  · obtain ⟨x, y, e, e2, w, rows, rfl, ⟨⟨dx, hx⟩, kvs, he, hv⟩, ⟨⟨dy, hy⟩, kvs2, he2, hv2⟩, nd, sm, q⟩ := h
    have hu := hu_of hr
    refine ⟨_, pss_cons (ps_if (pt_not (pt_val (pe_callB call_isi (by rfl) mi (by decide +kernel) (pa_cons (pv 1) (pa_cons (pe_glob (v := .ref D) rfl mD rfl) pa_nil))))) (pss_one (ps_ret pe_bl)) pss_nil)
      (pss_one (ps_ret (pe_and (pe_cmpR op_is_cls (pe_callTy cr_type (by rfl) mt (by decide +kernel) (pa_cons (pv 0) pa_nil)) (pe_callTy cr_type (by rfl) mt (by decide +kernel) (pa_cons (pv 1) pa_nil)) (nomark _))
        (pe_and (pe_cmpR op_eq (pe_fld (pv 0) rfl) (pe_fld (pv 1) rfl) (nomark _)) (pe_one (pe_cmpR (op_eqDD (units65 hr)) (pe_fld (pv 0) rfl) (pe_fld (pv 1) rfl) (nomark _))))))), ?_⟩
    refine ⟨.ref y, rfl, .ref y, .ref D, .ref C, .ref D, _, rfl, .own _, .base (.ins hy T.cl OC.ca OC.cg OC.ct OC.ob), hk, _, rfl, iteF ?_⟩
    refine ⟨.ref x, rfl, x, C, dx, _, rfl, hx, .ref y, rfl, y, C, dy, _, rfl, hy, C, C, rfl, rfl, .inl rfl, _, rfl, ?_⟩
    rw [decide_eq_true rfl]
    refine iteT ⟨.ref x, rfl, x, C, dx, _, _, rfl, hx, T.cl, T.nW, flds_w _ _, .ref y, rfl, y, C, dy, _, _, rfl, hy, T.cl, T.nW, flds_w _ _, rfl, _, rfl, ?_⟩
    rw [decide_eq_true rfl]
    refine iteT ⟨.ref x, rfl, x, C, dx, _, _, rfl, hx, T.cl, T.nR, flds_r _ _, .ref y, rfl, y, C, dy, _, _, rfl, hy, T.cl, T.nR, flds_r _ _, e, e2, kvs, kvs2, rfl, rfl, he, he2, by rw [rows_len2 hv.keys, rows_len2 hv2.keys], fun p hp => wval_eq hv hv2 nd sm hp, q⟩
theorem ok_madeW {f fI C : Addr} {fd fdI : FuncData} {k : Nat} (F : Fun K "_made" "PrefixMap._made" sMade f fd) (M : Mk K C fI) (GI : FnOk P w K mg base CX0 k fI fdI ["self", "width", "rows"] (spInitW K C)) (bI : Binds K fdI ["self", "width", "rows"] []) :
    FnOk P w K mg base CX0 (k + 2) f fd ["cls", "width", "rows"] (spMadeW K C) := by
  refine F.ok scMade (fun vs H Q E h => ?_) (fun cdv A outer s H vs Q E hr h => ?_)
  · obtain ⟨d, w, kvs, rows, rfl, _⟩ := h
    rfl
  · obtain ⟨d, w, kvs, rows, rfl, w1, w32, hd, hin, ok, few, q⟩ := h
    refine ⟨_, pss_one (ps_ret (pe_makeL (i := 0) M GI hr (by rfl) (.inl (by rfl)) bI (pa_cons (pv 1) (pa_cons (pv 2) pa_nil)))), ?_⟩
    refine ⟨rfl, .int w, rfl, .ref d, rfl, fun x dx nx ndx nex => ?_⟩
    have n1 : d ≠ x := ne_of_none hd nx
    have n2 : d ≠ dx := ne_of_none hd ndx
    have s0 : Same H (upd (upd H dx (.own x)) x (.ins C dx [])) := fun b o e => by rw [upd_ne (ne_of_none e nx), upd_ne (ne_of_none e ndx)]; exact e
    refine ⟨x, dx, d, w, kvs, rows, rfl, upd_same, w1, w32, s0 _ _ hd, hin.same s0, ok, few, fun e H' ne hw keep => ⟨rfl, ?_⟩⟩
    exact q x e H' nx (s0.free ne) (Same.made nx ndx keep) hw
end
/-! ### generators whose loops do not turn; list(f(..)) -/
theorem ps_dead {X : Cx} {st : Stmt} : PS X st (fun _ _ _ => False) := ⟨fun _ _ _ _ _ _ h => h.elim⟩
theorem pss_dead {X : Cx} {st : List Stmt} : PSs X st (fun _ _ _ => False) := ⟨fun _ _ _ _ _ _ h => h.elim⟩
theorem pe_dead {X : Cx} {e : Expr} : PE X e (fun _ _ _ => False) := ⟨fun _ _ _ _ _ _ h => h.elim⟩
theorem okGen {P : Program} {w : World} {K : PySem.W.Frag} {mg : Str → Option Value} {base : Heap} {x qual : Str} {st : Stmt} {f : Addr} {fd : FuncData} {N ps : List Str} {k : Nat} {sp : SpG} (F : Fun K x qual st f fd) (S : GScope N ps (defScope st)) (len : ∀ vs H Q E, sp vs H Q E → vs.length = ps.length)
    (hbody : ∀ (cdv : Value) (A : Around) (outer : List Env) (s : Shared) (H : Hp) (vs : List V) (Q : List V → Hp → Prop) (E : XK) (pn : List (Addr × Obj)), Room k (A.deeper (envOfC qual (defScope st) s.heap.objs.size f cdv)) → sp vs H Q E →
      ∃ t, PSs (gcxOf P w K mg base N qual (defScope st) f cdv A outer s H E pn) (defBody st) t ∧ t (GEnds.at { nx := fun ys _ H' => Q ys H', rt := fun ys v H' => v = .non ∧ Q ys H' } []) (start N vs) H) : GFn P w K mg base (k + 1) f fd ps sp := by
  obtain ⟨oc, od, kV, doc, pm, an, cdv, ct, osl, rfl, lk, hcd⟩ := F.ex
  refine gfn_of lk hcd S len fun A outer s H vs Q E pn hr hsp => ?_
  obtain ⟨t, h, q⟩ := hbody cdv A outer s H vs Q E pn hr hsp
  exact ⟨tPlain t, gss_pss h, q⟩
def tListGS (sp : SpG) (E : L2.St → XK) (t : TA) : TE := fun σ H Q => t σ H fun vs H1 => sp (vs ++ []) H1 (fun out H2 => ∀ p, H2 p = none → Q (.ref p) (upd H2 p (.lst out))) (E σ)
/-- list(f(..)), also in a try -/
theorem pe_listGS {X : Cx} {k : Nat} {f : Addr} {fd : FuncData} {ps : List Str} {sp : SpG} {E : L2.St → XK} {x nm : Str} {p p2 pos pos' : Pos} {e : Expr} {es : List Expr} {t : TA} (F : GFn X.prog X.w X.K X.mg X.base k f fd ps sp) (hr0 : Room k X.A) (hg0 : Gl X x) (hm0 : X.mg x = some (.ref f)) (hk : PySem.W.keepIn X.K (.ref f) = true) (hb : Binds X.K fd ps [])
    (hx : ∀ σ, PassesAt (CX X.prog X.w) X σ (E σ)) (hns : ∀ σ, NoStop X.K (E σ)) (hr : Room (k + 3) X.A) (hg : Gl X nm) (hmg : X.mg nm = none) (hv : bootBuiltins nm = some (.type "list")) (ha : PA X (e :: es) t)
    (hdb0 : (x == ("__debug__" : Str)) = false := by decide) (he0 : starEach (e :: es) X.env = (false, eval e X.env) :: starEach es X.env := by rfl) (hpl : (backTo pos' (starEach es X.env)).any (·.1) = false := by rfl)
    (hnm : nm ≠ "__name__" := by decide) (hdb : (nm == ("__debug__" : Str)) = false := by decide)
    (he : starEach [Expr.Call (.Name x p2) (e :: es) [] pos'] X.env = (false, eval (Expr.Call (.Name x p2) (e :: es) [] pos') X.env) :: starEach [] X.env := by rfl) : PE X (.Call (.Name nm p) [.Call (.Name x p2) (e :: es) [] pos'] [] pos) (tListGS sp E t) := by
  refine ⟨fun pins s σ H Q I hq => ?_⟩
  have h := (pgen_call (X := X) (E := E σ) (p := p2) (pos' := pos') F hr0 hg0 hm0 hk hb .nil ha hdb0 he0 hpl).run pins s σ H _ I hq
  refine wpAny_Call_Name_kw (ld_blt I hg hmg hv ?_ hnm hdb)
  refine PyProof.Rows.callWith_type1 ?_ he rfl
  rw [he]
  show wpAny _ _ (spliced ((false, eval (Expr.Call (.Name x p2) (e :: es) [] pos') X.env) :: backTo pos (starEach [] X.env))) _ _ s
  refine Calls.spliced_cons (thn h fun u s1 ⟨H1, sc, ex, I1, hex, hG⟩ => ?_)
  refine Calls.spliced_nil ?_
  have hsz : sc.heap.objs.size ≤ s1.heap.objs.size := by
    obtain ⟨a, g, c, _, h1, h2, _⟩ := hG
    exact Nat.le_trans h1 (Nat.le_of_lt h2)
  refine call_list_new hr I1.ok.frames hG (fun S s' acc c H' ys q0 q1 q2 hl q3 q4 q5 q6 q7 q8 => ?_) fun e s' g hc => ?_
  · exact ⟨.ref S, upd H' S (.lst ys), I1.drained (Nat.le_trans hsz q0) hl q1 q2 hex q3 q4 q5 q6 q7, rfl, q8 S q7⟩
  · have kin : X.K.In s'.heap := by
      obtain ⟨a, B, H', cls, d, _, fl, _, ub, _⟩ := id hc
      refine I1.ok.mod.kin.keeps fun b o eb => fl.1 b o (ub.keep b o (I1.bs b o eb).1 (I1.bs b o eb).2 fun hm => ?_)
      rcases List.mem_cons.mp (I1.stkSub b hm) with z | z
      · have h1 := Heap.lt_size eb
        have h2 := Nat.le_trans I1.ok.bsz I1.ok.above
        rw [z] at h1
        exact absurd (Nat.lt_of_lt_of_le h1 h2) (Nat.lt_irrefl _)
      · exact I1.ok.nofr eb z
    refine ⟨notStop_of (hns σ) kin hc, hx σ pins H1 sc e _ I1 ?_⟩
    · obtain ⟨a, B, H', cls, d, z1, fl, z2, ub, z3, z4, z5, z6⟩ := hc
      exact ⟨a, B, H', cls, d, z1, fl, z2, ub, z3, z4, allBare_setGen z5 rfl, z6⟩
/-- in a try: no StopIteration -/
abbrev WNS (K : PySem.W.Frag) (W : WX) : L2.St → XK := fun σ cls d H => W cls d σ H ∧ PySem.W.subIn K cls (.type "StopIteration") = some false
theorem passNS {X : Cx} {W : WX} (tk : Takes X W) (σ : L2.St) : PassesAt (L2.CX X.prog X.w) X σ (WNS X.K W σ) := fun _ _ _ e s' I c => tk e s' (XE.of_call I (fun _ _ _ h => h.1) c)
theorem _root_.L2.GFn.mono {P : Program} {w : World} {K : PySem.W.Frag} {mg : Str → Option Value} {base : Heap} {k k' : Nat} {f : Addr} {fd : FuncData} {ps : List Str} {sp : SpG} (h : GFn P w K mg base k f fd ps sp) (le : k ≤ k') : GFn P w K mg base k' f fd ps sp := by
  refine ⟨h.len, fun A outer s H args us vs Q E hr e0 hb r hsp => codeAny_mono (h.run A outer s H args us vs Q E (hr.mono le) e0 hb r hsp) fun r s' hq => ?_⟩
  cases r with
  | error e => exact hq
  | ok fl =>
    cases fl with
    | ret u =>
      obtain ⟨a, g, c, h1, h2, h3, h4, h5, h6, h7, h8, h9, h10⟩ := hq
      exact ⟨a, g, c, h1, h2, h3, h4, h5, h6, h7, h8, h9, fun A S s2 hr2 => h10 A S s2 (hr2.mono le)⟩
    | next => exact hq
    | brk => exact hq
    | cont => exact hq
/-! ### a generator's for, whose body may yield; a thing that it only reads -/
def tGFor (wi : TI) (g : TG) (tb : TGn) : TGn := fun D ys σ H => wi σ H fun J H1 => ∃ W : Nat → Nat → List V → L2.St → Hp → Prop, (∃ m, W 0 m ys σ H1) ∧ ∀ i m ys σ H, W i m ys σ H →
  (J.stop i H ∧ D.nx ys σ H) ∨ (J.go i H ∧ ∃ N : List V → L2.St → Hp → Prop, (∀ ys' σ' H', N ys' σ' H' → ∃ m', m' < m ∧ W (i + 1) m' ys' σ' H') ∧ ∀ x H', J.yld i H x H' → g x σ H' fun σ2 H2 => tb { D with nx := N, ct := N, bk := D.nx } ys σ2 H2)
theorem _root_.L2.GI.un {X : Cx} {S : Addr} {ip pl : List (Addr × Obj)} {ys : List V} {σ : L2.St} {H : Hp} {s : Shared} (h : GI X S (ip ++ pl) ys σ H s) : GI X S ip ys σ H s := by
  obtain ⟨acc, c, r, I⟩ := h
  exact ⟨acc, c, r, Inv.unpinned (pins := (S, lstObj acc c) :: ip) (pl := pl) I⟩
theorem gs_for {X : Cx} {tg iter : Expr} {body : List Stmt} {wi : TI} {g : TG} {tb : TGn} {pos : Pos} (hp : PassesOwn (model X.prog X.w) X.A X.env X.xe) (hc : X.calm = true) (hi : PI X tg iter wi) (hg : PG X tg g) (hb : GSs X body tb)
    (hs : ∀ x, foldedSetIterable iter X.env x = pure x := by intro _; rfl) : GS X (.For tg iter body [] pos) (tGFor wi g tb) := by
  refine ⟨fun A S ip R n ys s₀ c fs K J gd lv s σ H D gc hn k hI ht => ?_⟩
  rw [exec_For]
  refine seg_bind_wrap (wpAny_standAt ?_)
  refine seg_bind_wrap ?_
  rw [gc.over]
  obtain ⟨acc, cc, r, I⟩ := hI
  refine wpAny_mono (hi.run _ s σ H _ I ht) (fun v s1 h1 => ?_) fun x s' hx => k.exc n s₀ x s' hx
  refine seg_bind_wrap (wpAny_of_eq (hs v) ?_)
  refine seg_bind_wrap (wpAny_standAt ?_)
  refine seg_bind_wrap (wpAny_holding ?_)
  rw [gc.over]
  refine wpAny_mono h1 (fun itv s2 h2 => ?_) fun x s' hx => k.exc n s₀ x s' hx
  obtain ⟨it, fp, tn, Jt, H2, e, I2, T, st2, f2, W, ⟨m0, w0⟩, turn⟩ := h2
  subst e
  have stat : ∀ {acc : Array Value} {cc : Nat} {H' : Hp}, (∀ b ∈ fp, H' b = none) → ∀ b ∈ fp, FpOk X ((S, lstObj acc cc) :: ip) H' b := fun {acc' cc' H'} hn b hb => by
    obtain ⟨_, q1, q2, q3, q4, q5⟩ := f2 b hb
    refine ⟨hn b hb, q1, q2, q3, q4, fun p hp => ?_⟩
    rcases List.mem_append.mp hp with hp | hp
    · exact q5 p (List.mem_append_left _ hp)
    · rcases List.mem_cons.mp hp with hp | hp
      · rw [hp]; exact q5 (S, lstObj acc cc) (List.mem_append_right _ List.mem_cons_self)
      · exact q5 p (List.mem_append_right _ (List.mem_cons_of_mem _ hp))
  have fpS : ∀ b ∈ fp, b ≠ S := fun b hb => ((f2 b hb).2.2.2.2.2 (S, lstObj acc cc) (List.mem_append_right _ List.mem_cons_self)).symm
  refine seg_call fun p => ?_
  have gl := fun (kk : Result → Sem PySem.Fin) => gc_loop (k := kk) (c' := .forLoop tg (.ref it) body [] X.env) (l := lv []) (kp := []) (p := p) gc rfl rfl
  have gl2 := fun (kk : Result → Sem PySem.Fin) => gc_loop (k := kk) (c' := .block [] X.env) (l := lv []) (kp := []) (p := p) gc rfl rfl
  have loop : ∀ (m n : Nat) (ys : List V) (s₀ s : Shared) (i : Nat) (σ : L2.St) (H : Hp), n + ys.length = sizeLine → W i m ys σ H → GI X S ip ys σ H s → tn i s.heap → (∀ b ∈ fp, H b = none) →
      Seg (model X.prog X.w) A R (GY X S) n s₀ (.forLoop tg (.ref it) body [] X.env) ((model X.prog X.w).den (.forLoop tg (.ref it) body [] X.env))
        (.ret (fun r => ((match r with | .ok f => (.pure f : Sem Flow) | .error e => .raise e).onRaise (cameBack X.env)).wrap K J gd lv) none (gd false) (lv []) c p [] :: fs) s := by
    intro m
    induction m using Nat.strongRecOn with
    | ind m ih =>
      intro n ys s₀ s i σ H hn w hI st fr
      have ee : ∀ (n : Nat) (s₀ : Shared) (x : Value) (s' : Shared), X.xe x s' → Seg (model X.prog X.w) A R (GY X S) n s₀ (.forLoop tg (.ref it) body [] X.env)
          ((do noteFrame x X.env; theTreesLotGoes x : Sem Unit).bind (fun _ => .raise x))
          (.ret (fun r => ((match r with | .ok f => (.pure f : Sem Flow) | .error e => .raise e).onRaise (cameBack X.env)).wrap K J gd lv) none (gd false) (lv []) c p [] :: fs) s' := fun n s₀ x s' hx => by
        rw [Sem.bind_eq_wrap]
        refine seg_wrap ?_
        rw [(gl _).over]
        refine wpAny_bind (wpAny_mono (hp x s' hx) (fun _ s'' hcb => wpAny_theTreesLotGoes ?_) fun y s'' hcb => ?_)
        · exact seg_leaf (.error x) (seg_cameBack gc k hcb)
        · exact seg_leaf (.error y) (seg_cameBack gc k hcb)
      obtain ⟨acc, cc, r, I3⟩ := hI
      show Seg _ A R _ n s₀ _ ((forTurn tg (.ref it) body [] X.env).onRaise (fun x => do noteFrame x X.env; theTreesLotGoes x)) _ s
      unfold forTurn
      rw [Sem.onRaise_eq_wrap]
      refine seg_bind_wrap (wpAny_standAt ?_)
      refine seg_bind_wrap (wpAny_onRaise ?_)
      rw [(gl _).over]
      rcases turn i m ys σ H w with ⟨stop, qn⟩ | ⟨go, N, hN, step⟩
      · refine wpAny_mono (T.done X rfl rfl rfl hc i _ s σ H X.xe I3 (stat fr) st stop) (fun r' s4 ⟨hr, I4⟩ => ?_) fun x s' hx => wpAny_standAt (ee n s₀ x s' hx)
        subst hr
        refine seg_again rfl ?_
        show Seg _ A R _ n s₀ _ (do return PySem.Fin.done (← (execs [] X.env).onRaise (fun x => do noteFrame x X.env; theTreesLotGoes x))) _ s4
        refine seg_bind ?_
        refine wpAny_onRaise (wpAny_execs_nil ?_)
        exact seg_leaf (.ok .next) (k.ok n ys s₀ s4 .next hn ⟨σ, H, ⟨acc, cc, r, I4⟩, qn⟩)
      · refine wpAny_mono (T.item X rfl rfl rfl hc i _ s σ H X.xe I3 (stat fr) st go) (fun r' s4 ⟨u, hr, h4⟩ => ?_) fun x s' hx => wpAny_standAt (ee n s₀ x s' hx)
        subst hr
        refine seg_bind_wrap ?_
        rw [(gl _).over]
        refine wpAny_mono h4 (fun _ s5 ⟨x, H5, I5, r5, y5, st5, fr5⟩ => ?_) fun x s' hx => ee n s₀ x s' hx
        have I5' := I5.pinned (stat fr5) (T.obj _ _ st5)
        refine seg_bind_wrap ?_
        rw [(gl _).over]
        refine wpAny_mono (hg.run _ s5 σ H5 x u _ I5' r5 (step x H5 y5)) (fun _ s6 ⟨σ6, H6, I6, q6⟩ => ?_) fun x s' hx => ee n s₀ x s' hx
        rw [Sem.bind_eq_wrap', Sem.wrap_wrap]
        have again : ∀ {n' : Nat} {ys' : List V} {s₀' s7 : Shared} {σ7 : L2.St} {H7 : Hp}, n' + ys'.length = sizeLine → GI X S (ip ++ pinsAt fp s5.heap) ys' σ7 H7 s7 → N ys' σ7 H7 →
            Seg (model X.prog X.w) A R (GY X S) n' s₀' (.forLoop tg (.ref it) body [] X.env) (.pure (.again (.forLoop tg (.ref it) body [] X.env)))
              (.ret (fun r => ((match r with | .ok f => (.pure f : Sem Flow) | .error e => .raise e).onRaise (cameBack X.env)).wrap K J gd lv) none (gd false) (lv []) c p [] :: fs) s7 := fun {n' ys' s₀' s7 σ7 H7} hn' I7 n7 => by
          obtain ⟨m', hm, w7⟩ := hN ys' σ7 H7 n7
          obtain ⟨acc7, cc7, r7, J7⟩ := id I7
          have pin7 : ∀ b ∈ fp, ∀ o, s5.heap.get? b = some o → s7.heap.get? b = some o ∧ H7 b = none := fun b hb o e => by
            obtain ⟨h1, h2, _⟩ := J7.pin (b, o) (List.mem_append_right _ (List.mem_cons_of_mem _ (List.mem_append_right _ (mem_pinsAt hb e))))
            exact ⟨h1, h2⟩
          refine seg_again rfl (ih m' hm n' ys' s₀' s7 (i + 1) σ7 H7 hn' w7 I7.un (T.keep _ _ _ st5 fun b hb o e => (pin7 b hb o e).1) fun b hb => ?_)
          obtain ⟨o, e, _⟩ := T.obj _ _ st5 b hb
          exact (pin7 b hb o e).2
        refine hb.run A S (ip ++ pinsAt fp s5.heap) R n ys s₀ _ _ _ _ _ _ s6 σ6 H6 { D with nx := N, ct := N, bk := D.nx } ⟨gc.pn, fun p hp => ?_, gc.apart, (gl _).over, (gl _).split, (gl _).guard, rfl⟩ hn ⟨fun n' ys' s₀' s7 f hn' hs => ?_, fun n' s₀' x s7 hx => ee n' s₀' x s7 hx⟩ ⟨acc, cc, r, I6⟩ q6
        · rcases List.mem_append.mp hp with hp | hp
          · exact gc.ip p hp
          · exact fpS p.1 (of_pinsAt hp).1
        · cases f with
          | next => obtain ⟨σ7, H7, I7, n7⟩ := hs; exact again hn' I7 n7
          | cont => obtain ⟨σ7, H7, I7, n7⟩ := hs; exact again hn' I7 n7
          | brk => obtain ⟨σ7, H7, I7, q7⟩ := hs; exact seg_leaf (.ok .next) (k.ok n' ys' s₀' s7 .next hn' ⟨σ7, H7, I7.un, q7⟩)
          | ret v => obtain ⟨x7, σ7, H7, I7, r7, q7⟩ := hs; exact seg_leaf (.ok (.ret v)) (k.ok n' ys' s₀' s7 (.ret v) hn' ⟨x7, σ7, H7, I7.un, r7, q7⟩)
  exact loop m0 n ys s₀ s2 0 σ H2 hn w0 ⟨acc, cc, r, I2⟩ st2 fun b hb => (f2 b hb).1
def tGLock (t : TGn) : TGn := fun D ys σ H => ∃ d u, H d = some u ∧ Mut (some u) ∧ ∀ od, t ⟨fun ys' σ' H' => H' d = some (.frz od u) ∧ D.nx ys' σ' (upd H' d u), fun ys' v H' => H' d = some (.frz od u) ∧ D.rt ys' v (upd H' d u), fun ys' σ' H' => H' d = some (.frz od u) ∧ D.bk ys' σ' (upd H' d u), fun ys' σ' H' => H' d = some (.frz od u) ∧ D.ct ys' σ' (upd H' d u)⟩ ys σ (upd H d (.frz od u))
theorem gs_lock {X : Cx} {st : Stmt} {t : TGn} (h : GS X st t) : GS X st (tGLock t) := by
  refine ⟨fun A S ip R n ys s₀ c fs K J gd lv s σ H D gc hn k hI ht => ?_⟩
  obtain ⟨d, u, hd, mu, hw⟩ := ht
  obtain ⟨acc, cc, r, I⟩ := hI
  obtain ⟨od, I1⟩ := I.lock hd mu
  have nf := I.nofrz hd mu
  have un : ∀ {ys' : List V} {σ' : L2.St} {H' : Hp} {s' : Shared}, GI X S ip ys' σ' H' s' → H' d = some (.frz od u) → GI X S ip ys' σ' (upd H' d u) s' := fun {ys' σ' H' s'} q e => by
    obtain ⟨a1, c1, r1, I2⟩ := q
    exact ⟨a1, c1, r1, I2.unlock e nf⟩
  refine h.run A S ip R n ys s₀ c fs K J gd lv s σ _ _ gc hn ⟨fun n' ys' s₀' s' f hn' hs => k.ok n' ys' s₀' s' f hn' ?_, k.exc⟩ ⟨acc, cc, r, I1⟩ (hw od)
  cases f with
  | next => obtain ⟨σ', H', I2, e, q⟩ := hs; exact ⟨σ', _, un I2 e, q⟩
  | brk => obtain ⟨σ', H', I2, e, q⟩ := hs; exact ⟨σ', _, un I2 e, q⟩
  | cont => obtain ⟨σ', H', I2, e, q⟩ := hs; exact ⟨σ', _, un I2 e, q⟩
  | ret v => obtain ⟨x, σ', H', I2, rr, e, q⟩ := hs; exact ⟨x, σ', _, un I2 e, rr, q⟩
section
variable {J : It} {n : Nat} {G : Hp → Prop} {Y : Nat → Hp → V → Hp → Prop}
theorem gfor_it (w : Walk J n G Y) {g : TG} {tb : TGn} {D : GEnds} {ys : List V} {σ : L2.St} {H : Hp} (Pv : Nat → List V → L2.St → Hp → Prop) (h0 : Pv 0 ys σ H) (hG : ∀ i ys σ H, i ≤ n → Pv i ys σ H → G H)
    (hs : ∀ i x ys σ H H', i < n → Pv i ys σ H → Y i H x H' → g x σ H' fun σ2 H2 => tb { D with nx := Pv (i + 1), ct := Pv (i + 1), bk := D.nx } ys σ2 H2) (hd : ∀ ys σ H, Pv n ys σ H → D.nx ys σ H) :
    ∃ W : Nat → Nat → List V → L2.St → Hp → Prop, (∃ m, W 0 m ys σ H) ∧ ∀ i m ys σ H, W i m ys σ H →
      (J.stop i H ∧ D.nx ys σ H) ∨ (J.go i H ∧ ∃ N : List V → L2.St → Hp → Prop, (∀ ys' σ' H', N ys' σ' H' → ∃ m', m' < m ∧ W (i + 1) m' ys' σ' H') ∧ ∀ x H', J.yld i H x H' → g x σ H' fun σ2 H2 => tb { D with nx := N, ct := N, bk := D.nx } ys σ2 H2) := by
  refine ⟨fun i m ys σ H => m + i = n ∧ Pv i ys σ H, ⟨n, rfl, h0⟩, ?_⟩
  rintro i m ys σ H ⟨hm, pv⟩
  have gH := hG i ys σ H (by omega) pv
  rcases Nat.lt_or_ge i n with hlt | hge
  · refine .inr ⟨w.goes i H hlt gH, Pv (i + 1), fun ys' σ' H' q => ⟨m - 1, by omega, by omega, q⟩, fun x H' y => hs i x ys σ H H' hlt pv (w.yields i H x H' hlt gH y)⟩
  · obtain rfl : i = n := by omega
    exact .inl ⟨w.stops H gH, hd ys σ H pv⟩
end
theorem okGenS {P : Program} {w : World} {K : PySem.W.Frag} {mg : Str → Option Value} {base : Heap} {x qual : Str} {st : Stmt} {f : Addr} {fd : FuncData} {N ps : List Str} {k : Nat} {sp : SpG} (F : Fun K x qual st f fd) (S : GScope N ps (defScope st)) (len : ∀ vs H Q E, sp vs H Q E → vs.length = ps.length)
    (hbody : ∀ (cdv : Value) (A : Around) (outer : List Env) (s : Shared) (H : Hp) (vs : List V) (Q : List V → Hp → Prop) (E : XK) (pn : List (Addr × Obj)), Room k (A.deeper (envOfC qual (defScope st) s.heap.objs.size f cdv)) → sp vs H Q E →
      ∃ t, GSs (gcxOf P w K mg base N qual (defScope st) f cdv A outer s H E pn) (defBody st) t ∧ t { nx := fun ys _ H' => Q ys H', rt := fun ys v H' => v = .non ∧ Q ys H' } [] (start N vs) H) : GFn P w K mg base (k + 1) f fd ps sp := by
  obtain ⟨oc, od, kV, doc, pm, an, cdv, ct, osl, rfl, lk, hcd⟩ := F.ex
  exact gfn_of lk hcd S len fun A outer s H vs Q E pn hr hsp => hbody cdv A outer s H vs Q E pn hr hsp
/-! ### walk -/
abbrev sWalk : Stmt := inClass sCls 7
theorem scWalk : GScope ["self", "prefix", "value"] ["self"] (defScope sWalk) := ⟨rfl, rfl, rfl, by decide +kernel, rfl, by decide +kernel, by decide +kernel⟩
def spWalk (C : Addr) : SpG := fun vs H Q _ => ∃ (x e : Addr) (w : Nat) (kvs : List (Key × V)), vs = [.ref x] ∧ MapAt C H x e w kvs ∧ kvs.length ≤ 4000 ∧
  ∀ (ts : List Addr) (H' : Hp), Same H H' → Paired (fun t (kv : Key × V) => H' t = some (.tup [kV kv.1, kv.2])) ts kvs → Q (ts.map V.ref) H'
theorem ok_walk {P : Program} {w : World} {K : PySem.W.Frag} {mg : Str → Option Value} {base : Heap} {f C : Addr} {fd : FuncData} {k : Nat} (F : Fun K "walk" "PrefixMap.walk" sWalk f fd) (T : ClsF K C) : GFn P w K mg base (k + 1) f fd ["self"] (spWalk C) := by
  refine okGenS F scWalk (fun vs H Q E h => ?_) (fun cdv A outer s H vs Q E pn hr h => ?_)
  · obtain ⟨x, e, w, kvs, rfl, _⟩ := h
    rfl
  · obtain ⟨x, e, w, kvs, rfl, ⟨⟨dx, hx⟩, he⟩, few, q⟩ := h
    have nd := scWalk.nd
    refine ⟨_, gss_cons (gs_lock (gs_for owns_gcx rfl (pi_items (pe_fld (pv 0) rfl)) (pg_tup rfl (pgs_cons (pg_name (i := 1) nd rfl (.inl rfl)) (pgs_cons (pg_name (i := 2) nd rfl (.inl rfl)) pgs_nil)))
      (gss_cons (gs_yield (pe_tup (pa_cons (pv 1) (pa_cons (pv 2) pa_nil)))) gss_nil))) gss_nil, ?_⟩
    have xe : x ≠ e := ne_of hx he (fun z => nomatch z)
    refine ⟨e, .dK kvs, he, trivial, fun od => ?_⟩
    refine ⟨.ref x, rfl, x, C, dx, _, _, rfl, by rw [upd_ne xe]; exact hx, T.cl, T.nR, flds_r _ _, e, od, kvs, rfl, upd_same, ?_⟩
    have hef := upd_same (H := H) (a := e) (o := .frz od (.dK kvs))
    have kp : ∀ b o, b ≠ e → H b = some o → (upd H e (.frz od (.dK kvs))) b = some o := fun b o nb eb => by rw [upd_ne nb]; exact eb
    have fr : ∀ b, (upd H e (.frz od (.dK kvs))) b = none → b ≠ e := fun b nb => (upd_free nb).1
    revert hef kp fr
    generalize upd H e (.frz od (.dK kvs)) = Hf
    intro hef kp fr
    refine gfor_it walk_items (fun i ys σ H' => (∃ x1 x2, σ = [some (.ref x), x1, x2]) ∧ ∃ ts : List Addr, ys = ts.map V.ref ∧ Same Hf H' ∧ Paired (fun t (kv : Key × V) => H' t = some (.tup [kV kv.1, kv.2]) ∧ t ≠ e) ts (kvs.take i)) ⟨⟨_, _, rfl⟩, [], rfl, Same.refl _, .nil⟩ (fun _ _ _ _ _ h => by obtain ⟨_, _, _, s, _⟩ := h; exact s _ _ hef) ?_ ?_
    · rintro i v ys σ H1 H2 hi ⟨⟨x1, x2, rfl⟩, ts, rfl, s1, pr⟩ ⟨T0, a, b, rfl, nT, rfl, ea, eb⟩
      obtain ⟨kv, hkv⟩ : ∃ kv, kvs[i]? = some kv := ⟨kvs[i], List.getElem?_eq_getElem hi⟩
      dsimp only at ea eb
      rw [hkv] at ea eb
      cases ea
      cases eb
      have lt := prd_len pr
      rw [List.length_take] at lt
      have s2 := same_upd (o := .tup [kV kv.1, kv.2]) nT
      refine ⟨T0, _, rfl, SqT.of upd_same, rfl, _, _, rfl, _, _, rfl, rfl, ?_⟩
      refine ⟨Nat.lt_of_le_of_lt (show _ ≤ 4000 by rw [List.length_map]; omega) (by decide), _, rfl, _, rfl, by show 2 ≤ sizeLine; decide, fun p np => ?_⟩
      have s3 := s2.trans (same_upd (o := .tup [kV kv.1, kv.2]) np)
      refine ⟨⟨_, _, rfl⟩, ts ++ [p], by rw [List.map_append]; rfl, s1.trans s3, ?_⟩
      rw [List.take_add_one, hkv]
      exact prd_snoc (pr.mono fun t kv h => ⟨s3 _ _ h.1, h.2⟩) ⟨upd_same, fr p (by
        cases z : Hf p with
        | none => rfl
        | some o => exact absurd (s2 _ _ (s1 _ _ z)) (by rw [np]; exact fun z => nomatch z))⟩
    · rintro ys σ H1 ⟨⟨x1, x2, rfl⟩, ts, rfl, s1, pr⟩
      rw [List.take_length] at pr
      refine ⟨s1 _ _ hef, q ts _ (fun b o eb => ?_) (pr.mono fun t kv h => by rw [upd_ne h.2]; exact h.1)⟩
      by_cases hb : b = e
      · rw [hb, upd_same, ← he, ← hb, eb]
      · rw [upd_ne hb]
        exact s1 _ _ (kp b o hb eb)
/-- list(o.m()) of a generator method -/
theorem pe_listM {X : Cx} {k : Nat} {f C : Addr} {fd : FuncData} {ps : List Str} {sp : SpG} {m nm : Str} {p pos pos' apos : Pos} {o : Expr} {ta : TE} (he : PE X o ta) (c : Cls X.K C) (hm : Meth X.K C m f) (F : GFn X.prog X.w X.K X.mg X.base k f fd ps sp) (hr0 : Room k X.A) (hb : Binds X.K fd ps []) (hr : Room (k + 3) X.A) (hg : Gl X nm) (hmg : X.mg nm = none) (hv : bootBuiltins nm = some (.type "list"))
    {pl : Sem Bool} (ht : eval (.Call (.Attribute o m apos) [] [] pos') X.env = (do
      let ov ← eval o X.env
      standAt apos.atName
      let (f, first) ← holding [ov] (getMethod ov m pl)
      callWith pos' f first (backTo pos' (starEach [] X.env)) (backToKw pos' (keywordEach [] X.env))) := by rfl)
    (hnm : nm ≠ "__name__" := by decide) (hdb : (nm == ("__debug__" : Str)) = false := by decide) (hst : starEach [Expr.Call (.Attribute o m apos) [] [] pos'] X.env = (false, eval (Expr.Call (.Attribute o m apos) [] [] pos') X.env) :: starEach [] X.env := by rfl) :
    PE X (.Call (.Name nm p) [.Call (.Attribute o m apos) [] [] pos'] [] pos) (tListG (tMethG C m sp [] E0 ta tNil)) :=
  pe_listG (pgen_meth0 (pl := pl) he c hm F hr0 hb .nil ht) (passes_call takes0 (fun _ _ _ _ h => h)) (fun _ _ _ h => h.elim) hr hg hmg hv hnm hdb hst
/-! ### len of an instance whose class has its own -/
theorem special_own {M : Model} {K : PySem.W.Frag} {A : Around} {E : Value → Shared → Prop} {s : Shared} {x C f : Addr} {ox : Obj} {od : Option Obj} {name : Str} {args : List Value} {Q : Option Value → Shared → Prop} (X : K.In s.heap) (I : PySem.W.InstAt s.heap x ox C od)
    (hs : PySem.W.findIn K (.ref C) name = some (some (.ref f))) (hf : PySem.W.isFn K (.ref f) = true) (h : wpAny M A (call (.ref f) (.ref x :: args)) (fun v s' => Q (some v) s') E s) : wpAny M A (callSpecial? (.ref x) name args) Q E s := by
  unfold callSpecial? specialOf
  refine wpAny_bind (wpAny_bind (I.type.here ((PySem.W.looks_findIn X hs).here ?_)))
  refine wpAny_holding ?_
  refine wpAny_bind ((PySem.W.bind_fn X _ (beq_iff_eq.mp hf)).here ?_)
  exact wpAny_bind (wpAny_mono h (fun v s' q => wpAny_pure q) fun _ _ q => q)
def rLenI (C : Addr) (sp : Sp) : List V → Hp → VK → Prop := fun xs H Q => ∃ a dx fs, xs = [.ref a] ∧ H a = some (.ins C dx fs) ∧ sp [.ref a] H (fun v H' => ∃ n : Nat, v = .int n ∧ n < 1000000 ∧ Q (.int n) H') E0
theorem call_lenI {X : Cx} {C f : Addr} {fd : FuncData} {k : Nat} {ps : List Str} {sp : Sp} (F : FnOk X.prog X.w X.K X.mg X.base CX0 k f fd ps sp) (hr : Room (k + 1) X.A) (he : PySem.W.findIn X.K (.ref C) "__len__" = some (some (.ref f))) (hf : PySem.W.isFn X.K (.ref f) = true) (hb : Binds X.K fd ps []) :
    CallR X (.builtin "len") (rLenI C sp) := by
  intro pins s σ H xs us Q I r h
  obtain ⟨a, dx, fs, rfl, ha, q⟩ := h
  rw [Vals.ref1 r]
  obtain ⟨_, O1, _⟩ := ins_get I.hok ha
  obtain ⟨_, J1, _⟩ := O1.look
  refine Calls.call_function_entry kind_len plain_len entry_len (args_len1 _) ?_
  unfold Builtin.«len»
  refine wpAny_bind (m := oneArg "len" _) (wpAny_pure ?_)
  refine wpAny_bind (special_own I.kIn J1 he hf ?_)
  have e0 := I.env0
  have e1 : Env0 X.prog X.w X.K X.mg X.base X.A.in1 X.stack s H := ⟨e0.frames, e0.mod, e0.bs, e0.bsz, e0.funs, e0.frf, e0.hok, e0.bare⟩
  have hr1 : Room k X.A.in1 := by
    obtain ⟨h1, h2, h3⟩ := hr
    refine ⟨h1, ?_, ?_⟩
    · show X.A.depth + 3 * k + 5 < recursionLimit
      omega
    · show X.A.units + 1 + 16 * k + 200 < cLine
      omega
  have hl : ([Value.ref a] ++ []).length = ps.length := F.len _ _ _ _ q
  refine wpAny_call (codeAny_mono (F.run X.A.in1 X.stack s H ⟨[.ref a], []⟩ [.ref a] [.ref a] _ E0 hr1 e1 (hb s [.ref a] I.kIn hl) (.cons rfl .nil) q) fun res s' hq => ?_)
  match res, hq with
  | .ok (.ret u), hq =>
    obtain ⟨v, H', I', rv, n, ev, hn, q'⟩ := I.after (Q := fun v H' => ∃ n : Nat, v = .int n ∧ n < 1000000 ∧ Q (.int n) H') hq
    subst ev
    obtain ⟨t, rfl⟩ := rv
    refine wpAny_bind (wpAny_holding (wpAny_pure ?_))
    refine wpAny_bind (wpAny_letGo ?_)
    dsimp only
    rw [if_neg (show ¬ ((n : Nat) : Int) < 0 by omega), if_neg (show ¬ ((n : Nat) : Int) ≥ 2 ^ 63 by omega)]
    exact wpAny_bind (wpAny_mkInt (wpAny_pure ⟨_, rfl, .int n, H', I'.tok _, ⟨_, rfl⟩, q'⟩))
/-! ### C.m(k = v, ..), m a classmethod of the class C -/
def tCMethK (C : Addr) (sp : Sp) (gV : List V → List V → List V) (ta : TE) (tk : TA) : TE := fun σ H Q => ta σ H fun x H1 => x = .ref C ∧ tk σ H1 fun zs H2 => sp (gV [.ref C] zs) H2 Q E0
section
variable {X : Cx} {k : Nat} {C p g : Addr} {mc : Value} {sp : Sp} {o : Expr} {kws : List Keyword} {m : Str} {pos apos : Pos} {ta : TE} {tk : TA} {fd : FuncData} {ps ks : List Str}
theorem pe_cmethK {pl : Sem Bool} {gv : List Value → List Value → List Value} {hV : List V → List V → List V} (he : PE X o ta) (r : ClX.CRead X.K C mc) (c : ClX.CMet X.K C mc m p g) (F : FnOk X.prog X.w X.K X.mg X.base CX0 k g fd ps sp) (hr : Room k X.A) (hb : KBinds X.K fd ps ks gv hV) (hkw : PK X kws tk)
    (hall : (backToKw pos (keywordEach kws X.env)).all (·.1.isSome) = true := by rfl) (hks : (backToKw pos (keywordEach kws X.env)).filterMap (·.1) = ks := by rfl) (hpl : ((backTo pos (starEach [] X.env)).any (·.1) || (backToKw pos (keywordEach kws X.env)).any (·.1.isNone)) = false := by rfl)
    (ht : eval (.Call (.Attribute o m apos) [] kws pos) X.env = (eval o X.env >>= fun ov => standAt apos.atName >>= fun _ => holding [ov] (getMethod ov m pl) >>= fun q => callWith pos q.1 q.2 (backTo pos (starEach [] X.env)) (backToKw pos (keywordEach kws X.env))) := by rfl) :
    PE X (.Call (.Attribute o m apos) [] kws pos) (tCMethK C sp hV ta tk) := by
  refine ⟨fun pins s σ H Q I h => ?_⟩
  refine PySem.W.methodCall_KW (pl := pl) (thn (he.run pins s σ H _ I h) fun u s1 ⟨x, H1, I1, rx, ex, q⟩ => ?_) ht
  subst ex
  obtain rfl : u = Value.ref C := rx
  refine ClX.getmethcm_ok I1 r c fun s2 I2 => ?_
  refine PySem.W.callWith_of hpl (PySem.W.keeps_M c.fi) (evalArgs_kw2_nil hall (thn (hkw.run pos _ s2 σ H1 _ I2 q) fun ws s3 ⟨zs, H2, I3, rz, q2⟩ => ⟨⟨ClX.pin_at I3, I3.kIn⟩, ?_⟩))
  rw [hks]
  have r2 := hb.rel (us := [.ref C]) (vs := [.ref C]) (.cons rfl .nil) rz
  have hl := F.len _ _ _ _ q2
  have z : wpAny (model X.prog X.w) X.A (call (.ref s1.heap.objs.size) ([] ++ []) (ks.zip ws)) (EP X ((s1.heap.objs.size, PySem.W.methodObj (.ref g) (.ref C)) :: pins) σ Q) X.xe s3 := by
    refine wpAny_call (PySem.W.method_call (ClX.pin_at I3) (codeAny_mono (F.run X.A X.stack s3 H2 ⟨[.ref C], ks.zip ws⟩ (gv [.ref C] ws) _ Q E0 hr I3.env0 (hb.to s3 [.ref C] ws I3.kIn (by rw [← r2.length]; exact hl)) r2 q2) fun res s' hq => ?_))
    match res, hq with
    | .ok (.ret u), hq => exact I3.after hq
  exact thn z fun _ _ y => ClX.unpinE y
end
section
variable {X : Cx} {k : Nat} {C p g : Addr} {mc : Value} {sp : Sp} {o e : Expr} {es : List Expr} {m : Str} {pos apos : Pos} {ta : TE} {t : TA} {fd : FuncData} {ps : List Str}
theorem pe_cmethO {pl : Sem Bool} (he : PE X o ta) (r : ClX.CRead X.K C mc) (c : ClX.CMet X.K C mc m p g) (F : FnOk X.prog X.w X.K X.mg X.base CX0 k g fd ps sp) (hr : Room k X.A) (hb : Binds X.K fd ps []) (ha : PA X (e :: es) t)
    (hst : starEach (e :: es) X.env = (false, eval e X.env) :: starEach es X.env := by rfl) (hpl : (backTo pos (starEach es X.env)).any (·.1) = false := by rfl)
    (ht : eval (.Call (.Attribute o m apos) (e :: es) [] pos) X.env = (do
      let ov ← eval o X.env
      standAt apos.atName
      let (f, first) ← holding [ov] (getMethod ov m pl)
      callWith pos f first (backTo pos (starEach (e :: es) X.env)) (backToKw pos (keywordEach [] X.env))) := by rfl) :
    PE X (.Call (.Attribute o m apos) (e :: es) [] pos) (ClX.tCMeth C sp E0 ta t) :=
  ClX.pe_cmeth he r c ((F.raw hb .nil).imp fun vs H Q E h => by rw [List.append_nil]; exact h) hr pass0 ha hst hpl ht
end
abbrev sWMd : Stmt := sMade
abbrev sWVw : Stmt := inClass (top 12) 9
section
variable {P : Program} {w : World} {K : PySem.W.Frag} {mg : Str → Option Value} {base : Heap}
abbrev NWVw : List Str := ["self", "prefix", "value"]
theorem scWVw : FnScope NWVw ["self", "prefix", "value"] (defScope sWVw) := ⟨rfl, rfl, rfl, by decide +kernel, rfl, by decide +kernel, by decide +kernel⟩
set_option maxHeartbeats 8000000 in
theorem ok_WVw {f fI fWMd pWMd CW : Addr} {fd fdI : FuncData} {k : Nat} (F : Fun K "with_row" "PrefixMap.with_row" sWVw f fd)
    (clW : Cls K CW)
    (nW_width : NoAttr K CW "_width")
    (GI : FnOk P w K mg base CX0 k fI fdI ["thing", "width"] (spPfx K))
    (FI : Fun K "is_prefix" "is_prefix" sI fI fdI) (bI : Binds K fdI ["thing", "width"] []) (gI : mg "is_prefix" = some (.ref fI))
    (GWMd : FnR P w K mg base CX0 k fWMd (spMadeW K CW))
    (CWMd_ : ClX.CInst K CW "_made" pWMd fWMd)
    (nW_rows : NoAttr K CW "_rows")
    : FnOk P w K mg base CX0 (k + 1) f fd ["self", "prefix", "value"] (spWithW K CW) := by
  refine F.ok scWVw (fun vs H Q E h => ?_) (fun cdv A outer s H vs Q E hr h => ?_)
  · obtain ⟨x, e, w, rows, y, a, l, rfl, _⟩ := h
    rfl
  · obtain ⟨x, e, w, rows, y, a, l, rfl, hw, ok, w1, w32, hb, hy, hin, okl, few, q⟩ := h
    have nd := scWVw.nd
    have hu := hr.units
    have hu1 := hu_of hr
    have hr1 := hr
    refine ⟨_, pss_cons (ps_if (pt_not (pt_val (pe_call GI hr1 (by rfl) gI FI.kp bI .nil pass0 (pa_cons (pv 1) (pa_cons (pe_fld (pv 0) rfl) pa_nil)))))
        (pss_one ps_never) pss_nil)
      (pss_one (ps_ret (ClX.pe_imethD (pv 0) CWMd_ GWMd hr1 pass0 (pa_cons (pe_fld (pv 0) rfl) (pa_cons (pe_dst (pe_fld (pv 0) rfl) (pv 1) (pv 2)) pa_nil))))), ?_⟩
    obtain ⟨⟨dx, hx⟩, kvs, he, hv⟩ := hw
    refine ⟨.str y, rfl, .ref x, rfl, x, CW, dx, _, _, rfl, hx, clW, nW_width, flds_w _ _, .str y, w, rfl, TyS.of (N := fun _ => True) (.str y), fun z e => by rw [← V.str.inj e]; exact big_of (by omega), _, rfl, ?_⟩
    have ep : isPfx (.str y) (w : Int) = true := by
      show (decide ((y.length : Int) ≤ w) && isBits y) = true
      rw [decide_eq_true (by omega), hb]
      rfl
    rw [ep]
    refine iteF ?_
    have kn : (kvs.map (·.1)).Nodup := by
      rw [hv.keys]
      exact ok.pfx.nd.map Sum.inr (fun a b h e => h (Sum.inr.inj e))
    have kl := rows_len2 hv.keys
    refine ⟨.ref x, rfl, x, dx, _, rfl, hx, flds_no _ _ (by decide +kernel) (by decide +kernel), .ref x, rfl, x, CW, dx, _, _, rfl, hx, clW, nW_width, flds_w _ _, fun p np => ?_⟩
    have s1 := same_upd (o := .dK []) np
    have ne : e ≠ p := ne_of_none he np
    refine ⟨.ref x, rfl, x, CW, dx, _, _, rfl, s1 _ _ hx, clW, nW_rows, flds_r _ _, e, kvs, rfl, .inl (s1 _ _ he), ne, upd_same, kn, by omega, fun q2 nq => ?_⟩
    rw [upd_upd] at nq ⊢
    obtain ⟨q2p, nq2⟩ := upd_free nq
    refine ⟨.str y, rfl, .ref a, rfl, .inr y, rfl, by rw [upd_ne q2p.symm, upd_same], upd_same, ?_⟩
    have s2 : Same H (upd (upd (upd (upd H p (.dK kvs)) q2 (.dK [])) q2 (.dK [(.inr y, .ref a)])) p (.dK (putK kvs (.inr y) (.ref a)))) := fun b o eb => by
      have bp := ne_of_none eb np
      have bq := ne_of_none eb nq2
      rw [upd_ne bp, upd_ne bq, upd_ne bq, upd_ne bp]
      exact eb
    have pl := putR_len rows y l
    exact ⟨p, w, _, putR rows y l, rfl, w1, w32, upd_same, paired_put (fun _ _ q => q.1) ⟨rfl, a, rfl, SqO.same s2 hin⟩ ((WVal.in hv).same s2), ok.put hb hy okl, by omega, q.later s2⟩
end
abbrev sWWo : Stmt := inClass (top 12) 10
section
variable {P : Program} {w : World} {K : PySem.W.Frag} {mg : Str → Option Value} {base : Heap}
abbrev NWWo : List Str := ["self", "prefix", "kept"]
theorem scWWo : FnScope NWWo ["self", "prefix"] (defScope sWWo) := ⟨rfl, rfl, rfl, by decide +kernel, rfl, by decide +kernel, by decide +kernel⟩
set_option maxHeartbeats 8000000 in
theorem ok_WWo {f fWMd pWMd CW : Addr} {fd : FuncData} {k : Nat} (F : Fun K "without" "PrefixMap.without" sWWo f fd)
    (clW : Cls K CW)
    (nW_rows : NoAttr K CW "_rows")
    (m_str : mg "str" = none)
    (m_isinstance : mg "isinstance" = none)
    (GWMd : FnR P w K mg base CX0 k fWMd (spMadeW K CW))
    (CWMd_ : ClX.CInst K CW "_made" pWMd fWMd)
    (nW_width : NoAttr K CW "_width")
    : FnOk P w K mg base CX0 (k + 1) f fd ["self", "prefix"] (spWithoutW K CW) := by
  refine F.ok scWWo (fun vs H Q E h => ?_) (fun cdv A outer s H vs Q E hr h => ?_)
  · obtain ⟨x, e, w, rows, y, rfl, _⟩ := h
    rfl
  · obtain ⟨x, e, w, rows, y, rfl, hw, ok, w1, w32, hy, few, q⟩ := h
    have nd := scWWo.nd
    have hu := hr.units
    have hu1 := hu_of hr
    have hr1 := hr
    refine ⟨_, pss_cons (ps_if (PW.pt (pw_or (pt_not (pt_val (pe_callB call_isi (by rfl) m_isinstance (by decide +kernel) (pa_cons (pv 1) (pa_cons (pe_bltn (v := .ty "str") (by rfl) m_str (by decide +kernel) rfl) pa_nil))))) (pw_or1 (pt_cmp (pc_dnotin hu1 (pv 1) (pe_fld (pv 0) rfl))))))
        (pss_one ps_never) pss_nil)
      (pss_one (ps_ret (ClX.pe_imethD (pv 0) CWMd_ GWMd hr1 pass0 (pa_cons (pe_fld (pv 0) rfl) (pa_cons (pe_lock (pe_dc (own := [("kept", 2)]) (g := gName 2) (tv := (tDGet (tFld K (tVar 0) "_rows") (tVar 2))) rfl nd (pi_keys (pe_fld (pv 0) rfl)) (blkOk_by (N := NWWo) (sc := defScope sWWo) (by decide +kernel)) (fun _ _ _ _ _ => pg_name (i := 2) nd rfl (.inl rfl)) (fun _ _ _ _ _ => pts_one (pt_cmpR op_ne (pv 2) (pv 1) (nomark _))) (fun _ _ _ _ _ => (pv 2)) (fun _ _ _ _ _ => (pe_dget hu1 (pe_fld (pv 0) rfl) (pv 2) (fun _ _ => rfl))))) pa_nil))))), ?_⟩
    obtain ⟨⟨dx, hx⟩, kvs, he, hv⟩ := hw
    have hkeys := hv.keys
    obtain ⟨t, ty, kt⟩ := TyS.of (K := K) (H := H) (N := fun _ => True) (.str y)
    have hk : (Sum.inr y : Key) ∈ kvs.map (·.1) := (inr_mem hkeys y).mpr hy
    refine ⟨.str y, rfl, .str y, .ty "str", .type t, .type "str", _, rfl, .ty _, ty, kt, _, rfl, iteF ?_⟩
    refine ⟨.str y, rfl, .ref x, rfl, x, CW, dx, _, _, rfl, hx, clW, nW_rows, flds_r _ _, e, _, rfl, DGet.k (k := .inr y) he, _, rfl, ?_⟩
    rw [show (valV kvs (.inr y)).isSome = true from valV_mem.mpr hk]
    refine iteF ?_
    have xe : x ≠ e := ne_of hx he (fun q => nomatch q)
    refine ⟨.ref x, rfl, x, dx, _, rfl, hx, flds_no _ _ (by decide +kernel) (by decide +kernel), .ref x, rfl, x, CW, dx, _, _, rfl, hx, clW, nW_width, flds_w _ _, e, .dK kvs, he, trivial, fun od => ?_⟩
    refine ⟨.ref x, rfl, x, CW, dx, _, _, rfl, by rw [upd_ne xe]; exact hx, clW, nW_rows, flds_r _ _, e, od, rfl, .inl ⟨kvs, upd_same, fun D nD => ?_⟩⟩
    obtain ⟨nDe, nDH⟩ := upd_free nD
    have kn : (kvs.map (·.1)).Nodup := by
      rw [hkeys]
      exact ok.pfx.nd.map Sum.inr (fun a b h e => h (Sum.inr.inj e))
    have kl := rows_len2 hkeys
    refine dc_it walk_keys (fun i H' => H' D = some (.dK ((kvs.take i).filter fun kv => decide (kv.1 ≠ .inr y))) ∧ H' e = some (.frz od (.dK kvs)) ∧ ∀ b o, b ≠ e → H b = some o → H' b = some o) ⟨by rw [upd_same]; rfl, by rw [upd_ne nDe.symm, upd_same], fun b o nb eb => by rw [upd_ne (ne_of_none eb nDH), upd_ne nb]; exact eb⟩ (fun _ _ _ h => h.2.1) ?_ ?_
    · rintro i v H1 H2 hi ⟨hD, he1, keep⟩ ⟨rfl, k, v', hkv, rfl⟩
      obtain ⟨z, hz, rfl⟩ := key_at hkeys hkv
      have et : kvs.take (i + 1) = kvs.take i ++ [(.inr z, v')] := by rw [List.take_add_one, hkv]; rfl
      refine ⟨rfl, .str z, rfl, .str y, rfl, rfl, _, rfl, ?_⟩
      by_cases hzy : z = y
      · subst hzy
        rw [decide_eq_true rfl]
        refine iteF ⟨?_, he1, keep⟩
        rw [et, List.filter_append, List.filter_cons_of_neg (by simp), List.filter_nil, List.append_nil]
        exact hD
      · rw [decide_eq_false (fun q => hzy (V.str.inj q))]
        refine iteT ?_
        have hvz : valV kvs (.inr z) = some v' := valV_some kn (List.mem_of_getElem? hkv)
        refine ⟨.str z, rfl, .ref x, rfl, x, CW, dx, _, _, rfl, keep _ _ xe hx, clW, nW_rows, flds_r _ _, .str z, rfl, e, v', rfl, .inl ⟨kvs, .inr z, .inr ⟨od, he1⟩, rfl, hvz.symm⟩, _, .inr z, rfl, hD, ?_, ?_, ?_, fun b o nb eb => ?_⟩
        · refine Nat.lt_of_le_of_lt (List.length_filter_le _ _) ?_
          rw [List.length_take]
          exact big_lt (by omega)
        · rw [upd_same, et, List.filter_append, List.filter_cons_of_pos (by simpa using hzy), List.filter_nil, putK_end]
          intro hm
          obtain ⟨pq, hp, eq⟩ := List.mem_map.mp hm
          have hp2 := (List.mem_filter.mp hp).1
          obtain ⟨j, hj, ej⟩ := List.mem_take_iff_getElem.mp hp2
          have kj : kvs[j]'(by omega) = pq := ej
          have hi2 := (List.getElem?_eq_some_iff.mp hkv)
          have a1 : (kvs.map (·.1))[j]'(by rw [List.length_map]; omega) = (kvs.map (·.1))[i]'(by rw [List.length_map]; exact hi2.1) := by
            rw [List.getElem_map, List.getElem_map, kj, eq, hi2.2]
          have := (List.getElem_inj kn).mp a1
          omega
        · rw [upd_ne nDe.symm]
          exact he1
        · rw [upd_ne (ne_of_none eb nDH)]
          exact keep b o nb eb
    · rintro H1 ⟨hD, he1, keep⟩
      rw [List.take_of_length_le (Nat.le_refl _)] at hD
      have s9 : Same H (upd H1 e (.dK kvs)) := fun b o eb => by
        by_cases hb : b = e
        · rw [hb, upd_same, ← he, ← hb, eb]
        · rw [upd_ne hb]
          exact keep b o hb eb
      exact ⟨he1, D, w, _, _, rfl, w1, w32, by rw [upd_ne nDe]; exact hD, paired_filt (fun _ _ q => q.1) y ((WVal.in hv).same s9), ok.filt y, by have := List.length_filter_le (fun r : Str × List (Option Str) => decide (r.1 ≠ y)) rows; omega, q.later s9⟩
end
abbrev sR : Stmt := sRows
abbrev sWidthP : Stmt := inClass sCls 3
abbrev sLenM : Stmt := inClass sCls 5
/-- .width; len() -/
def spWidthP (C : Addr) : Sp := fun vs H Q _ => ∃ (x e : Addr) (w : Nat) (kvs : List (Key × V)), vs = [.ref x] ∧ MapAt C H x e w kvs ∧ Q (.int w) H
def spLenM (C : Addr) : Sp := fun vs H Q _ => ∃ (x e : Addr) (w : Nat) (kvs : List (Key × V)), vs = [.ref x] ∧ MapAt C H x e w kvs ∧ Q (.int (kvs.length : Nat)) H
section
variable {P : Program} {w : World} {K : PySem.W.Frag} {mg : Str → Option Value} {base : Heap}
theorem scWidthP : FnScope ["self"] ["self"] (defScope sWidthP) := ⟨rfl, rfl, rfl, by decide +kernel, rfl, by decide +kernel, by decide +kernel⟩
theorem ok_widthP {f C : Addr} {fd : FuncData} {k : Nat} (F : Fun K "width" "PrefixMap.width" sWidthP f fd) (T : ClsF K C) : FnOk P w K mg base CX0 (k + 1) f fd ["self"] (spWidthP C) := by
  refine F.ok scWidthP (fun vs H Q E h => ?_) (fun cdv A outer s H vs Q E hr h => ?_)
  · obtain ⟨x, e, w, kvs, rfl, _⟩ := h
    rfl
  · obtain ⟨x, e, w, kvs, rfl, ⟨⟨dx, hx⟩, he⟩, q⟩ := h
    exact ⟨_, pss_one (ps_ret (pe_fld (pv 0) rfl)), .ref x, rfl, x, C, dx, _, _, rfl, hx, T.cl, T.nW, flds_w _ _, q⟩
theorem scLenM : FnScope ["self"] ["self"] (defScope sLenM) := ⟨rfl, rfl, rfl, by decide +kernel, rfl, by decide +kernel, by decide +kernel⟩
theorem ok_lenM {f C : Addr} {fd : FuncData} {k : Nat} (F : Fun K "__len__" "PrefixMap.__len__" sLenM f fd) (T : ClsF K C) (ml : mg "len" = none) : FnOk P w K mg base CX0 (k + 1) f fd ["self"] (spLenM C) := by
  refine F.ok scLenM (fun vs H Q E h => ?_) (fun cdv A outer s H vs Q E hr h => ?_)
  · obtain ⟨x, e, w, kvs, rfl, _⟩ := h
    rfl
  · obtain ⟨x, e, w, kvs, rfl, ⟨⟨dx, hx⟩, he⟩, q⟩ := h
    exact ⟨_, pss_one (ps_ret (pe_callB call_lenD (by rfl) ml PySem.boot_len (pa_cons (pe_fld (pv 0) rfl) pa_nil))), .ref x, rfl, x, C, dx, _, _, rfl, hx, T.cl, T.nR, flds_r _ _, e, kvs, rfl, he, q⟩
end
abbrev sPw : Stmt := sWidthP
abbrev sWLn : Stmt := sLenM
abbrev sWk : Stmt := sWalk
theorem mt_dclear {X : Cx} : MtR X "dict.clear" (fun x vs H Q => ∃ (a : Addr) (kvs : List (Key × V)), x = .ref a ∧ vs = [] ∧ H a = some (.dK kvs) ∧ Q .non (upd H a (.dK []))) := by
  intro pins s σ H x xs v us Q I rx rs h
  obtain ⟨a, kvs, rfl, rfl, ha, q⟩ := h
  cases rs
  cases rx
  exact d_clear I ha fun s' J => ⟨.non, _, J, rfl, q⟩
theorem rows_len {w : Nat} {vok : V → Prop} {xs : List Str} {kvs : List (Key × V)} (ok : RowsOk w vok xs kvs) : kvs.length = xs.length := by
  have := congrArg List.length ok.keys
  rw [List.length_map, List.length_map] at this
  exact this
abbrev sWEq : Stmt := sEq

/-! ### what the laws want -/
def five : List (Option Str) := [some "b", none, some "ab", some "any", some "a"]
theorem five_ok : OkL isT five := ⟨by decide +kernel, fun o ho => by
  have h : ∀ o ∈ five, (match o with | none => true | some x => isT x) = true := by decide +kernel
  have := h o ho
  cases o with
  | none => trivial
  | some x => exact this, by decide +kernel⟩
theorem five_sub {l : List (Option Str)} (h : l.Sublist five) : OkL isT l := ⟨five_ok.nd.sublist h, fun o ho => five_ok.tg o (h.subset ho), Nat.le_trans h.length_le five_ok.few⟩
theorem a_ok : OkL isT [some "a"] := ⟨List.nodup_cons.mpr ⟨List.not_mem_nil, List.nodup_nil⟩, fun o ho => by rw [List.mem_singleton.mp ho]; show isT "a" = true; decide +kernel, by show 1 ≤ 40; decide⟩
/-- the lists that a law wants: none of them the pen -/
def LVal (p : Addr) (H : Hp) (kvs : List (Key × V)) (rows : WRows) : Prop := Paired (fun kv r => kv.1 = Sum.inr r.1 ∧ ∃ a, kv.2 = .ref a ∧ H a = some (.lst (r.2.map optV)) ∧ a ≠ p) kvs rows
theorem LVal.in {K : PySem.W.Frag} {p : Addr} {H : Hp} {kvs : List (Key × V)} {rows : WRows} (h : LVal p H kvs rows) : InVal K H kvs rows := h.mono fun _ _ ⟨e, a, e2, ha, _⟩ => ⟨e, a, e2, .inl (SqL.of ha)⟩
theorem LVal.but {p : Addr} {H H' : Hp} {kvs : List (Key × V)} {rows : WRows} (k : But p H H') (h : LVal p H kvs rows) : LVal p H' kvs rows := h.mono fun _ _ ⟨e, a, e2, ha, n⟩ => ⟨e, a, e2, k _ _ n ha, n⟩
theorem LVal.same {p : Addr} {H H' : Hp} {kvs : List (Key × V)} {rows : WRows} (k : Same H H') (h : LVal p H kvs rows) : LVal p H' kvs rows := h.but (.of_same k)
theorem LVal.keys {p : Addr} {H : Hp} {kvs : List (Key × V)} {rows : WRows} (h : LVal p H kvs rows) : kvs.map (·.1) = (rows.map (·.1)).map Sum.inr := paired_keys (fun _ _ q => q.1) h
theorem LVal.at {p : Addr} {H : Hp} {kvs : List (Key × V)} {rows : WRows} (h : LVal p H kvs rows) {y : Str} (hy : y ∈ rows.map (·.1)) : ∃ a, valV kvs (.inr y) = some (.ref a) ∧ H a = some (.lst ((look rows y).map optV)) := by
  obtain ⟨v, h1, _, a, e, h2, _⟩ := paired_at (fun _ _ q => q.1) h hy
  have e' : v = .ref a := e
  exact ⟨a, by rw [h1, e'], h2⟩
def spWanted : Sp := fun vs H Q _ => ∃ (p c : Addr) (n z most : Nat) (m : List V), vs = [.ref p, .int z, .int most] ∧ Pen H p c n m ∧ n + 2000 ≤ PB ∧ z ≤ 32 ∧ most ≤ 20 ∧
  ∀ (d : Addr) (kvs : List (Key × V)) (rows : WRows) (H' : Hp), But p H H' → H d = none → H' d = some (.dK kvs) → LVal p H' kvs rows → RowsW isT z rows → rows.length ≤ most → Pen H' p c (n + 400) m → Q (.ref d) H'
def spSortedO (K : PySem.W.Frag) : Sp := fun vs H Q _ => ∃ (a : Addr) (l : List (Option Str)), vs = [.ref a] ∧ SqL K H a (l.map optV) ∧ OkL isT l ∧ ∀ (t : Addr) (H' : Hp), Same H H' → H t = none → H' t = some (.tup ((ascO l).map optV)) → Q (.ref t) H'
theorem filt_none {l : List (Option Str)} (nd : l.Nodup) : l.filter (fun o => decide (o = none)) = if none ∈ l then [none] else [] := by
  induction l with
  | nil => rfl
  | cons o r ih =>
    obtain ⟨h1, h2⟩ := List.nodup_cons.mp nd
    cases o with
    | none =>
      rw [List.filter_cons_of_pos (by rfl), ih h2, if_neg h1, if_pos List.mem_cons_self]
    | some x =>
      rw [List.filter_cons_of_neg (by simp), ih h2]
      by_cases h : none ∈ r
      · rw [if_pos h, if_pos (List.mem_cons_of_mem _ h)]
      · have h' : ¬ none ∈ some x :: r := fun q => by
          rcases List.mem_cons.mp q with e | q
          · cases e
          · exact h q
        rw [if_neg h, if_neg h']
theorem eqv_nilO (l : List (Option Str)) : PyData.eqv (.list (l.map optD)) (.list []) = decide (l = []) := by
  cases l with
  | nil => rfl
  | cons x r => rfl
theorem shaped_optL {l : List (Option Str)} (h : ∀ x, some x ∈ l → lowS x) : SeqAt.shaped (.list (l.map optD)) = true := by
  have := depth_opt l
  unfold SeqAt.shaped
  rw [Bool.and_eq_true]
  refine ⟨by simp only [PyData.canLay0]; exact lay_opt l h, decide_eq_true ?_⟩
  simp only [PyData.depth]
  omega
abbrev sWa : Stmt := top 26
section
variable {P : Program} {w : World} {K : PySem.W.Frag} {mg : Str → Option Value} {base : Heap}
abbrev NWa : List Str := ["pen", "size", "most", "found", "prefix", "some", "one"]
theorem scWa : FnScope NWa ["pen", "size", "most"] (defScope sWa) := ⟨rfl, rfl, rfl, by decide +kernel, rfl, by decide +kernel, by decide +kernel⟩
set_option maxHeartbeats 8000000 in
theorem ok_Wa {f fX fDr : Addr} {fd fdX fdDr : FuncData} {k : Nat} (F : Fun K "_law_wanted" "_law_wanted" sWa f fd)
    (GX : FnOk P w K mg base CX0 k fX fdX ["pen", "size", "most"] spPrefixes)
    (FX : Fun K "_law_prefixes" "_law_prefixes" sX fX fdX) (bX : Binds K fdX ["pen", "size", "most"] []) (gX : mg "_law_prefixes" = some (.ref fX))
    (GDr : FnOk P w K mg base CX0 k fDr fdDr ["pen", "below"] spDraw)
    (FDr : Fun K "_law_draw" "_law_draw" sDr fDr fdDr) (bDr : Binds K fdDr ["pen", "below"] []) (gDr : mg "_law_draw" = some (.ref fDr))
    : FnOk P w K mg base CX0 (k + 1) f fd ["pen", "size", "most"] spWanted := by
  refine F.ok scWa (fun vs H Q E h => ?_) (fun cdv A outer s H vs Q E hr h => ?_)
  · obtain ⟨p, c, n, z, most, m, rfl, _⟩ := h
    rfl
  · obtain ⟨p, c, n, z, most, m, rfl, hp, hn, hz, hm, q⟩ := h
    have nd := scWa.nd
    have hu := hr.units
    have hu1 := hu_of hr
    have hr1 := hr
    refine ⟨_, pss_cons (ps_set (i := 3) nd rfl (.inl rfl) pe_dnewK)
      (pss_cons (ps_for PassesOwn.never rfl (pi_list (pe_call GX hr1 (by rfl) gX FX.kp bX .nil pass0 (pa_cons (pv 0) (pa_cons (pv 1) (pa_cons (pv 2) pa_nil))))) (pg_name (i := 4) nd rfl (.inl rfl))
        (C8.pss_cut (ps_setLc (i := 5) (own := [("one", 6)]) (g := gName 6) rfl nd rfl rfl (sw_true rfl rfl rfl (by decide +kernel)) (pi_list (pe_lst (pa_cons pe_str (pa_cons pe_non (pa_cons pe_str (pa_cons pe_str (pa_cons pe_str pa_nil))))))) (blkOk_by (N := NWa) (sc := defScope sWa) (by decide +kernel)) (fun _ _ _ _ _ => pg_name (i := 6) nd rfl (.inl rfl)) (fun _ _ _ _ _ => pts_one (pt_cmpR op_eq (pe_call GDr hr1 (by rfl) gDr FDr.kp bDr .nil pass0 (pa_cons (pv 0) (pa_cons pe_int pa_nil))) pe_int (nomark _))) (fun _ _ _ _ _ => (pv 6)))
        (pss_one (ps_dput hu1 (pv 3) (pv 4) (pe_ifExp (PW.pt (pw_or (pt_cmpR (op_neD hu) (pv 5) (pe_lst pa_nil) (nomark _)) (pw_or1 (pt_cmpR op_eq (pe_call GDr hr1 (by rfl) gDr FDr.kp bDr .nil pass0 (pa_cons (pv 0) (pa_cons pe_int pa_nil))) pe_int (nomark _))))) (pv 5) (pe_lst (pa_cons pe_str pa_nil))) rfl))))
      (pss_one (ps_ret (pv 3)))), ?_⟩
    have hnB : n + 2000 ≤ 1000000000000 := hn
    intro d nd0
    have s0 := same_upd (o := .dK []) nd0
    have dp : d ≠ p := hp.ne_p nd0
    refine ⟨.ref p, rfl, .int z, rfl, .int most, rfl, p, c, n, z, most, m, rfl, hp.keep s0, by show n + 1000 ≤ 1000000000000; omega, hz, hm, fun l xs H1 b1 p1 nl hl ok lx => ?_⟩
    have lp : l ≠ p := (hp.keep s0).ne_p nl
    have ld : l ≠ d := (upd_free nl).1
    have b01 : But p H H1 := (But.of_same s0).trans b1
    have hd1 := b1 _ _ dp (upd_same (H := H) (a := d) (o := .dK []))
    refine ⟨l, rfl, ⟨_, SqL.of hl⟩, for_list (K := K) (a := l) (xs := xs.map V.str) (fun i σ H' => ∃ (x5 x7 : Option V) (kvs : List (Key × V)) (rows : WRows), σ = [some (.ref p), some (.int z), some (.int most), some (.ref d), x5, x7, none] ∧ H' d = some (.dK kvs) ∧ LVal p H' kvs rows ∧ rows.map (·.1) = xs.take i ∧ (∀ r ∈ rows, OkL isT r.2) ∧ H' l = some (.lst (xs.map V.str)) ∧ But p H H' ∧ Pen H' p c (n + 1 + 8 * most + 10 * i) m) ⟨_, _, [], [], rfl, hd1, .nil, rfl, fun _ h => absurd h List.not_mem_nil, hl, b01, p1⟩ (fun i σ H' _ h => by obtain ⟨_, _, _, _, _, _, _, _, _, hl, _⟩ := h; exact SqL.of hl) ?_ ?_⟩
    · rintro i v σ H2 hv ⟨x5, x7, kvs, rows, rfl, hd, hin, hk, okr, hl2, b2, p2⟩
      rw [List.getElem?_map] at hv
      obtain ⟨y, hy, rfl⟩ := Option.map_eq_some_iff.mp hv
      have hil := (List.getElem?_eq_some_iff.mp hy).1
      have et : xs.take (i + 1) = xs.take i ++ [y] := by rw [List.take_add_one, hy]; rfl
      -- some
      refine ⟨fun σ H' => ∃ (D : Addr) (ls : List (Option Str)), σ = [some (.ref p), some (.int z), some (.int most), some (.ref d), some (.str y), some (.ref D), none] ∧ H' D = some (.lst (ls.map optV)) ∧ ls.Sublist five ∧ D ≠ p ∧ But p H2 H' ∧ Pen H' p c (n + 1 + 8 * most + 10 * i + 5) m, ?_, ?_⟩
      · refine ⟨by show 5 ≤ sizeLine; decide, fun L nL => ?_⟩
        have s3 := same_upd (o := .lst (five.map optV)) nL
        have hL : (upd H2 L (.lst (five.map optV))) L = some (.lst (five.map optV)) := upd_same
        have Lp : L ≠ p := p2.ne_p nL
        refine ⟨L, rfl, ⟨_, SqL.of hL⟩, fun D nD => ?_⟩
        have Dp := (p2.keep s3).ne_p nD
        have Dc := (p2.keep s3).ne_c nD
        have DL : D ≠ L := (upd_free nD).1
        refine lc_it (walk_list (xs := five.map optV)) (fun j H' => ∃ ls : List (Option Str), ls.Sublist (five.take j) ∧ H' D = some (.lst (ls.map optV)) ∧ H' L = some (.lst (five.map optV)) ∧ But p H2 H' ∧ Pen H' p c (n + 1 + 8 * most + 10 * i + j) m) ⟨[], List.nil_sublist _, upd_same, by rw [upd_ne DL.symm]; exact hL, (But.of_same s3).trans (.of_same (same_upd nD)), (p2.keep s3).off Dp Dc⟩
          (fun _ H' _ h => by obtain ⟨_, _, _, k, _⟩ := h; exact SqL.of k) ?_ ?_
        · rintro j u H4 H5 hj ⟨ls, sub, hD, hL5, b5, p5⟩ ⟨rfl, hu⟩
          rw [List.getElem?_map] at hu
          obtain ⟨o, ho, rfl⟩ := Option.map_eq_some_iff.mp hu
          have e5 : five.take (j + 1) = five.take j ++ [o] := by rw [List.take_add_one, ho]; rfl
          have hj5 : j < 5 := hj
          refine ⟨rfl, .ref p, rfl, p, c, _, m, 2, rfl, p5, by show n + 1 + 8 * most + 10 * i + j ≤ 1000000000000; omega, by decide, by decide, fun e H6 e0 e1 b6 p6 => ?_⟩
          have hD6 := b6 _ _ Dp hD
          have hL6 := b6 _ _ Lp hL5
          refine ⟨rfl, _, rfl, ?_⟩
          refine ite2 (fun _ => ?_) (fun _ => ⟨ls, sub.trans (by rw [e5]; exact List.sublist_append_left _ _), hD6, hL6, b5.trans b6, p6⟩)
          have few := sub.length_le
          rw [List.length_take] at few
          refine ⟨optV o, by cases o <;> rfl, _, hD6, big_lt (by rw [List.length_map]; omega), ls ++ [o], by rw [e5]; exact sub.append (List.Sublist.refl _), by rw [upd_same, List.map_append]; rfl, by rw [upd_ne DL.symm]; exact hL6, fun a o na ha => ?_, p6.off Dp Dc⟩
          have hne : a ≠ D := ne_of_none (s3 _ _ ha) nD
          rw [upd_ne hne]
          exact b6 _ _ na (b5 _ _ na ha)
        · rintro H4 ⟨ls, sub, hD, hL4, b4, p4⟩
          exact ⟨D, ls, rfl, hD, sub, Dp, b4, p4⟩
      · rintro σ H4 ⟨D, ls, rfl, hD, sub, Dp, b4, p4⟩
        have okl := five_sub sub
        have hd4 := b4 _ _ dp hd
        have in4 := hin.but b4
        have hl4 := b4 _ _ lp hl2
        have b04 := b2.trans b4
        have kl : kvs.length = rows.length := rows_len2 hin.keys
        have rl : rows.length = i := by
          have := congrArg List.length hk
          rw [List.length_map, List.length_take] at this
          omega
        have hnew : (Sum.inr y : Key) ∉ kvs.map (·.1) := by
          rw [hin.keys, hk, List.mem_map]
          rintro ⟨z, hz, e⟩
          obtain ⟨j, hj, ej⟩ := List.mem_take_iff_getElem.mp hz
          have hi2 := List.getElem?_eq_some_iff.mp hy
          have e2 : xs[j]'(by omega) = xs[i]'hi2.1 := by rw [ej, hi2.2]; exact Sum.inr.inj e
          have := (List.getElem_inj ok.nd).mp e2
          omega
        have fin : ∀ (H' : Hp) (a : Addr) (l2 : List (Option Str)), But p H4 H' → Pen H' p c (n + 1 + 8 * most + 10 * (i + 1)) m → H' a = some (.lst (l2.map optV)) → a ≠ p → OkL isT l2 → ∃ (x5 x7 : Option V) (kvs' : List (Key × V)) (rows' : WRows), [some (.ref p), some (.int z), some (.int most), some (.ref d), some (.str y), some (.ref D), none] = [some (.ref p), some (.int z), some (.int most), some (.ref d), x5, x7, none] ∧ (upd H' d (.dK (putK kvs (.inr y) (.ref a)))) d = some (.dK kvs') ∧ LVal p (upd H' d (.dK (putK kvs (.inr y) (.ref a)))) kvs' rows' ∧ rows'.map (·.1) = xs.take (i + 1) ∧ (∀ r ∈ rows', OkL isT r.2) ∧ (upd H' d (.dK (putK kvs (.inr y) (.ref a)))) l = some (.lst (xs.map V.str)) ∧ But p H (upd H' d (.dK (putK kvs (.inr y) (.ref a)))) ∧ Pen (upd H' d (.dK (putK kvs (.inr y) (.ref a)))) p c (n + 1 + 8 * most + 10 * (i + 1)) m := fun H' a l2 b' p' ha nap okl2 => by
          have hd' := b' _ _ dp hd4
          have keep : ∀ b o, b ≠ d → H' b = some o → (upd H' d (.dK (putK kvs (.inr y) (.ref a)))) b = some o := fun b o nb e => by rw [upd_ne nb]; exact e
          refine ⟨_, _, kvs ++ [(.inr y, .ref a)], rows ++ [(y, l2)], rfl, by rw [upd_same, putK_end hnew], paired_app ((in4.but b').mono fun _ _ ⟨e, a, e2, ha, n⟩ => ⟨e, a, e2, keep _ _ (ne_of ha hd' (fun z => nomatch z)) ha, n⟩) (.cons ⟨rfl, a, rfl, keep _ _ (ne_of ha hd' (fun z => nomatch z)) ha, nap⟩ .nil), by rw [List.map_append, hk, et]; rfl, fun r hr => ?_, keep _ _ ld (b' _ _ lp hl4), fun b o nb e => ?_, ?_⟩
          · rcases List.mem_append.mp hr with hr | hr
            · exact okr r hr
            · rw [List.mem_singleton.mp hr]
              exact okl2
          · have hne : b ≠ d := ne_of_none e nd0
            exact keep _ _ hne (b' _ _ nb (b04 _ _ nb e))
          · obtain ⟨ns', i', s', P⟩ := id p'
            exact p'.off dp (ne_of hd' P.cells (fun z => nomatch z))
        refine ⟨.ref D, rfl, Nat.zero_le _, fun E nE => ?_⟩
        have s5 := same_upd (o := .lst []) nE
        refine ⟨.list (ls.map optD), .list [], .lst (SqL.of (s5 _ _ hD)) (dpAll_opt _), .lst (SqL.of upd_same) .nil, shaped_optL okl.low, rfl, _, rfl, ?_⟩
        rw [eqv_nilO]
        have first : But p H4 (upd H4 E (.lst [])) := .of_same s5
        by_cases hz : ls = []
        · rw [decide_eq_true hz]
          refine iteF ⟨.ref p, rfl, p, c, _, m, 5, rfl, p4.keep s5, by show n + 1 + 8 * most + 10 * i + 5 ≤ 1000000000000; omega, by decide, by decide, fun e H6 e0 e1 b6 p6 => ⟨rfl, _, rfl, ?_⟩⟩
          have b46 := first.trans b6
          refine ite2 (fun _ => ?_) (fun _ => ?_)
          · exact ⟨.ref D, rfl, .ref d, rfl, .str y, rfl, d, _, rfl, DPut.k (k := .inr y) (b46 _ _ dp hd4) (big_lt (by omega)), fin H6 D ls b46 (p6.mono (by omega)) (b46 _ _ Dp hD) Dp okl⟩
          · refine ⟨by show 1 ≤ sizeLine; decide, fun G nG => ?_⟩
            have s7 := same_upd (o := .lst [.str "a"]) nG
            have b47 := b46.trans (.of_same s7)
            exact ⟨.ref d, rfl, .str y, rfl, d, _, rfl, DPut.k (k := .inr y) (b47 _ _ dp hd4) (big_lt (by omega)), fin _ G [some "a"] b47 ((p6.keep s7).mono (by omega)) upd_same (p6.ne_p nG) a_ok⟩
        · rw [decide_eq_false hz]
          exact iteT ⟨.ref D, rfl, .ref d, rfl, .str y, rfl, d, _, rfl, DPut.k (k := .inr y) (first _ _ dp hd4) (big_lt (by omega)), fin _ D ls first ((p4.keep s5).mono (by omega)) (first _ _ Dp hD) Dp okl⟩
    · rintro σ H2 ⟨x5, x7, kvs, rows, rfl, hd, hin, hk, okr, hl2, b2, p2⟩
      rw [List.length_map, List.take_of_length_le (Nat.le_refl _)] at hk
      have rl : rows.length = xs.length := by rw [← hk, List.length_map]
      refine ⟨.ref d, rfl, q d kvs rows H2 b2 nd0 hd hin ⟨by rw [hk]; exact ok, okr⟩ (by omega) (p2.mono (by rw [List.length_map]; omega))⟩
end
abbrev sSo : Stmt := top 27
section
variable {P : Program} {w : World} {K : PySem.W.Frag} {mg : Str → Option Value} {base : Heap}
abbrev NSo : List Str := ["some", "one"]
theorem scSo : FnScope NSo ["some"] (defScope sSo) := ⟨rfl, rfl, rfl, by decide +kernel, rfl, by decide +kernel, by decide +kernel⟩
set_option maxHeartbeats 8000000 in
theorem ok_So {f : Addr} {fd : FuncData} {k : Nat} (F : Fun K "_law_sorted" "_law_sorted" sSo f fd)
    (m_sorted : mg "sorted" = none)
    (m_tuple : mg "tuple" = none)
    : FnOk P w K mg base CX0 (k + 1) f fd ["some"] (spSortedO K) := by
  refine F.ok scSo (fun vs H Q E h => ?_) (fun cdv A outer s H vs Q E hr h => ?_)
  · obtain ⟨a, l, rfl, _⟩ := h
    rfl
  · obtain ⟨a, l, rfl, hl, ok, q⟩ := h
    have nd := scSo.nd
    have hu := hr.units
    have hu1 := hu_of hr
    have hr1 := hr
    refine ⟨_, pss_one (ps_ret (pe_callTy call_tuple_of (by rfl) m_tuple (by decide +kernel) (pa_cons (pe_op op_cat (pe_lc (own := [("one", 1)]) (g := gName 1) rfl nd (pi_list (pv 0)) (blkOk_by (N := NSo) (sc := defScope sSo) (by decide +kernel)) (fun _ _ _ _ _ => pg_name (i := 1) nd rfl (.inl rfl)) (fun _ _ _ _ _ => pts_one (pt_cmpR op_isN (pv 1) pe_non (nomark _))) (fun _ _ _ _ _ => (pv 1))) (pe_callB cr_sortedS (by rfl) m_sorted (by decide +kernel) (pa_cons (pe_lc (own := [("one", 1)]) (g := gName 1) rfl nd (pi_list (pv 0)) (blkOk_by (N := NSo) (sc := defScope sSo) (by decide +kernel)) (fun _ _ _ _ _ => pg_name (i := 1) nd rfl (.inl rfl)) (fun _ _ _ _ _ => pts_one (pt_cmpR op_notN (pv 1) pe_non (nomark _))) (fun _ _ _ _ _ => (pv 1))) pa_nil))) pa_nil))), ?_⟩
    have few := ok.few
    have fl := filt_len l
    refine ⟨.ref a, rfl, a, rfl, ⟨_, hl⟩, fun D nD => ?_⟩
    refine lc_it walk_list (fun i H' => H' D = some (.lst (((l.take i).filter fun o => decide (o = none)).map optV)) ∧ Same H H') ⟨upd_same, same_upd nD⟩ (fun _ _ _ h => h.2.seq hl) ?_ ?_
    · rintro i v H3 H4 hi ⟨hD, s4⟩ ⟨rfl, hv⟩
      rw [List.getElem?_map] at hv
      obtain ⟨o, ho, rfl⟩ := Option.map_eq_some_iff.mp hv
      have et : l.take (i + 1) = l.take i ++ [o] := by rw [List.take_add_one, ho]; rfl
      have hil := (List.getElem?_eq_some_iff.mp ho).1
      cases o with
      | none =>
        refine ⟨rfl, .non, rfl, rfl, _, rfl, iteT ⟨.non, rfl, _, hD, ?_, ?_, fun b o eb => ?_⟩⟩
        · refine big_lt ?_
          have := List.length_filter_le (fun o : Option Str => decide (o = none)) (l.take i)
          rw [List.length_take] at this
          rw [List.length_map]
          omega
        · rw [upd_same, et, List.filter_append, List.map_append]
          rfl
        · rw [upd_ne (ne_of_none eb nD)]
          exact s4 b o eb
      | some z =>
        refine ⟨rfl, .str z, rfl, rfl, _, rfl, iteF ⟨?_, s4⟩⟩
        rw [et, List.filter_append]
        show H4 D = some (.lst (((l.take i).filter (fun o => decide (o = none)) ++ []).map optV))
        rw [List.append_nil]
        exact hD
    · rintro H3 ⟨hD, s3⟩
      rw [List.length_map, List.take_of_length_le (Nat.le_refl _), filt_none ok.nd] at hD
      have hl3 := s3.seq hl
      refine ⟨.ref a, rfl, a, rfl, ⟨_, hl3⟩, fun D2 nD2 => ?_⟩
      refine lc_it walk_list (fun i H' => H' D2 = some (.lst (((l.take i).filterMap id).map V.str)) ∧ Same H3 H') ⟨upd_same, same_upd nD2⟩ (fun _ _ _ h => h.2.seq hl3) ?_ ?_
      · rintro i v H4 H5 hi ⟨hD2, s4⟩ ⟨rfl, hv⟩
        rw [List.getElem?_map] at hv
        obtain ⟨o, ho, rfl⟩ := Option.map_eq_some_iff.mp hv
        have et : l.take (i + 1) = l.take i ++ [o] := by rw [List.take_add_one, ho]; rfl
        have hil := (List.getElem?_eq_some_iff.mp ho).1
        cases o with
        | none =>
          refine ⟨rfl, .non, rfl, rfl, _, rfl, iteF ⟨?_, s4⟩⟩
          rw [et, List.filterMap_append]
          show H5 D2 = some (.lst (((l.take i).filterMap id ++ []).map V.str))
          rw [List.append_nil]
          exact hD2
        | some z =>
          refine ⟨rfl, .str z, rfl, rfl, _, rfl, iteT ⟨.str z, rfl, _, hD2, ?_, ?_, fun b o eb => ?_⟩⟩
          · refine big_lt ?_
            have := filt_len (l.take i)
            rw [List.length_take] at this
            rw [List.length_map]
            omega
          · rw [upd_same, et, List.filterMap_append, List.map_append]
            rfl
          · rw [upd_ne (ne_of_none eb nD2)]
            exact s4 b o eb
      · rintro H4 ⟨hD2, s4⟩
        rw [List.length_map, List.take_of_length_le (Nat.le_refl _)] at hD2
        refine ⟨D2, l.filterMap id, rfl, SqL.of hD2, by omega, fun ys N perm up nN => ?_⟩
        have s5 := same_upd (o := .lst (ys.map V.str)) nN
        have yl := perm.length_eq
        refine ⟨D, N, _, _, rfl, rfl, s5 _ _ (s4 _ _ hD), upd_same, big_of (by rw [List.length_map, List.length_map]; split <;> (show _ ≤ 1000; simp; omega)), fun M nM => ?_⟩
        have s6 := same_upd (o := .lst ((if none ∈ l then [none] else []).map optV ++ ys.map V.str)) nM
        refine ⟨M, _, rfl, .inl ⟨SqL.of upd_same, fun t nt => ?_⟩⟩
        have s7 := same_upd (o := .tup ((if none ∈ l then [none] else []).map optV ++ ys.map V.str)) nt
        have sA := s3.trans (s4.trans (s5.trans s6))
        refine q t _ (sA.trans s7) (sA.free nt) ?_
        rw [upd_same, asc_map perm up]
        congr 3
        split <;> rfl
end
theorem drAll_opt {K : PySem.W.Frag} {H : Hp} {N : Addr → Prop} : ∀ l : List (Option Str), DrAll K H N (l.map optV) (l.map optD)
  | [] => .nil
  | none :: r => .cons .non (drAll_opt r)
  | some x :: r => .cons (.str x) (drAll_opt r)
theorem ok_optD {l : List (Option Str)} (h : OkL isT l) : OkD 1 (40 * (82 + 2) + 3) (.tuple (l.map optD)) := by
  refine OkD.tuple (by rw [List.length_map]; exact h.few) fun d hd => ?_
  obtain ⟨o, ho, rfl⟩ := List.mem_map.mp hd
  cases o with
  | none => exact ⟨by decide +kernel, by decide +kernel, by decide +kernel⟩
  | some x =>
    obtain ⟨y, e, s⟩ := tgt_sm (v := .str x) (h.tg _ ho)
    rw [show optD (some x) = .str x from rfl, V.str.inj e]
    exact s.ok (by decide)
/-- the data of such a dict -/
def rowsW (rows : WRows) : List (PyData × PyData) := rows.map fun r => (.str r.1, .tuple (r.2.map optD))
theorem dr_rowsW {K : PySem.W.Frag} {H : Hp} : ∀ {kvs : List (Key × V)} {rows : WRows}, WVal H kvs rows → DrKv K H (fun _ => True) kvs (rowsW rows)
  | _, _, .nil => .nil
  | (k, v) :: kvs, r :: rows, .cons h t => by
    obtain ⟨e1, a, e2, ha⟩ := h
    have e1' : k = .inr r.1 := e1
    have e2' : v = .ref a := e2
    subst e1' e2'
    exact .cons (.tup trivial (SqT.of ha) (drAll_opt _)) (dr_rowsW t)
theorem ok_rowsW {w : Nat} {rows : WRows} (ok : RowsW isT w rows) (hw : w ≤ 32) (few : rows.length ≤ 60) : OkD 2 (60 * (322 + (40 * (82 + 2) + 3) + 4) + 2) (.dict (rowsW rows)) := by
  refine OkD.dict (by show (rows.map _).length ≤ 60; rw [List.length_map]; exact few) fun d hd => ?_
  obtain ⟨r, hr, rfl⟩ := List.mem_map.mp hd
  have hk : r.1 ∈ rows.map (·.1) := List.mem_map.mpr ⟨r, hr, rfl⟩
  have s : Sm 32 r.1 := ⟨Nat.le_trans (ok.pfx.len _ hk) hw, bits_sm (ok.pfx.bits _ hk)⟩
  exact ⟨(s.ok (by decide)).mono (by decide) (Nat.le_refl _), ok_optD (ok.ok r hr)⟩

theorem mergeK_nl {kv0 : List (Key × V)} (nd : (kv0.map (·.1)).Nodup) : mergeK [] kv0 = kv0 := (mergeK_nd kv0 [] (by rw [List.nil_append]; exact nd)).trans (List.nil_append _)
theorem lay_sm {n : Nat} {x : Str} (h : Sm n x) : PyData.canLay0 (.str x) = true := by
  simp only [PyData.canLay0]
  unfold PyData.strOk
  rw [Array.all_eq_true']
  intro c hc
  have := h.ch c (Array.mem_toList_iff.mpr hc)
  exact decide_eq_true (by omega)
theorem lay_all {ds : List PyData} (h : ∀ d ∈ ds, PyData.canLay0 d = true) : PyData.canLayAll0 ds = true := by
  induction ds with
  | nil => simp only [PyData.canLayAll0]
  | cons d ds ih =>
    simp only [PyData.canLayAll0]
    rw [h d List.mem_cons_self, ih fun x hx => h x (List.mem_cons_of_mem _ hx)]
    rfl
def itemsD (rows : WRows) : List PyData := rows.map fun r => .tuple [.str r.1, .tuple (r.2.map optD)]
theorem shaped_items {w : Nat} {rows : WRows} (ok : RowsW isT w rows) (hw : w ≤ 32) : SeqAt.shaped (.list (itemsD rows)) = true := by
  have bb : ∀ r ∈ rows, Sm 32 r.1 := fun r hr => by
    have hk : r.1 ∈ rows.map (·.1) := List.mem_map.mpr ⟨r, hr, rfl⟩
    exact ⟨Nat.le_trans (ok.pfx.len _ hk) hw, bits_sm (ok.pfx.bits _ hk)⟩
  unfold SeqAt.shaped itemsD
  rw [Bool.and_eq_true]
  refine ⟨?_, decide_eq_true ?_⟩
  · simp only [PyData.canLay0]
    refine lay_all fun d hd => ?_
    obtain ⟨r, hr, rfl⟩ := List.mem_map.mp hd
    simp only [PyData.canLay0]
    refine lay_all fun d hd => ?_
    simp only [List.mem_cons, List.not_mem_nil, or_false] at hd
    rcases hd with rfl | rfl
    · exact lay_sm (bb r hr)
    · simp only [PyData.canLay0]
      exact lay_opt _ (ok.ok r hr).low
  · have := depthAll_le (L := 2) (ds := rows.map fun r => PyData.tuple [.str r.1, .tuple (r.2.map optD)]) fun d hd => by
      obtain ⟨r, hr, rfl⟩ := List.mem_map.mp hd
      have := depth_opt r.2
      simp only [PyData.depth, PyData.depthAll]
      omega
    simp only [PyData.depth]
    omega
/-- a list of items of rows -/
theorem dp_items {K : PySem.W.Frag} {H : Hp} {ts : List Addr} {kvs : List (Key × V)} {rows : WRows} (h : Paired (fun t (kv : Key × V) => H t = some (.tup [kV kv.1, kv.2])) ts kvs) (wv : WVal H kvs rows) : DpAll K H (ts.map V.ref) (itemsD rows) := by
  induction h generalizing rows with
  | nil => cases wv; exact .nil
  | cons h1 _ ih =>
    cases wv with
    | cons w1 wr =>
      obtain ⟨e1, a, e2, ha⟩ := w1
      refine .cons (.tup (SqT.of h1) (.cons ?_ (.cons ?_ .nil))) (ih wr)
      · rw [e1]; exact .str _
      · rw [e2]; exact .tup (SqT.of ha) (dpAll_opt _)
def spRight (C : Addr) : Sp := fun vs H Q _ => ∃ (x e d p : Addr) (z : Nat) (kw : List (Key × V)) (ws : WRows), vs = [.ref x, .int z, .ref d] ∧ WishAt C H x e z (sortW ws) ∧ H d = some (.dK kw) ∧ LVal p H kw ws ∧ RowsW isT z ws ∧ z ≤ 32 ∧ ws.length ≤ 20 ∧ ∀ H', Same H H' → Q (.bl true) H'
abbrev sRi : Stmt := top 28
section
variable {P : Program} {w : World} {K : PySem.W.Frag} {mg : Str → Option Value} {base : Heap}
abbrev NRi : List Str := ["some", "size", "wanted", "due", "prefix", "again", "found"]
theorem scRi : FnScope NRi ["some", "size", "wanted"] (defScope sRi) := ⟨rfl, rfl, rfl, by decide +kernel, rfl, by decide +kernel, by decide +kernel⟩
set_option maxHeartbeats 8000000 in
theorem ok_Ri {f fSo fWR pWR fWLn fWPw pWPw fWk CW CD : Addr} {fd fdSo fdWR fdWLn fdWPw fdWk : FuncData} {k : Nat} (F : Fun K "_law_right" "_law_right" sRi f fd) (OCW : ObjC K CW) (kiD : PySem.W.kitOne K (.ref CW) (.ref CD) = some true) (kiW : PySem.W.kitOne K (.ref CW) (.ref CW) = some true) (sys : ∃ mm, base.Ns sysModules mm)
    (m_sorted : mg "sorted" = none)
    (GSo : FnOk P w K mg base CX0 k fSo fdSo ["some"] (spSortedO K))
    (FSo : Fun K "_law_sorted" "_law_sorted" sSo fSo fdSo) (bSo : Binds K fdSo ["some"] []) (gSo : mg "_law_sorted" = some (.ref fSo))
    (m_dict : mg "dict" = none)
    (m_range : mg "range" = none)
    (GWR : FnOk P w K mg base CX0 k fWR fdWR ["self"] (spRows CW))
    (PWR : PropOf K CW "rows" pWR fWR) (bWR : Binds K fdWR ["self"] [])
    (clW : Cls K CW)
    (GWLn : FnOk P w K mg base CX0 k fWLn fdWLn ["self"] (spLenM CW))
    (aWLn : PySem.W.findIn K (.ref CW) "__len__" = some (some (.ref fWLn))) (iWLn : PySem.W.isFn K (.ref fWLn) = true) (bWLn : Binds K fdWLn ["self"] [])
    (m_len : mg "len" = none)
    (GWPw : FnOk P w K mg base CX0 k fWPw fdWPw ["self"] (spWidthP CW))
    (PWPw : PropOf K CW "width" pWPw fWPw) (bWPw : Binds K fdWPw ["self"] [])
    (m_repr : mg "repr" = none)
    (GWk : GFn P w K mg base k fWk fdWk ["self"] (spWalk CW))
    (mtWk : Meth K CW "walk" fWk) (bWk : Binds K fdWk ["self"] [])
    (m_list : mg "list" = none)
    (gD : mg "PrefixMap" = some (.ref CD))
    (m_isinstance : mg "isinstance" = none)
    (gW : mg "Wish" = some (.ref CW))
    : FnG P w K mg base (k + 4) f fd ["some", "size", "wanted"] (spRight CW) := by
  refine okG F scRi (fun vs H Q E h => ?_) (fun cdv A outer s H vs Q g hr h => ?_)
  · obtain ⟨x, e, d, p, z, kw, ws, rfl, _⟩ := h
    rfl
  · obtain ⟨x, e, d, p, z, kw, ws, rfl, hw, hd, lv, ok, z32, few, q⟩ := h
    have nd := scRi.nd
    have hu := hr.units
    have hu1 := hu_of hr
    have hrL := hr
    have hr := hrL.mono (show k + 1 ≤ k + 3 by omega)
    have hr1 := hr.mono (Nat.le_succ k)
    refine ⟨_, pss_cons (ps_set (i := 3) nd rfl (.inl rfl) (pe_callTy (call_dictPn rfl) (by rfl) m_dict (by decide +kernel) (pa_cons (pe_lc (own := [("prefix", 4)]) (g := gName 4) (tt := tYes) rfl nd (pi_list (pe_callB (call_sortedD rfl) (by rfl) m_sorted (by decide +kernel) (pa_cons (pv 2) pa_nil))) (blkOk_by (N := NRi) (sc := defScope sRi) (by decide +kernel)) (fun _ _ _ _ _ => pg_name (i := 4) nd rfl (.inl rfl)) (fun _ _ _ _ _ => pts_nil) (fun _ _ _ _ _ => (pe_tup (pa_cons (pv 4) (pa_cons (pe_call GSo hr1 (by rfl) gSo FSo.kp bSo .nil pass0 (pa_cons (pe_dget hu1 (pv 2) (pv 4) (fun _ _ => rfl)) pa_nil)) pa_nil))))) pa_nil)))
      (pss_cons (ps_for PassesOwn.never rfl (pi_range1 (by rfl) m_range (pa_cons pe_int pa_nil)) (pg_name (i := 5) nd rfl (.inl rfl))
        (pss_cons (ps_set (i := 6) nd rfl (.inl rfl) (pe_prop (pv 0) clW PWR GWR hr bWR .nil pass0 rfl))
        (pss_cons (ps_if (PW.pt (pw_or (pt_cmpR op_ne (pe_callB (call_repr g hu sys) (by rfl) m_repr (by decide +kernel) (pa_cons (pv 6) pa_nil)) (pe_callB (call_repr g hu sys) (by rfl) m_repr (by decide +kernel) (pa_cons (pv 3) pa_nil)) (nomark _)) (pw_or (pt_cmpR op_ne (pe_prop (pv 0) clW PWPw GWPw hr bWPw .nil pass0 rfl) (pv 1) (nomark _)) (pw_or1 (pt_cmpR op_ne (pe_callB (call_lenI GWLn hr aWLn iWLn bWLn) (by rfl) m_len (by decide +kernel) (pa_cons (pv 0) pa_nil)) (pe_callB call_lenD (by rfl) m_len (by decide +kernel) (pa_cons (pv 3) pa_nil)) (nomark _))))))
          (pss_one (ps_ret pe_bl)) pss_nil)
        (pss_cons (ps_expr (pe_bm0 PySem.F.plainAttrs_dict PySem.F.slot_dict_clear PySem.F.type_dict_clear mt_dclear (pv 6)))
        (pss_one (ps_dput hu1 (pv 6) pe_str (pe_tup pa_nil) rfl))))))
      (pss_one (ps_ret (pe_and (pe_callB call_isi (by rfl) m_isinstance (by decide +kernel) (pa_cons (pv 0) (pa_cons (pe_glob (v := .ref CW) rfl gW rfl) pa_nil))) (pe_and (pe_callB call_isi (by rfl) m_isinstance (by decide +kernel) (pa_cons (pv 0) (pa_cons (pe_glob (v := .ref CD) rfl gD rfl) pa_nil))) (pe_one (pe_cmpR (op_eqD hu) (pe_listM (pv 0) clW mtWk GWk hr1 bWk hrL (by rfl) m_list (by decide +kernel)) (LiI.pe_listItems rfl (pv 3) (by rfl) m_list (by decide +kernel)) (nomark _)))))))), ?_⟩
    have okS := ok.sort
    have okDS := ok_rowsW okS z32 (by rw [sortW_len]; omega)
    refine ⟨.ref d, rfl, d, kw, ws.map (·.1), rfl, .inl hd, lv.keys, by rw [List.length_map]; omega, fun ys l hperm hup nl => ?_⟩
    have eys := sortS_of hperm hup
    have hpm : ∀ y ∈ ys, y ∈ ws.map (·.1) := fun y hy => hperm.mem_iff.mp hy
    have ynd : ys.Nodup := hperm.nodup_iff.mpr ok.pfx.nd
    have yl : ys.length = ws.length := by rw [hperm.length_eq, List.length_map]
    have s1 := same_upd (o := .lst (ys.map V.str)) nl
    have hl := upd_same (H := H) (a := l) (o := .lst (ys.map V.str))
    have hd1 := s1 _ _ hd
    have lv1 := lv.same s1
    have hw1 := hw.same s1
    revert s1 hl hd1 lv1 hw1
    generalize upd H l (.lst (ys.map V.str)) = H1
    intro s1 hl hd1 lv1 hw1
    refine ⟨l, rfl, ⟨_, SqL.of hl⟩, fun D nD => ?_⟩
    refine lc_it walk_list (fun i H' => ∃ (ts : List Addr) (kv0 : List (Key × V)), H' D = some (.lst (ts.map V.ref)) ∧ Paired (fun t (kv : Key × V) => H' t = some (.tup [kV kv.1, kv.2]) ∧ t ≠ D) ts kv0 ∧ WVal H' kv0 ((ys.take i).map fun y => (y, ascO (look ws y))) ∧ Same H1 H') ⟨[], [], upd_same, .nil, .nil, same_upd nD⟩ (fun _ _ _ h => by obtain ⟨_, _, _, _, _, s⟩ := h; exact SqL.of (s _ _ hl)) ?_ ?_
    · rintro i v H2 H3 hi ⟨ts, kv0, hD, pt, wv, s2⟩ ⟨rfl, hv⟩
      rw [List.getElem?_map] at hv
      obtain ⟨y, hy, rfl⟩ := Option.map_eq_some_iff.mp hv
      have hym := hpm y (List.mem_of_getElem? hy)
      obtain ⟨a, va, ha⟩ := lv1.at hym
      have lt := prd_len pt
      have lk := prd_len wv
      rw [List.length_map, List.length_take] at lk
      refine ⟨rfl, yes_if ⟨.str y, rfl, .ref d, rfl, .str y, rfl, d, .ref a, rfl, by rw [← va]; exact DGet.k (k := .inr y) (s2 _ _ hd1), a, look ws y, rfl, SqL.of (s2 _ _ ha), ok.ok _ (look_at hym), fun t H4 s4 nt ht => ⟨by show 2 ≤ sizeLine; decide, fun T nT => ?_⟩⟩⟩
      have s5 := s4.trans (same_upd (o := .tup [.str y, .ref t]) nT)
      have hD5 := s5 _ _ hD
      have TD : T ≠ D := (ne_of_none (s4 _ _ hD) nT).symm
      have tT : t ≠ T := ne_of_none ht nT
      refine ⟨_, hD5, Nat.lt_of_le_of_lt (show _ ≤ 100 by rw [List.length_map]; omega) (by decide), ts ++ [T], kv0 ++ [(.inr y, .ref t)], by rw [upd_same, List.map_append]; rfl, ?_, ?_, fun b o eb => ?_⟩
      · refine prd_snoc (pt.mono fun t kv h => ⟨by rw [upd_ne h.2]; exact s5 _ _ h.1, h.2⟩) ⟨?_, TD⟩
        rw [upd_ne TD, upd_same]; rfl
      · rw [List.take_add_one, hy, List.map_append]
        refine prd_snoc (wv.mono fun kv r h => ?_) ⟨rfl, t, rfl, ?_⟩
        · obtain ⟨h1, a1, h2, h3⟩ := h
          exact ⟨h1, a1, h2, by rw [upd_ne (ne_of (s5 _ _ h3) hD5 (fun q => by cases q))]; exact s5 _ _ h3⟩
        · rw [upd_ne (ne_of ht (s4 _ _ hD) (fun q => by cases q)), upd_ne tT]
          exact ht
      · rw [upd_ne (ne_of_none eb nD)]
        exact s5 _ _ (s2 _ _ eb)
    rintro H2 ⟨ts, kv0, hD, pt, wv, s2⟩
    rw [List.length_map, List.take_length, eys] at wv
    have kk := wv.keys
    have wvS : WVal H2 kv0 (sortW ws) := wv
    have kS := wvS.keys
    have knd : (kv0.map (·.1)).Nodup := by rw [kS]; exact okS.pfx.nd.map Sum.inr (fun a b h e => h (Sum.inr.inj e))
    refine ⟨D, ts, kv0, rfl, SqL.of hD, pt.mono fun _ _ h => SqT.of h.1, fun p1 np1 => ?_⟩
    rw [mergeK_nl knd]
    have s3 := same_upd (o := .dK kv0) np1
    have hp1 := upd_same (H := H2) (a := p1) (o := .dK kv0)
    have wv3 := wvS.same s3
    have s03 := s1.trans (s2.trans s3)
    have hw3 := hw.same s03
    have done := fun H' (s : Same _ H') => q H' (s03.trans s)
    clear wv wvS hD pt s2 s3 np1 nD hl hd1 lv1 hw1 s1 nl kk s03
    revert hp1 wv3 hw3 done
    generalize upd H2 p1 (.dK kv0) = H9
    intro hp1 wv9 hw9 done
    show gName 3 (V.ref p1) [some (.ref x), some (.int z), some (.ref d), none, none, none, none] H9 _
    refine ⟨2, rfl, by decide, by decide, for_range (n := 2) (fun i σ H' => (∃ x5 x6, σ = [some (.ref x), some (.int z), some (.ref d), some (.ref p1), none, x5, x6]) ∧ Same H9 H') ⟨⟨_, _, rfl⟩, Same.refl _⟩ ?_ ?_⟩
    · rintro i σ HA hi ⟨⟨x5, x6, rfl⟩, sA⟩
      have hwA := hw9.same sA
      obtain ⟨⟨dx, hx⟩, _⟩ := id hwA
      obtain ⟨ek, mE, vE⟩ := hwA.map
      refine ⟨.ref x, rfl, x, dx, _, rfl, hx, x, e, z, ek, rfl, mE, fun d2 nd2 => ?_⟩
      have t2 := same_upd (o := .dK ek) nd2
      have hx2 := t2 _ _ hx
      have mE2 := mE.same t2
      have el := rows_len2 vE.keys
      have kl := rows_len2 kS
      refine ⟨.ref d2, rfl, .ref d2, .dict (rowsW (sortW ws)), fun _ => True, rfl, .dic trivial (.inl upd_same) (dr_rowsW (vE.same t2)), okDS.sh, Nat.le_trans okDS.dp (by decide), Nat.le_trans okDS.ln (by decide), ?_⟩
      refine ⟨.ref p1, rfl, .ref p1, .dict (rowsW (sortW ws)), fun _ => True, rfl, .dic trivial (.inl (t2 _ _ (sA _ _ hp1))) (dr_rowsW ((wv9.same sA).same t2)), okDS.sh, Nat.le_trans okDS.dp (by decide), Nat.le_trans okDS.ln (by decide), rfl, _, rfl, iteNS rfl ?_⟩
      refine ⟨.ref x, rfl, x, dx, _, rfl, hx2, x, e, z, ek, rfl, mE2, .int z, rfl, rfl, _, rfl, iteNS rfl ?_⟩
      refine ⟨.ref x, rfl, x, dx, _, rfl, hx2, x, e, z, ek, rfl, mE2, ek.length, rfl, by rw [el, sortW_len]; omega, .ref p1, rfl, p1, kv0, rfl, t2 _ _ (sA _ _ hp1), rfl, _, rfl, ?_⟩
      rw [el, kl]
      refine iteNS rfl ?_
      refine ⟨.ref d2, rfl, .inr (.inr (.inl ⟨rfl, .inl ⟨_, upd_same⟩⟩)), d2, ek, rfl, rfl, upd_same, ?_⟩
      rw [upd_upd]
      refine ⟨by show 0 ≤ sizeLine; decide, fun p2 np2 => ⟨.ref d2, rfl, d2, _, rfl, DPut.k (k := .inr "0") (by rw [upd_ne (ne_of_none upd_same np2), upd_same]) (by decide), ?_⟩⟩
      refine ⟨⟨_, _, rfl⟩, sA.trans fun b o eb => ?_⟩
      have n1 : b ≠ d2 := ne_of_none eb nd2
      have n2 : b ≠ p2 := fun z => by rw [← z, upd_ne n1, eb] at np2; cases np2
      rw [upd_ne n1, upd_ne n2, upd_ne n1]
      exact eb
    · rintro σ HA ⟨⟨x5, x6, rfl⟩, sA⟩
      have hwA := hw9.same sA
      obtain ⟨⟨dx, hx⟩, _⟩ := id hwA
      obtain ⟨ek, mE, vE⟩ := hwA.map
      have el := rows_len2 vE.keys
      refine ⟨.ref x, rfl, .ref x, .ref CW, .ref CW, .ref CW, _, rfl, .own _, .base (.ins hx clW OCW.ca OCW.cg OCW.ct OCW.ob), kiW, _, rfl, iteT ?_⟩
      refine ⟨.ref x, rfl, .ref x, .ref CD, .ref CW, .ref CD, _, rfl, .own _, .base (.ins hx clW OCW.ca OCW.cg OCW.ct OCW.ob), kiD, _, rfl, iteT ?_⟩
      refine ⟨.ref x, rfl, x, dx, _, rfl, hx, flds_no _ _ (by decide +kernel) (by decide +kernel), x, e, z, ek, rfl, mE, by rw [el, sortW_len]; omega, fun ts HB sB prB pB npB => ?_⟩
      have sp := same_upd (o := .lst (ts.map V.ref)) npB
      have sC := sA.trans (sB.trans sp)
      have hL := upd_same (H := HB) (a := pB) (o := .lst (ts.map V.ref))
      have pr2 := prB.mono fun t kv h => sp _ _ h
      have vC := vE.same (sB.trans sp)
      revert sC hL pr2 vC
      generalize upd HB pB (.lst (ts.map V.ref)) = HC
      intro sC hL pr2 vC
      refine ⟨.ref p1, rfl, p1, kv0, rfl, sC _ _ hp1, fun HD p2 ts2 sD np2 nts nin hL2 pr3 => ?_⟩
      have shp := shaped_items okS z32
      refine ⟨.list (itemsD (sortW ws)), .list (itemsD (sortW ws)), .lst (SqL.of (sD _ _ hL)) (dp_items (pr2.mono fun t kv h => sD _ _ h) (vC.same sD)), .lst (SqL.of hL2) (dp_items pr3 ((wv9.same sC).same sD)), shp, shp, ?_⟩
      rw [SeqAt.eqv_refl _ (SeqAt.canLay_of_shaped shp)]
      exact done _ (sC.trans sD)
end

def l0 : List (Option Str) := [some "c", none, some "a"]
def l2 : List (Option Str) := [some "zz"]
def l3 : List (Option Str) := [some "b", some "a"]
theorem l0_ok : OkL isT l0 := ⟨by decide +kernel, fun o ho => by
    simp only [l0, List.mem_cons, List.not_mem_nil, or_false] at ho
    rcases ho with rfl | rfl | rfl <;> first | exact trivial | exact (show isT _ = true by decide +kernel), by decide⟩
theorem l1_ok : OkL isT [] := ⟨List.nodup_nil, fun o ho => absurd ho List.not_mem_nil, by decide⟩
theorem l2_ok : OkL isT l2 := ⟨by decide +kernel, fun o ho => by
    rw [List.mem_singleton.mp ho]
    exact (show isT _ = true by decide +kernel), by decide⟩
theorem l3_ok : OkL isT l3 := ⟨by decide +kernel, fun o ho => by
    simp only [l3, List.mem_cons, List.not_mem_nil, or_false] at ho
    rcases ho with rfl | rfl <;> exact (show isT _ = true by decide +kernel), by decide⟩
theorem sortW_cg {A B : WRows} (ndA : (A.map (·.1)).Nodup) (ndB : (B.map (·.1)).Nodup) (hk : ∀ z, z ∈ A.map (·.1) ↔ z ∈ B.map (·.1)) (hv : ∀ z ∈ A.map (·.1), ascO (look A z) = ascO (look B z)) : sortW A = sortW B := by
  have pm : (A.map (·.1)).Perm (B.map (·.1)) := (List.perm_ext_iff_of_nodup ndA ndB).mpr hk
  have e : sortS (A.map (·.1)) = sortS (B.map (·.1)) := sortS_congr pm
  unfold sortW
  rw [← e]
  refine List.map_congr_left fun y hy => ?_
  rw [hv y (mem_sortS.mp hy)]
theorem sortW_put {t : Str → Bool} {w : Nat} {ws : WRows} (ok : RowsW t w ws) {y : Str} {l : List (Option Str)} (hb : isBits y = true) (hl : y.length ≤ w) (okl : OkL t l) : sortW (putR (sortW ws) y l) = sortW (putR ws y l) := by
  refine sortW_cg (ok.sort.put hb hl okl).pfx.nd (ok.put hb hl okl).pfx.nd (fun z => ?_) fun z hz => ?_
  · rw [putR_keys, putR_keys, sortW_keys, mem_sortS]
  · rw [look_putR, look_putR]
    by_cases e : z = y
    · rw [if_pos e, if_pos e]
    · rw [if_neg e, if_neg e]
      have hz2 := ((putR_keys z).mp hz).resolve_left e
      rw [sortW_keys, mem_sortS] at hz2
      rw [look_sortW ok.pfx.nd hz2, ascO_idem]
def P01 : List Str := ["", "1"]
def spRep (C : Addr) : Sp := fun vs H Q _ => ∃ (p c x e d : Addr) (n z : Nat) (m : List V) (kw : List (Key × V)) (ws : WRows), vs = [.ref p, .ref x, .int z, .ref d] ∧ Pen H p c n m ∧ n + 1000 ≤ PB ∧ WishAt C H x e z (sortW ws) ∧ H d = some (.dK kw) ∧ LVal p H kw ws ∧ RowsW isT z ws ∧ 1 ≤ z ∧ z ≤ 32 ∧ ws.length ≤ 10 ∧ ∀ H', But p H H' → Pen H' p c (n + 100) m → Q (.bl true) H'
abbrev sRe : Stmt := top 29
section
variable {P : Program} {w : World} {K : PySem.W.Frag} {mg : Str → Option Value} {base : Heap}
abbrev NRe : List Str := ["pen", "first", "size", "wanted", "prefix", "some", "more", "other"]
theorem scRe : FnScope NRe ["pen", "first", "size", "wanted"] (defScope sRe) := ⟨rfl, rfl, rfl, by decide +kernel, rfl, by decide +kernel, by decide +kernel⟩
set_option maxHeartbeats 8000000 in
theorem ok_Re {f fDr fWVw fRi CW : Addr} {fd fdDr fdWVw fdRi : FuncData} {k : Nat} (F : Fun K "_law_replaced_right" "_law_replaced_right" sRe f fd)
    (m_list : mg "list" = none)
    (GDr : FnOk P w K mg base CX0 k fDr fdDr ["pen", "below"] spDraw)
    (FDr : Fun K "_law_draw" "_law_draw" sDr fDr fdDr) (bDr : Binds K fdDr ["pen", "below"] []) (gDr : mg "_law_draw" = some (.ref fDr))
    (m_dict : mg "dict" = none)
    (clW : Cls K CW)
    (GWVw : FnOk P w K mg base CX0 k fWVw fdWVw ["self", "prefix", "value"] (spWithW K CW))
    (mtWVw : Meth K CW "with_row" fWVw) (bWVw : Binds K fdWVw ["self", "prefix", "value"] [])
    (GRi : FnG P w K mg base k fRi fdRi ["some", "size", "wanted"] (spRight CW))
    (FRi : Fun K "_law_right" "_law_right" sRi fRi fdRi) (bRi : Binds K fdRi ["some", "size", "wanted"] []) (gRi : mg "_law_right" = some (.ref fRi))
    : FnG P w K mg base (k + 1) f fd ["pen", "first", "size", "wanted"] (spRep CW) := by
  refine okG F scRe (fun vs H Q E h => ?_) (fun cdv A outer s H vs Q g hr h => ?_)
  · obtain ⟨p, c, x, e, d, n, z, m, kw, ws, rfl, _⟩ := h
    rfl
  · obtain ⟨p, c, x, e, d, n, z, m, kw, ws, rfl, hp, hn, hw, hd, lv, ok, z1, z32, few, q⟩ := h
    have nd := scRe.nd
    have hu := hr.units
    have hu1 := hu_of hr
    have hr1 := hr
    refine ⟨_, pss_cons (ps_for PassesOwn.never rfl (pi_list (pe_op op_cat (pe_callTy (call_list_dK rfl) (by rfl) m_list (by decide +kernel) (pa_cons (pv 3) pa_nil)) (pe_lst (pa_cons pe_str (pa_cons pe_str pa_nil))))) (pg_name (i := 4) nd rfl (.inl rfl))
        (pss_cons (ps_set (i := 5) nd rfl (.inl rfl) (pe_ix ix_list (pe_lst (pa_cons (pe_lst (pa_cons pe_str (pa_cons pe_non (pa_cons pe_str pa_nil)))) (pa_cons (pe_lst pa_nil) (pa_cons (pe_lst (pa_cons pe_str pa_nil)) (pa_cons (pe_lst (pa_cons pe_str (pa_cons pe_str pa_nil))) pa_nil))))) (pe_call GDr hr1 (by rfl) gDr FDr.kp bDr .nil pass0 (pa_cons (pv 0) (pa_cons pe_int pa_nil))) (fun _ _ => rfl)))
        (pss_cons (ps_set (i := 6) nd rfl (.inl rfl) (pe_callTy call_dictD (by rfl) m_dict (by decide +kernel) (pa_cons (pv 3) pa_nil)))
        (pss_cons (ps_dput hu1 (pv 6) (pv 4) (pe_callTy call_list_of (by rfl) m_list (by decide +kernel) (pa_cons (pv 5) pa_nil)) rfl)
        (pss_cons (ps_set (i := 7) nd rfl (.inl rfl) (pe_meth (pv 1) clW mtWVw GWVw hr1 bWVw .nil pass0 (pa_cons (pv 4) (pa_cons (pv 5) pa_nil))))
        (pss_cons (ps_expr (pe_bm PySem.F.plainAttrs_list PySem.F.slot_list_append PySem.F.type_list_append mt_append (pv 5) (pa_cons pe_str pa_nil)))
        (pss_one (ps_if (PW.pt (pw_or (pt_not (pt_val (pe_callG GRi g hr1 (by rfl) gRi FRi.kp bRi (pa_cons (pv 7) (pa_cons (pv 2) (pa_cons (pv 6) pa_nil)))))) (pw_or1 (pt_not (pt_val (pe_callG GRi g hr1 (by rfl) gRi FRi.kp bRi (pa_cons (pv 1) (pa_cons (pv 2) (pa_cons (pv 3) pa_nil)))))))))
          (pss_one (ps_ret pe_bl)) pss_nil))))))))
      (pss_one (ps_ret pe_bl)), ?_⟩
    have kl : kw.length = ws.length := by
      have := congrArg List.length lv.keys
      rwa [List.length_map, List.length_map, List.length_map] at this
    have dp : d ≠ p := by
      obtain ⟨l, hl⟩ := hp.lst
      exact ne_of hd hl (fun q => by cases q)
    refine ⟨.ref d, rfl, d, kw, rfl, hd, fun A1 nA1 => ?_⟩
    rw [keys_strs lv.keys]
    have s1 := same_upd (o := .lst ((ws.map (·.1)).map V.str)) nA1
    refine ⟨by show 2 ≤ sizeLine; decide, fun A2 nA2 => ?_⟩
    have s2 := same_upd (o := .lst [.str "", .str "1"]) nA2
    refine ⟨A1, A2, _, _, rfl, rfl, s2 _ _ upd_same, upd_same, Nat.le_trans (show _ ≤ 100 by rw [List.length_map, List.length_map]; show _ + 2 ≤ 100; omega) (by decide), fun A3 nA3 => ?_⟩
    rw [show (ws.map (·.1)).map V.str ++ [V.str "", V.str "1"] = (ws.map (·.1) ++ P01).map V.str by rw [List.map_append]; rfl]
    have s3 := same_upd (o := .lst ((ws.map (·.1) ++ P01).map V.str)) nA3
    have s03 := s1.trans (s2.trans s3)
    have h3 := upd_same (H := upd (upd H A1 (.lst ((ws.map (·.1)).map V.str))) A2 (.lst [.str "", .str "1"])) (a := A3) (o := .lst ((ws.map (·.1) ++ P01).map V.str))
    have A3p : A3 ≠ p := ((hp.keep s1).keep s2).ne_p nA3
    have hp3 := hp.keep s03
    have hw3 := hw.same s03
    have hd3 := s03 _ _ hd
    have lv3 := lv.same s03
    have done := fun H' (k : But p _ H') => q H' ((But.of_same s03).trans k)
    clear s1 s2 s3 s03 nA1 nA2 nA3 hp hw hd lv q
    revert h3 hp3 hw3 hd3 lv3 done
    generalize upd (upd (upd H A1 (.lst ((ws.map (·.1)).map V.str))) A2 (.lst [.str "", .str "1"])) A3 (.lst ((ws.map (·.1) ++ P01).map V.str)) = H3
    intro h3 hp3 hw3 hd3 lv3 done
    have lx : ((ws.map (·.1) ++ P01).map V.str).length = ws.length + 2 := by rw [List.length_map, List.length_append, List.length_map]; rfl
    have yb : ∀ y ∈ ws.map (·.1) ++ P01, isBits y = true ∧ y.length ≤ z := fun y hy => by
      rcases List.mem_append.mp hy with h | h
      · exact ⟨ok.pfx.bits y h, ok.pfx.len y h⟩
      · rcases List.mem_cons.mp h with rfl | h
        · exact ⟨bits_empty, Nat.zero_le _⟩
        · rw [List.mem_singleton.mp h]
          exact ⟨by decide +kernel, by show 1 ≤ z; omega⟩
    generalize ws.map (·.1) ++ P01 = ps at h3 lx yb
    refine ⟨A3, rfl, ⟨_, SqL.of h3⟩, for_list (K := K) (a := A3) (xs := ps.map V.str) (fun j σ H' => (∃ x4 x5 x6 x7, σ = [some (.ref p), some (.ref x), some (.int z), some (.ref d), x4, x5, x6, x7]) ∧ But p H3 H' ∧ Pen H' p c (n + j) m) ⟨⟨_, _, _, _, rfl⟩, But.refl _ _, hp3⟩ (fun _ _ _ _ h => SqL.of (h.2.1 _ _ A3p h3)) ?_ ?_⟩
    · rintro j v σ HA hv ⟨⟨x4, x5, x6, x7, rfl⟩, bA, pA⟩
      have jl : j < ws.length + 2 := by rw [← lx]; exact (List.getElem?_eq_some_iff.mp hv).1
      rw [List.getElem?_map] at hv
      obtain ⟨y, hy, rfl⟩ := Option.map_eq_some_iff.mp hv
      obtain ⟨yb1, yl⟩ := yb y (List.mem_of_getElem? hy)
      obtain ⟨lp, hlp⟩ := pA.lst
      obtain ⟨lp3, hlp3⟩ := hp3.lst
      have hwA := hw3.but bA hlp3
      have hdA := bA _ _ dp hd3
      have lvA := lv3.but bA
      refine ⟨by show 3 ≤ sizeLine; decide, fun a0 na0 => ⟨by show 0 ≤ sizeLine; decide, fun a1 na1 => ⟨by show 1 ≤ sizeLine; decide, fun a2 na2 => ⟨by show 2 ≤ sizeLine; decide, fun a3 na3 => ⟨by show 4 ≤ sizeLine; decide, fun L nL => ?_⟩⟩⟩⟩⟩
      have s0 := same_upd (o := .lst [.str "c", .non, .str "a"]) na0
      have s1 := same_upd (o := .lst []) na1
      have s2 := same_upd (o := .lst [.str "zz"]) na2
      have s3 := same_upd (o := .lst [.str "b", .str "a"]) na3
      have s4 := same_upd (o := .lst [.ref a0, .ref a1, .ref a2, .ref a3]) nL
      have pick : ∀ k : Nat, k < 4 → ∃ a l, atI [V.ref a0, .ref a1, .ref a2, .ref a3] (k : Int) = some (.ref a) ∧ (upd (upd (upd (upd (upd HA a0 (.lst [.str "c", .non, .str "a"])) a1 (.lst [])) a2 (.lst [.str "zz"])) a3 (.lst [.str "b", .str "a"])) L (.lst [.ref a0, .ref a1, .ref a2, .ref a3])) a = some (.lst (l.map optV)) ∧ HA a = none ∧ OkL isT l := fun k hk => by
        have h4 : k = 0 ∨ k = 1 ∨ k = 2 ∨ k = 3 := by omega
        rcases h4 with rfl | rfl | rfl | rfl
        · exact ⟨a0, l0, rfl, s4 _ _ (s3 _ _ (s2 _ _ (s1 _ _ upd_same))), na0, l0_ok⟩
        · exact ⟨a1, [], rfl, s4 _ _ (s3 _ _ (s2 _ _ upd_same)), s0.free na1, l1_ok⟩
        · exact ⟨a2, l2, rfl, s4 _ _ (s3 _ _ upd_same), (s0.trans s1).free na2, l2_ok⟩
        · exact ⟨a3, l3, rfl, s4 _ _ upd_same, (s0.trans (s1.trans s2)).free na3, l3_ok⟩
      have sB := s0.trans (s1.trans (s2.trans (s3.trans s4)))
      have hL := upd_same (H := upd (upd (upd (upd HA a0 (.lst [.str "c", .non, .str "a"])) a1 (.lst [])) a2 (.lst [.str "zz"])) a3 (.lst [.str "b", .str "a"])) (a := L) (o := .lst [.ref a0, .ref a1, .ref a2, .ref a3])
      have Lp : L ≠ p := (pA.keep (s0.trans (s1.trans (s2.trans s3)))).ne_p nL
      clear s0 s1 s2 s3 s4 na0 na1 na2 na3 nL
      revert pick sB hL
      generalize upd (upd (upd (upd (upd HA a0 (.lst [.str "c", .non, .str "a"])) a1 (.lst [])) a2 (.lst [.str "zz"])) a3 (.lst [.str "b", .str "a"])) L (.lst [.ref a0, .ref a1, .ref a2, .ref a3]) = HB
      intro pick sB hL
      have pB := pA.keep sB
      refine ⟨.ref p, rfl, p, c, n + j, m, 4, rfl, pB, by omega, by decide, by decide, fun q HC q0 q4 bC pC => ?_⟩
      obtain ⟨kq, rfl⟩ : ∃ k : Nat, q = (k : Int) := ⟨q.toNat, (Int.toNat_of_nonneg q0).symm⟩
      obtain ⟨a, l, hk, haB, naA, okl⟩ := pick kq (by omega)
      have ap := pA.ne_p naA
      have ac := pA.ne_c naA
      have ha := bC _ _ ap haB
      have bAC := (But.of_same (p := p) sB).trans bC
      refine ⟨L, _, _, .ref a, rfl, rfl, SqL.of (bC _ _ Lp hL), hk, ?_⟩
      clear pick hL hk haB pB bC sB
      show gName 5 (V.ref a) [some (.ref p), some (.ref x), some (.int z), some (.ref d), some (.str y), x5, x6, x7] HC _
      have hdC := bAC _ _ dp hdA
      refine ⟨.ref d, rfl, d, kw, rfl, .inl hdC, fun M nM => ?_⟩
      have sM := same_upd (o := .dK kw) nM
      have hM := upd_same (H := HC) (a := M) (o := .dK kw)
      refine ⟨.ref a, rfl, a, l.map optV, rfl, .inl (SqL.of (sM _ _ ha)), fun a5 na5 => ?_⟩
      have s5 := same_upd (o := .lst (l.map optV)) na5
      have ha5 := upd_same (H := upd HC M (.dK kw)) (a := a5) (o := .lst (l.map optV))
      have M5 : M ≠ a5 := ne_of_none hM na5
      refine ⟨.ref M, rfl, .str y, rfl, M, _, rfl, DPut.k (k := .inr y) (s5 _ _ hM) (by rw [kl]; exact big_lt (by omega)), ?_⟩
      have sP : Same HC (upd (upd (upd HC M (.dK kw)) a5 (.lst (l.map optV))) M (.dK (putK kw (.inr y) (.ref a5)))) := fun b o eb => by
        rw [upd_ne (ne_of_none eb nM), upd_ne (ne_of_none (sM _ _ eb) na5), upd_ne (ne_of_none eb nM)]
        exact eb
      have hMP := upd_same (H := upd (upd HC M (.dK kw)) a5 (.lst (l.map optV))) (a := M) (o := .dK (putK kw (.inr y) (.ref a5)))
      have ha5P : (upd (upd (upd HC M (.dK kw)) a5 (.lst (l.map optV))) M (.dK (putK kw (.inr y) (.ref a5)))) a5 = some (.lst (l.map optV)) := by rw [upd_ne M5.symm]; exact ha5
      have a5a : a5 ≠ a := (ne_of_none (sM _ _ ha) na5).symm
      have a5p : a5 ≠ p := (pC.keep sM).ne_p na5
      have Ma : M ≠ a := (ne_of_none ha nM).symm
      clear sM s5 nM na5 hM ha5
      revert sP hMP ha5P
      generalize upd (upd (upd HC M (.dK kw)) a5 (.lst (l.map optV))) M (.dK (putK kw (.inr y) (.ref a5))) = HP
      intro sP hMP ha5P
      have bAP := bAC.trans (.of_same sP)
      have hwP := hwA.but bAP hlp
      obtain ⟨⟨dx, hx⟩, _⟩ := id hwP
      have lsw : (sortW ws).length ≤ 10 := by rw [sortW_len]; exact few
      refine ⟨.ref x, rfl, x, dx, _, rfl, hx, flds_no _ _ (by decide +kernel) (by decide +kernel), .str y, rfl, .ref a, rfl, x, e, z, sortW ws, y, a, l, rfl, hwP, ok.sort, z1, z32, yb1, yl, .inl (SqL.of (sP _ _ ha)), okl, by omega, fun x2 e2 HE nx2 ne2 sE hw2 => ?_⟩
      rw [sortW_put ok yb1 yl okl] at hw2
      have haE := sE _ _ (sP _ _ ha)
      refine ⟨.ref a, rfl, .inl ⟨rfl, _, SqL.of haE⟩, a, l.map optV, .str "late", rfl, rfl, haE, Nat.lt_of_le_of_lt (show _ ≤ 100 by rw [List.length_map]; have := okl.few; omega) (by decide), ?_⟩
      have kF : But a HE (upd HE a (.lst (l.map optV ++ [.str "late"]))) := But.upd
      have hw2F := hw2.but kF haE
      have hMF := kF _ _ Ma (sE _ _ hMP)
      have ha5F := kF _ _ a5a (sE _ _ ha5P)
      have bAF : But p HA (upd HE a (.lst (l.map optV ++ [.str "late"]))) := fun b o nb eb => kF b o (ne_of_none eb naA) (sE b o (bAP b o nb eb))
      have pF := ((pC.keep sP).keep sE).off (o := .lst (l.map optV ++ [.str "late"])) ap ac
      clear kF hw2 hMP ha5P haE
      revert hw2F hMF ha5F bAF pF
      generalize upd HE a (.lst (l.map optV ++ [.str "late"])) = HF
      intro hw2F hMF ha5F bAF pF
      have lvF := lvA.but bAF
      have lvM : LVal p HF (putK kw (.inr y) (.ref a5)) (putR ws y l) := paired_put (fun _ _ q => q.1) ⟨rfl, a5, rfl, ha5F, a5p⟩ lvF
      have lpt := putR_len ws y l
      refine ⟨.ref x2, rfl, .int z, rfl, .ref M, rfl, x2, e2, M, p, z, _, _, rfl, hw2F, hMF, lvM, ok.put yb1 yl okl, z32, by omega, fun HG sG => ⟨true, rfl, iteF ?_⟩⟩
      refine ⟨.ref x, rfl, .int z, rfl, .ref d, rfl, x, e, d, p, z, kw, ws, rfl, (hwA.but bAF hlp).same sG, sG _ _ (bAF _ _ dp hdA), lvF.same sG, ok, z32, by omega, fun HI sI => ⟨true, rfl, iteF ?_⟩⟩
      exact ⟨⟨_, _, _, _, rfl⟩, bA.trans (bAF.trans ((But.of_same sG).trans (.of_same sI))), ((pF.keep sG).keep sI).mono (by omega)⟩
    · rintro σ HA ⟨⟨x4, x5, x6, x7, rfl⟩, bA, pA⟩
      rw [lx] at pA
      exact done _ bA (pA.mono (by omega))
end
/-! ### xs[::-1], {**a, **b} -/
def tRev (K : PySem.W.Frag) (te : TE) (tm : TO) : TE := fun σ H Q => te σ H fun x H1 => tm σ H1 fun l H2 => l = some (-1) ∧ ∃ a xs, x = .ref a ∧ SqL K H2 a xs ∧ ∀ p, H2 p = none → Q (.ref p) (upd H2 p (.lst xs.reverse))
theorem vals_rev {xs : List V} {us : List Value} (r : Vals xs us) : Vals xs.reverse us.reverse := by
  induction r with
  | nil => exact .nil
  | cons h t ih => rw [List.reverse_cons, List.reverse_cons]; exact ih.append (.cons h .nil)
theorem pe_rev {X : Cx} {e m : Expr} {te : TE} {tm : TO} {pos p2 : Pos} (he : PE X e te) (hm : PO X (some m) tm) : PE X (.Subscript e (.Slice none none (some m) p2) pos) (tRev X.K te tm) := by
  refine ⟨fun pins s σ H Q I h => ?_⟩
  refine Subscript_ (thn (he.run pins s σ H _ I h) fun v s1 ⟨x, H1, I1, r1, q1⟩ => ?_)
  refine wpAny_Slice ?_
  rw [evalPart_none]
  refine wpAny_pure (wpAny_pure ?_)
  refine thn (hm.run pins s1 σ H1 _ I1 q1) fun vk s3 ⟨l, H3, I3, pk, q3⟩ => ?_
  obtain ⟨rfl, a, xs, rfl, hx, q⟩ := q3
  cases r1
  have I4 : Inv X pins σ H3 { s3 with heap := s3.heap.push { cls := .type "slice", data := .fields #[.none, .none, vk] } } := I3.kept (t' := s3.toks) fun b ob q => Heap.get?_push_of_some _ q
  obtain ⟨its, r, ht, hz⟩ := I4.list hx
  have hlen := r.length
  show wpAny (model X.prog X.w) X.A (subscriptTail e (.Slice none none (some m) p2) (.ref a) (.ref s3.heap.objs.size)) (EP X pins σ Q) X.xe { s3 with heap := s3.heap.push { cls := .type "slice", data := .fields #[.none, .none, vk] } }
  refine tail_any (ops := [.ref a, .ref s3.heap.objs.size]) ht.isList.typeIs slot_list_getitem.lookup ?_ (by with_unfolding_all rfl)
  refine wpAny_getItem_list_slice ht.isList (Heap.IsSliceOf.new ..) .none .none pk (by simp) ?_ (by rw [List.size_toArray] <;> omega)
  rw [PySem.W.krv_pick]
  refine ⟨.ref _, _, I4.laid (t' := s3.toks) (o := .lst xs.reverse) (fun b ob q => Heap.get?_push_of_some _ q) (Nat.le_refl _) ?_, rfl, q _ (I4.hok.fresh (Nat.le_refl _))⟩
  refine ⟨by rw [List.length_reverse]; exact hz, its.reverse, 0, vals_rev r, ?_⟩
  exact Heap.get?_push_size _ rfl
def tDss (ta tb : TE) : TE := fun σ H Q => ∀ p, H p = none → ta σ (upd H p (.dK [])) fun x H1 => ∃ (a : Addr) (kvs : List (Key × V)), x = .ref a ∧ Rd H1 a (.dK kvs) ∧ a ≠ p ∧ H1 p = some (.dK []) ∧ (kvs.map (·.1)).Nodup ∧ kvs.length < 1000 ∧
  tb σ (upd H1 p (.dK kvs)) fun y H2 => ∃ (b : Addr) (ls : List (Key × V)), y = .ref b ∧ Rd H2 b (.dK ls) ∧ b ≠ p ∧ H2 p = some (.dK kvs) ∧ ls.length < 1000 ∧ Q (.ref p) (upd H2 p (.dK (mergeK kvs ls)))
theorem pe_dss {X : Cx} {a b : Expr} {pos : Pos} {ta tb : TE} (ha : PE X a ta) (hb : PE X b tb) : PE X (.Dict [none, none] [a, b] pos) (tDss ta tb) := by
  refine ⟨fun pins s σ H Q I h => ?_⟩
  rw [arm_eval_Dict]
  refine wpAny_bind (wpAny_standAt ?_)
  show wpAny _ _ (dictDisplay [(none, (eval a X.env >>= fun x => standAt pos >>= fun _ => pure x)), (none, (eval b X.env >>= fun x => standAt pos >>= fun _ => pure x))]) _ _ _
  unfold dictDisplay
  simp only [List.forIn_cons, List.forIn_nil, List.isEmpty_nil, if_true, pure_bind, bind_assoc, List.nil_append, List.length_cons, List.length_nil, Nat.zero_add, Nat.reduceBEq, Bool.false_eq_true, if_false, List.isEmpty_cons]
  refine wpAny_bind (wpAny_alloc ?_)
  have hn : H s.heap.objs.size = none := I.hok.fresh (Nat.le_refl _)
  have I1 := I.laid (a := s.heap.objs.size) (o := .dK []) (h' := s.heap.push { cls := .type "dict", data := .dict #[] }) (t' := s.toks) (fun _ _ q => Heap.get?_push_of_some _ q) (Nat.le_refl _) (dk_empty s.heap I.big)
  refine wpAny_bind (wpAny_holding (wpAny_bind (thn (ha.run pins _ σ _ _ I1 (h _ hn)) fun u s2 ⟨x, H1, I2, rx, a1, kvs, ex, hr1, nap, hp, nd, few, q⟩ => wpAny_bind (wpAny_standAt (wpAny_pure ?_)))))
  subst ex
  obtain rfl : u = Value.ref a1 := rx
  refine wpAny_bind (wpAny_onRaise (wpAny_tryCatch (wpAny_onRaise (wpAny_holding (mergeH I2 hp hr1 nap.symm (by show 0 + kvs.length ≤ 2000; omega) fun s3 I3 => ?_)))))
  rw [mergeK_nd kvs [] (by rw [List.nil_append]; exact nd), List.nil_append] at I3
  refine wpAny_bind (wpAny_holding (wpAny_bind (thn (hb.run pins _ σ _ _ I3 q) fun u2 s4 ⟨y, H2, I4, ry, b1, ls, ey, hr2, nbp, hp2, few2, q2⟩ => wpAny_bind (wpAny_standAt (wpAny_pure ?_)))))
  subst ey
  obtain rfl : u2 = Value.ref b1 := ry
  exact wpAny_bind (wpAny_onRaise (wpAny_tryCatch (wpAny_onRaise (wpAny_holding (mergeH I4 hp2 hr2 nbp.symm (by omega) fun s5 I5 => wpAny_pure ⟨.ref s.heap.objs.size, _, I5, rfl, q2⟩)))))

abbrev rListOf (K : PySem.W.Frag) : List V → Hp → VK → Prop := fun xs H Q => ∃ p ys, xs = [V.ref p] ∧ (SqL K H p ys ∨ SqT K H p ys) ∧ ∀ (l : Addr), H l = none → Q (V.ref l) (upd H l (.lst ys))
theorem kbn12 {K : PySem.W.Frag} {fd : FuncData} {ps : List Str} {k1 k2 : Str} (h : ∀ (s : Shared) (a b c : Value), BindsTo s fd ⟨[a], [(k1, b), (k2, c)]⟩ (ps.zip [a, b, c])) : KBn K fd ps 1 [k1, k2] (fun us ws => us ++ ws) (fun vs zs => vs ++ zs) :=
  ⟨fun s us ws _ l1 l2 => match us, l1, ws, l2 with | [a], _, [b, c], _ => h s a b c, fun r1 r2 => r1.append r2⟩
def spLaw (K : PySem.W.Frag) : Sp := fun vs H Q _ => ∃ (a : Addr) (ns : List Int), vs = [.ref a] ∧ SqL K H a (ns.map V.int) ∧ ns.length ≤ 63 ∧ ∀ H', Q (.bl true) H'
def vlW (kw : List (Key × V)) (u : Str) : V := (valV kw (.inr u)).getD .non
theorem asc_rev (l : List (Option Str)) : ascO l.reverse = ascO l := by
  have e : (l.reverse.filterMap id) = (l.filterMap id).reverse := List.filterMap_reverse
  unfold ascO
  rw [e, sortS_congr (List.reverse_perm _)]
  simp only [List.mem_reverse]
theorem OkL.rev {t : Str → Bool} {l : List (Option Str)} (h : OkL t l) : OkL t l.reverse := ⟨(List.reverse_perm l).nodup_iff.mpr h.nd, fun o ho => h.tg o (List.mem_reverse.mp ho), by rw [List.length_reverse]; exact h.few⟩
/-- one row more, at the end -/
theorem sortW_step {t : Str → Bool} {w : Nat} {ws : WRows} (ok : RowsW t w ws) {i : Nat} {y : Str} {l : List (Option Str)} (h : ws[i]? = some (y, l)) : sortW (putR (sortW (ws.take i)) y l.reverse) = sortW (ws.take (i + 1)) := by
  have et : ws.take (i + 1) = ws.take i ++ [(y, l)] := by rw [List.take_add_one, h]; rfl
  have nd1 : ((ws.take (i + 1)).map (·.1)).Nodup := by rw [List.map_take]; exact ok.pfx.nd.sublist (List.take_sublist _ _)
  have nd0 : ((ws.take i).map (·.1)).Nodup := by rw [List.map_take]; exact ok.pfx.nd.sublist (List.take_sublist _ _)
  have ny : y ∉ (ws.take i).map (·.1) := fun hm => by
    rw [et, List.map_append] at nd1
    exact (List.nodup_append.mp nd1).2.2 y hm y List.mem_cons_self rfl
  have ny2 : y ∉ (sortW (ws.take i)).map (·.1) := fun hm => by rw [sortW_keys, mem_sortS] at hm; exact ny hm
  have keys : ∀ z, z ∈ (putR (sortW (ws.take i)) y l.reverse).map (·.1) ↔ z ∈ (ws.take (i + 1)).map (·.1) := fun z => by
    rw [putR_keys, sortW_keys, mem_sortS, et, List.map_append, List.mem_append]
    show _ ↔ _ ∨ z ∈ [y]
    rw [List.mem_singleton]
    exact or_comm
  have ndS : ((sortW (ws.take i)).map (·.1)).Nodup := by rw [sortW_keys]; exact (sortS_perm _).nodup_iff.mpr nd0
  have ndP : ((putR (sortW (ws.take i)) y l.reverse).map (·.1)).Nodup := by
    unfold putR
    rw [if_neg ny2, List.map_append]
    refine List.nodup_append.mpr ⟨ndS, List.nodup_cons.mpr ⟨List.not_mem_nil, List.nodup_nil⟩, fun a ha b hb e => ?_⟩
    have hb2 : b = y := List.mem_singleton.mp hb
    rw [e, hb2] at ha
    exact ny2 ha
  refine sortW_cg ndP nd1 keys fun z hz => ?_
  rw [look_putR, et]
  by_cases e : z = y
  · rw [if_pos e, e, asc_rev, look_snoc ny, if_pos rfl]
  · have hz2 := ((putR_keys z).mp hz).resolve_left e
    rw [sortW_keys, mem_sortS] at hz2
    rw [if_neg e, look_sortW nd0 hz2, ascO_idem, look_snoc ny, if_neg e]
theorem sortW_filt {ws : WRows} (nd : (ws.map (·.1)).Nodup) (y : Str) : sortW ((sortW ws).filter fun r => decide (r.1 ≠ y)) = sortW (ws.filter fun r => decide (r.1 ≠ y)) := by
  have ndS : ((sortW ws).map (·.1)).Nodup := by rw [sortW_keys]; exact (sortS_perm _).nodup_iff.mpr nd
  have fk : ∀ (R : WRows), (R.filter fun r => decide (r.1 ≠ y)).map (·.1) = (R.map (·.1)).filter fun z => decide (z ≠ y) := fun R => by rw [List.filter_map]; rfl
  refine sortW_cg (by rw [fk]; exact ndS.filter _) (by rw [fk]; exact nd.filter _) (fun z => ?_) fun z hz => ?_
  · rw [fk, fk, List.mem_filter, List.mem_filter, sortW_keys, mem_sortS]
  · rw [fk] at hz
    obtain ⟨h1, h2⟩ := List.mem_filter.mp hz
    have ne := of_decide_eq_true h2
    rw [sortW_keys, mem_sortS] at h1
    rw [look_filt, if_neg ne, look_filt, if_neg ne, look_sortW nd h1, ascO_idem]
/-- the first row left out -/
theorem drop_filt {ws : WRows} (nd : (ws.map (·.1)).Nodup) {i : Nat} {r : Str × List (Option Str)} (h : ws[i]? = some r) : (ws.drop i).filter (fun q => decide (q.1 ≠ r.1)) = ws.drop (i + 1) := by
  obtain ⟨hi, e⟩ := List.getElem?_eq_some_iff.mp h
  have ed : ws.drop i = r :: ws.drop (i + 1) := by rw [List.drop_eq_getElem_cons hi, e]
  rw [ed, List.filter_cons_of_neg (by simp)]
  refine List.filter_eq_self.mpr fun q hq => decide_eq_true fun eq => ?_
  have nd2 : ((ws.drop i).map (·.1)).Nodup := by rw [List.map_drop]; exact nd.sublist (List.drop_sublist _ _)
  rw [ed, List.map_cons] at nd2
  exact (List.nodup_cons.mp nd2).1 (List.mem_map.mpr ⟨q, hq, eq⟩)
theorem rowsW_sub {t : Str → Bool} {w : Nat} {ws vs : WRows} (ok : RowsW t w ws) (h : vs.Sublist ws) : RowsW t w vs :=
  ⟨⟨ok.pfx.nd.sublist (h.map _), fun x hx => ok.pfx.bits x ((h.map _).subset hx), fun x hx => ok.pfx.len x ((h.map _).subset hx)⟩, fun r hr => ok.ok r (h.subset hr)⟩
theorem kv_map {kw : List (Key × V)} {us : List Str} (hk : kw.map (·.1) = us.map Sum.inr) (nd : us.Nodup) : kw = us.map fun u => ((.inr u : Key), vlW kw u) := by
  have kn : (kw.map (·.1)).Nodup := by rw [hk]; exact nd.map Sum.inr (fun a b h e => h (Sum.inr.inj e))
  have l : kw.length = us.length := by
    have := congrArg List.length hk
    rwa [List.length_map, List.length_map] at this
  refine List.ext_getElem (by rw [List.length_map, l]) fun i h1 h2 => ?_
  rw [List.getElem_map]
  have h3 : i < us.length := by omega
  have e1 : kw[i].1 = .inr us[i] := by
    have := congrArg (fun l => l[i]?) hk
    simp only [List.getElem?_map, List.getElem?_eq_getElem h1, List.getElem?_eq_getElem h3, Option.map_some] at this
    exact Option.some.inj this
  have e2 : valV kw (.inr us[i]) = some kw[i].2 := valV_some kn (by rw [← e1]; exact List.getElem_mem h1)
  unfold vlW
  rw [e2]
  exact Prod.ext e1 rfl
theorem kv_filt {kw : List (Key × V)} {us : List Str} (hk : kw.map (·.1) = us.map Sum.inr) (nd : us.Nodup) (y : Str) : ((us.filter fun u => !decide (V.str u = V.str y)).map fun u => ((.inr u : Key), vlW kw u)) = kw.filter fun kv => decide (kv.1 ≠ .inr y) := by
  have e : (fun kv : Key × V => decide (kv.1 ≠ .inr y)) ∘ (fun u => ((.inr u : Key), vlW kw u)) = fun u => !decide (V.str u = V.str y) := by
    funext u
    show decide ((Sum.inr u : Key) ≠ .inr y) = _
    rw [← decide_not]
    exact decide_eq_decide.mpr ⟨fun h q => h (by rw [V.str.inj q]), fun h q => h (by rw [Sum.inr.inj q])⟩
  conv => rhs; rw [kv_map hk nd]
  rw [List.filter_map, e]
/-- the data of a dict of lists -/
def rowsL (rows : WRows) : List (PyData × PyData) := rows.map fun r => (.str r.1, .list (r.2.map optD))
theorem ok_listD {l : List (Option Str)} (h : OkL isT l) : OkD 1 (40 * (82 + 2) + 2) (.list (l.map optD)) := by
  refine OkD.list (by rw [List.length_map]; exact h.few) fun d hd => ?_
  obtain ⟨o, ho, rfl⟩ := List.mem_map.mp hd
  cases o with
  | none => exact ⟨by decide +kernel, by decide +kernel, by decide +kernel⟩
  | some x =>
    obtain ⟨y, e, s⟩ := tgt_sm (v := .str x) (h.tg _ ho)
    rw [show optD (some x) = .str x from rfl, V.str.inj e]
    exact s.ok (by decide)
theorem dr_rowsL {K : PySem.W.Frag} {H : Hp} {p : Addr} : ∀ {kvs : List (Key × V)} {rows : WRows}, LVal p H kvs rows → DrKv K H (fun _ => True) kvs (rowsL rows)
  | _, _, .nil => .nil
  | (k, v) :: kvs, r :: rows, .cons h t => by
    obtain ⟨e1, a, e2, ha, _⟩ := h
    have e1' : k = .inr r.1 := e1
    have e2' : v = .ref a := e2
    subst e1' e2'
    exact .cons (.lst trivial (SqL.of ha) (drAll_opt _)) (dr_rowsL t)
theorem ok_rowsL {w : Nat} {rows : WRows} (ok : RowsW isT w rows) (hw : w ≤ 32) (few : rows.length ≤ 60) : OkD 2 (60 * (322 + (40 * (82 + 2) + 2) + 4) + 2) (.dict (rowsL rows)) := by
  refine OkD.dict (by show (rows.map _).length ≤ 60; rw [List.length_map]; exact few) fun d hd => ?_
  obtain ⟨r, hr, rfl⟩ := List.mem_map.mp hd
  have hk : r.1 ∈ rows.map (·.1) := List.mem_map.mpr ⟨r, hr, rfl⟩
  have s : Sm 32 r.1 := ⟨Nat.le_trans (ok.pfx.len _ hk) hw, bits_sm (ok.pfx.bits _ hk)⟩
  exact ⟨(s.ok (by decide)).mono (by decide) (Nat.le_refl _), ok_listD (ok.ok r hr)⟩
theorem keysN_len {kvs : List (Key × V)} {us : List Str} (hk : kvs.map (·.1) = us.map Sum.inr) : us.length = kvs.length := by
  have := congrArg List.length hk
  rw [List.length_map, List.length_map] at this
  exact this.symm
theorem keysNY {kvs : List (Key × V)} {us : List Str} (hk : kvs.map (·.1) = us.map Sum.inr) : ∀ (i : Nat) (H : Hp) (v : V) (H' : Hp), (H' = H ∧ ∃ k v', kvs[i]? = some (k, v') ∧ v = kV k) → H' = H ∧ ∃ x, us[i]? = some x ∧ v = V.str x := by
  rintro i H v H' ⟨e, k, v', h, rfl⟩
  obtain ⟨y, hy, rfl⟩ := key_at hk h
  exact ⟨e, y, hy, rfl⟩
theorem prdN_map {α β γ : Type} {R : α → γ → Prop} (f : β → γ) : ∀ {as : List α} {bs : List β}, Paired (fun a b => R a (f b)) as bs → Paired R as (bs.map f)
  | _, _, .nil => .nil
  | _, _, .cons h t => .cons h (prdN_map f t)
theorem prdN_get {α β : Type} {F : α → β → Prop} : ∀ {l₁ : List α} {l₂ : List β} {j : Nat} {x : α}, Paired F l₁ l₂ → l₁[j]? = some x → ∃ y, l₂[j]? = some y ∧ F x y
  | _, _, j, x, .nil, h => by simp at h
  | _, _, 0, x, .cons (b := y) f _, h => by
    simp only [List.getElem?_cons_zero] at h
    cases h
    exact ⟨y, rfl, f⟩
  | _, _, j + 1, x, .cons _ t, h => by
    simp only [List.getElem?_cons_succ] at h
    obtain ⟨y, h1, h2⟩ := prdN_get (j := j) t h
    exact ⟨y, by simpa using h1, h2⟩
/-- copies of the lists, all new -/
structure GivenAt (N : Addr → Prop) (H : Hp) (kg : List (Key × V)) (ws : WRows) (as : List Addr) : Prop where
  pr : Paired (fun (kv : Key × V) (r : Str × List (Option Str)) => kv.1 = .inr r.1 ∧ ∃ a, kv.2 = .ref a ∧ H a = some (.lst (r.2.map optV)) ∧ N a) kg ws
  vals : kg.map (·.2) = as.map V.ref
  nd : as.Nodup
theorem GivenAt.lval {N : Addr → Prop} {H : Hp} {p : Addr} {kg : List (Key × V)} {ws : WRows} {as : List Addr} (h : GivenAt N H kg ws as) (hp : ¬ N p) : LVal p H kg ws := h.pr.mono fun kv r ⟨e, a, e2, ha, na⟩ => ⟨e, a, e2, ha, fun q => hp (q ▸ na)⟩
theorem GivenAt.same {N : Addr → Prop} {H H' : Hp} {kg : List (Key × V)} {ws : WRows} {as : List Addr} (s : Same H H') (h : GivenAt N H kg ws as) : GivenAt N H' kg ws as := ⟨h.pr.mono fun kv r ⟨e, a, e2, ha, na⟩ => ⟨e, a, e2, s _ _ ha, na⟩, h.vals, h.nd⟩
theorem GivenAt.weak {N M : Addr → Prop} {H : Hp} {kg : List (Key × V)} {ws : WRows} {as : List Addr} (m : ∀ a, N a → M a) (h : GivenAt N H kg ws as) : GivenAt M H kg ws as := ⟨h.pr.mono fun kv r ⟨e, a, e2, ha, na⟩ => ⟨e, a, e2, ha, m a na⟩, h.vals, h.nd⟩
theorem GivenAt.at {N : Addr → Prop} {H : Hp} {kg : List (Key × V)} {ws : WRows} {as : List Addr} (h : GivenAt N H kg ws as) {i : Nat} {r : Str × List (Option Str)} (hr : ws[i]? = some r) : ∃ a, as[i]? = some a ∧ kg[i]? = some (.inr r.1, .ref a) ∧ H a = some (.lst (r.2.map optV)) ∧ N a := by
  have lk := prd_len h.pr
  obtain ⟨hi, e⟩ := List.getElem?_eq_some_iff.mp hr
  obtain ⟨kv, hkv⟩ : ∃ kv, kg[i]? = some kv := ⟨kg[i]'(by omega), List.getElem?_eq_getElem _⟩
  obtain ⟨r', hr', e1, a, e2, ha, na⟩ := prdN_get h.pr hkv
  rw [hr] at hr'
  cases hr'
  refine ⟨a, ?_, ?_, ha, na⟩
  · have := congrArg (fun l => l[i]?) h.vals
    simp only [List.getElem?_map, hkv, Option.map_some] at this
    cases q : as[i]? with
    | none => rw [q] at this; cases this
    | some b =>
      rw [q] at this
      have := Option.some.inj this
      rw [e2] at this
      rw [V.ref.inj this]
  · rw [hkv]
    exact congrArg some (Prod.ext e1 e2)
/-! ### all but lists stay -/
def Nl (H H' : Hp) : Prop := ∀ b o, (∀ l, o ≠ HO.lst l) → H b = some o → H' b = some o
theorem Nl.refl (H : Hp) : Nl H H := fun _ _ _ e => e
theorem Nl.trans {H H1 H2 : Hp} (a : Nl H H1) (b : Nl H1 H2) : Nl H H2 := fun c o n e => b c o n (a c o n e)
theorem Nl.same {H H' : Hp} (s : Same H H') : Nl H H' := fun b o _ e => s b o e
theorem Nl.upd {p : Addr} {l : List V} {H : Hp} {o' : HO} (hp : H p = some (.lst l)) : Nl H (upd H p o') := fun b o n e => by
  rw [upd_ne (fun q => by rw [q, hp] at e; exact n l (Option.some.inj e).symm)]
  exact e
theorem WishAt.nl {C : Addr} {H H' : Hp} {x e : Addr} {w : Nat} {rows : WRows} (k : Nl H H') (h : WishAt C H x e w rows) : WishAt C H' x e w rows := by
  obtain ⟨⟨dx, h1⟩, kvs, h2, h3⟩ := h
  exact ⟨⟨dx, k _ _ (fun _ q => by cases q) h1⟩, kvs, k _ _ (fun _ q => by cases q) h2, h3.mono fun _ _ ⟨e1, a, e2, e3⟩ => ⟨e1, a, e2, k _ _ (fun _ q => by cases q) e3⟩⟩
theorem at_seqN {t u : TS} {D : Ends} {σ : L2.St} {H : Hp} (h : t { D with nx := u D } σ H) : tSeq t u D σ H := h
theorem at_nmN {k : Nat} {v : V} {σ : L2.St} {H : Hp} {Q : L2.St → Hp → Prop} (h : Q (σ.set k (some v)) H) : gName k v σ H Q := h
theorem at_asN {te : TE} {tg : TG} {D : Ends} {σ : L2.St} {H : Hp} (h : te σ H fun x H1 => tg x σ H1 D.nx) : tAsg te tg D σ H := h
theorem at_cbN {r : List V → Hp → VK → Prop} {t : TE} {σ : L2.St} {H : Hp} {Q : VK} (h : t σ H fun x H1 => r [x] H1 Q) : tCB r (tCons t tNil) σ H Q := h
theorem val_vlW {kw : List (Key × V)} {us : List Str} (hk : kw.map (·.1) = us.map Sum.inr) {u : Str} (h : u ∈ us) : valV kw (.inr u) = some (vlW kw u) := by
  have h2 := valV_mem.mpr ((inr_mem hk u).mpr h)
  unfold vlW
  cases e : valV kw (.inr u) with
  | none => rw [e] at h2; cases h2
  | some v => rfl
def lastR : WRows := [(("" : Str), [some "b", none, some "a"])]
theorem lastR_ok : RowsW isT 2 lastR := ⟨⟨by decide +kernel, fun u hu => by
    rw [List.mem_singleton.mp hu]
    exact bits_empty, fun u hu => by
    rw [List.mem_singleton.mp hu]
    exact Nat.zero_le _⟩, fun r hr => by
    rw [List.mem_singleton.mp hr]
    refine ⟨by decide +kernel, fun o ho => ?_, by show 3 ≤ 40; decide⟩
    simp only [List.mem_cons, List.not_mem_nil, or_false] at ho
    rcases ho with rfl | rfl | rfl <;> first | exact trivial | exact (show isT _ = true by decide +kernel)⟩
def lastS : WRows := [(("" : Str), [none, some "a", some "b"])]
theorem lastR_sort : sortW lastR = lastS := by
  have e1 : sortS ([("" : Str)] : List Str) = [("" : Str)] := (sortS_of (List.Perm.refl _) (by decide +kernel)).symm
  have e2 : sortS ([("b" : Str), ("a" : Str)] : List Str) = [("a" : Str), ("b" : Str)] := (sortS_of (List.Perm.swap _ _ _) (by decide +kernel)).symm
  show (sortS [("" : Str)]).map (fun y => (y, ascO (look lastR y))) = lastS
  rw [e1]
  show [(("" : Str), [none] ++ (sortS [("b" : Str), ("a" : Str)]).map some)] = lastS
  rw [e2]
  rfl
theorem lastS_ok : OkL isT [none, some ("a" : Str), some ("b" : Str)] := ⟨by decide +kernel, fun o ho => by
    simp only [List.mem_cons, List.not_mem_nil, or_false] at ho
    rcases ho with rfl | rfl | rfl <;> first | exact trivial | exact (show isT _ = true by decide +kernel), by decide⟩
theorem WishAt.off {C : Addr} {H : Hp} {G x e : Addr} {w : Nat} {rows : WRows} {o o' : HO} (h : WishAt C H x e w rows) (hG : H G = some o) (no1 : ∀ C dx fs, o ≠ .ins C dx fs) (no2 : ∀ xs, o ≠ .tup xs) (ne : e ≠ G) : WishAt C (upd H G o') x e w rows := by
  obtain ⟨⟨dx, h1⟩, kvs, h2, h3⟩ := h
  refine ⟨⟨dx, by rw [upd_ne (fun q => by rw [q, hG] at h1; exact no1 _ _ _ (Option.some.inj h1))]; exact h1⟩, kvs, by rw [upd_ne ne]; exact h2, h3.mono fun _ _ ⟨e1, a, e2, e3⟩ => ⟨e1, a, e2, ?_⟩⟩
  rw [upd_ne (fun q => by rw [q, hG] at e3; exact no2 _ (Option.some.inj e3))]
  exact e3
theorem wishW_nil (z : Nat) : RowsW isT z [] := ⟨⟨List.nodup_nil, fun _ h => absurd h List.not_mem_nil, fun _ h => absurd h List.not_mem_nil⟩, fun _ h => absurd h List.not_mem_nil⟩
/-- dict([(k, v(k)) for k in d if b(k)]) where d is locked already -/
theorem redictN {K : PySem.W.Frag} {i : Nat} {td : TE} {tt : TT} {te : TE} {σ : L2.St} {H : Hp} {Q : VK} {d : Addr} {od : Obj} {W : List (Key × V)} {us : List Str} (st : Str → L2.St) (b : Str → Bool) (f : Str → V) (hd : H d = some (.frz od (.dK W))) (hk : W.map (·.1) = us.map Sum.inr) (nd : us.Nodup) (few : us.length ≤ 900)
    (htd : ∀ H' (Q' : VK), Q' (.ref d) H' → td σ H' Q') (hst : ∀ u, (wipe σ [i]).set i (some (.str u)) = st u) (hw : ∀ u, wipe (st u) [i] = wipe σ [i])
    (ht : ∀ u ∈ us, ∀ H' (Q' : Bool → Hp → Prop), H' d = some (.frz od (.dK W)) → Q' (b u) H' → tt (st u) H' Q')
    (he : ∀ u ∈ us, ∀ H' (Q' : VK), H' d = some (.frz od (.dK W)) → (∀ T, H' T = none → Q' (.ref T) (upd H' T (.tup [.str u, f u]))) → te (st u) H' Q')
    (q : ∀ (p : Addr) (H' : Hp), H p = none → Same H H' → H' p = some (.dK ((us.filter b).map fun u => (.inr u, f u))) → Q (.ref p) H') :
    tLc (iKeys td) (gName i) tt te [i] σ H fun x H1 => rDictP K [x] H1 Q := by
  refine htd _ _ ⟨d, od, rfl, .inl ⟨W, hd, fun D nD => ?_⟩⟩
  refine lc_tups walk_keys us V.str st b V.str f (keysN_len hk) nD (by rw [← keysN_len hk]; omega) (fun _ s => s _ _ hd) (keysNY hk) (fun u _ H' Q' _ h => ?_) (fun u _ => hw u) (fun u hu H' Q' s h => ht u hu H' Q' (s _ _ hd) h) (fun u hu _ H' Q' s h => he u hu H' Q' (s _ _ hd) h) fun H' ts s hD hp => ?_
  · show Q' ((wipe σ [i]).set i (some (.str u))) H'
    rw [hst]
    exact h
  · refine ⟨D, ts, (us.filter b).map fun u => (.inr u, f u), rfl, SqL.of hD, prdN_map (R := fun p (kv : Key × V) => SqT K H' p [kV kv.1, kv.2]) _ (hp.mono fun t u h => SqT.of h.1), fun p np => ?_⟩
    have knd : (((us.filter b).map fun u => ((.inr u : Key), f u)).map (·.1)).Nodup := by
      rw [List.map_map]
      exact (nd.filter _).map (fun x : Str => (Sum.inr x : Key)) fun a b h e => h (Sum.inr.inj e)
    rw [mergeK_nl knd]
    exact q p _ (s.free np) (s.trans (same_upd np)) upd_same
abbrev sL : Stmt := top 30
section
variable {P : Program} {w : World} {K : PySem.W.Frag} {mg : Str → Option Value} {base : Heap}
abbrev NL : List Str := ["script", "pen", "turn", "size", "wanted", "given", "prefix", "seen", "first", "step", "back", "less", "other"]
theorem scL : FnScope NL ["script"] (defScope sL) := ⟨rfl, rfl, rfl, by decide +kernel, rfl, by decide +kernel, by decide +kernel⟩
set_option maxHeartbeats 8000000 in
theorem ok_L {f fP fS fWa fWT fWVw fWEq fRi fWWo fRe fWLn fWR pWR CW : Addr} {fd fdP fdS fdWa fdWT fdWVw fdWEq fdRi fdWWo fdRe fdWLn fdWR : FuncData} {k : Nat} (F : Fun K "law" "law" sL f fd) (sys : ∃ mm, base.Ns sysModules mm)
    (GP : FnOk P w K mg base CX0 k fP fdP ["script"] (spPen K))
    (FP : Fun K "_law_pen" "_law_pen" sP fP fdP) (bP : Binds K fdP ["script"] []) (gP : mg "_law_pen" = some (.ref fP))
    (m_range : mg "range" = none)
    (GS : FnOk P w K mg base CX0 k fS fdS ["pen"] spSize)
    (FS : Fun K "_law_size" "_law_size" sS fS fdS) (bS : Binds K fdS ["pen"] []) (gS : mg "_law_size" = some (.ref fS))
    (GWa : FnOk P w K mg base CX0 k fWa fdWa ["pen", "size", "most"] spWanted)
    (FWa : Fun K "_law_wanted" "_law_wanted" sWa fWa fdWa) (bWa : Binds K fdWa ["pen", "size", "most"] []) (gWa : mg "_law_wanted" = some (.ref fWa))
    (m_list : mg "list" = none)
    (m_dict : mg "dict" = none)
    (m_repr : mg "repr" = none)
    (GWT : FnOk P w K mg base CX0 k fWT fdWT ["self", "width", "rows"] (spInitW K CW))
    (MW : Mk K CW fWT) (gW : mg "Wish" = some (.ref CW))
    (bWT : Binds K fdWT ["self", "width", "rows"] [])
    (clW : Cls K CW)
    (GWVw : FnOk P w K mg base CX0 k fWVw fdWVw ["self", "prefix", "value"] (spWithW K CW))
    (mtWVw : Meth K CW "with_row" fWVw) (bWVw : Binds K fdWVw ["self", "prefix", "value"] [])
    (m_tuple : mg "tuple" = none)
    (GWEq : FnOk P w K mg base CX0 k fWEq fdWEq ["self", "other"] (spEqW CW))
    (OCW : ObjC K CW) (aWEq : PySem.W.findIn K (.ref CW) "__eq__" = some (some (.ref fWEq))) (iWEq : PySem.W.isFn K (.ref fWEq) = true) (bWEq : Binds K fdWEq ["self", "other"] [])
    (GRi : FnG P w K mg base k fRi fdRi ["some", "size", "wanted"] (spRight CW))
    (FRi : Fun K "_law_right" "_law_right" sRi fRi fdRi) (bRi : Binds K fdRi ["some", "size", "wanted"] []) (gRi : mg "_law_right" = some (.ref fRi))
    (GWWo : FnOk P w K mg base CX0 k fWWo fdWWo ["self", "prefix"] (spWithoutW K CW))
    (mtWWo : Meth K CW "without" fWWo) (bWWo : Binds K fdWWo ["self", "prefix"] [])
    (GRe : FnG P w K mg base k fRe fdRe ["pen", "first", "size", "wanted"] (spRep CW))
    (FRe : Fun K "_law_replaced_right" "_law_replaced_right" sRe fRe fdRe) (bRe : Binds K fdRe ["pen", "first", "size", "wanted"] []) (gRe : mg "_law_replaced_right" = some (.ref fRe))
    (GWLn : FnOk P w K mg base CX0 k fWLn fdWLn ["self"] (spLenM CW))
    (aWLn : PySem.W.findIn K (.ref CW) "__len__" = some (some (.ref fWLn))) (iWLn : PySem.W.isFn K (.ref fWLn) = true) (bWLn : Binds K fdWLn ["self"] [])
    (m_len : mg "len" = none)
    (kpWT : KBn K fdWT ["self", "width", "rows"] 1 ["width", "rows"] (fun us ws => us ++ ws) (fun vs zs => vs ++ zs))
    (GWR : FnOk P w K mg base CX0 k fWR fdWR ["self"] (spRows CW))
    (PWR : PropOf K CW "rows" pWR fWR) (bWR : Binds K fdWR ["self"] [])
    : FnG P w K mg base (k + 2) f fd ["script"] (spLaw K) := by
  refine okG F scL (fun vs H Q E h => ?_) (fun cdv A outer s H vs Q g hr h => ?_)
  · obtain ⟨a0, ns, rfl, _⟩ := h
    rfl
  · obtain ⟨a0, ns, rfl, hS, hlen, q⟩ := h
    have nd := scL.nd
    have hu := hr.units
    have hu1 := hu_of hr
    have hr1 := hr.mono (Nat.le_succ k)
    refine ⟨_, pss_cons (ps_set (i := 1) nd rfl (.inl rfl) (pe_call GP hr1 (by rfl) gP FP.kp bP .nil pass0 (pa_cons (pv 0) pa_nil)))
      (pss_cons (ps_for PassesOwn.never rfl (pi_range1 (by rfl) m_range (pa_cons pe_int pa_nil)) (pg_name (i := 2) nd rfl (.inl rfl))
        (pss_cons (ps_set (i := 3) nd rfl (.inl rfl) (pe_call GS hr1 (by rfl) gS FS.kp bS .nil pass0 (pa_cons (pv 1) pa_nil)))
        (pss_cons (ps_set (i := 4) nd rfl (.inr rfl) (pe_call GWa hr1 (by rfl) gWa FWa.kp bWa .nil pass0 (pa_cons (pv 1) (pa_cons (pv 3) (pa_cons pe_int pa_nil)))))
        (pss_cons (ps_set (i := 5) nd rfl (.inl rfl) (pe_callTy (call_dictPn rfl) (by rfl) m_dict (by decide +kernel) (pa_cons (pe_lock (pe_lc (own := [("prefix", 6)]) (g := gName 6) (tt := tYes) rfl nd (pi_keys (pv 4)) (blkOk_by (N := NL) (sc := defScope sL) (by decide +kernel)) (fun _ _ _ _ _ => pg_name (i := 6) nd rfl (.inl rfl)) (fun _ _ _ _ _ => pts_nil) (fun _ _ _ _ _ => (pe_tup (pa_cons (pv 6) (pa_cons (pe_callTy (r := rListOf K) call_list_of (by rfl) m_list (by decide +kernel) (pa_cons (pe_dget hu1 (pv 4) (pv 6) (fun _ _ => rfl)) pa_nil)) pa_nil)))))) pa_nil)))
        (pss_cons (ps_set (i := 7) nd rfl (.inl rfl) (pe_callB (call_repr g hu sys) (by rfl) m_repr (by decide +kernel) (pa_cons (pv 5) pa_nil)))
        (pss_cons (ps_par3 (i := 8) (j := 9) (l := 10) (by rfl) nd rfl rfl rfl (by decide) (by decide) (by decide) rfl rfl rfl (pa_cons (pe_make MW GWT hr (by rfl) gW bWT .nil pass0 (pa_cons (pv 3) (pa_cons (pv 5) pa_nil))) (pa_cons (pe_make MW GWT hr (by rfl) gW bWT .nil pass0 (pa_cons (pv 3) (pa_cons pe_dnewK pa_nil))) (pa_cons (pe_make MW GWT hr (by rfl) gW bWT .nil pass0 (pa_cons (pv 3) (pa_cons (pv 5) pa_nil))) pa_nil))) (by rfl))
        (C8.pss_cut (ps_if (pt_cmpR op_ne (pe_callB (call_repr g hu sys) (by rfl) m_repr (by decide +kernel) (pa_cons (pv 5) pa_nil)) (pv 7) (nomark _))
          (pss_one (ps_ret pe_bl)) pss_nil)
        (C8.pss_cut (ps_lock (ps_for PassesOwn.never rfl (pi_keys (pv 5)) (pg_name (i := 6) nd rfl (.inr rfl))
          (pss_cons (ps_set (i := 9) nd rfl (.inl rfl) (pe_meth (pv 9) clW mtWVw GWVw hr1 bWVw .nil pass0 (pa_cons (pv 6) (pa_cons (pe_callTy call_tuple_of (by rfl) m_tuple (by decide +kernel) (pa_cons (pe_rev (pe_dget hu1 (pv 5) (pv 6) (fun _ _ => rfl)) (po_some (pe_un un_neg pe_int))) pa_nil)) pa_nil))))
          (pss_one (ps_expr (pe_bm PySem.F.plainAttrs_list PySem.F.slot_list_append PySem.F.type_list_append mt_append (pe_dget hu1 (pv 5) (pv 6) (fun _ _ => rfl)) (pa_cons pe_str pa_nil)))))))
        (pss_cons (ps_expr (pe_bm0 PySem.F.plainAttrs_dict PySem.F.slot_dict_clear PySem.F.type_dict_clear mt_dclear (pv 5)))
        (C8.pss_cut (ps_if (PW.pt (pw_or (pt_not (pt_val (pe_callG GRi g hr1 (by rfl) gRi FRi.kp bRi (pa_cons (pv 8) (pa_cons (pv 3) (pa_cons (pv 4) pa_nil)))))) (pw_or (pt_not (pt_val (pe_callG GRi g hr1 (by rfl) gRi FRi.kp bRi (pa_cons (pv 9) (pa_cons (pv 3) (pa_cons (pv 4) pa_nil)))))) (pw_or1 (pt_cmpR (op_neI GWEq hr OCW aWEq iWEq bWEq) (pv 9) (pv 8) (nomark _))))))
          (pss_one (ps_ret pe_bl)) pss_nil)
        (C8.pss_cut (ps_lock (ps_for PassesOwn.never rfl (pi_keys (pv 4)) (pg_name (i := 6) nd rfl (.inr rfl))
          (pss_cons (ps_set (i := 10) nd rfl (.inl rfl) (pe_meth (pv 10) clW mtWWo GWWo hr1 bWWo .nil pass0 (pa_cons (pv 6) pa_nil)))
          (pss_cons (ps_set (i := 11) nd rfl (.inl rfl) (pe_callTy (call_dictPn rfl) (by rfl) m_dict (by decide +kernel) (pa_cons (pe_lc (own := [("other", 12)]) (g := gName 12) rfl nd (pi_keys (pv 4)) (blkOk_by (N := NL) (sc := defScope sL) (by decide +kernel)) (fun _ _ _ _ _ => pg_name (i := 12) nd rfl (.inl rfl)) (fun _ _ _ _ _ => pts_one (pt_cmpR op_ne (pv 12) (pv 6) (nomark _))) (fun _ _ _ _ _ => (pe_tup (pa_cons (pv 12) (pa_cons (pe_dget hu1 (pv 4) (pv 12) (fun _ _ => rfl)) pa_nil))))) pa_nil)))
          (pss_one (ps_if (pt_not (pt_val (pe_callG GRi g hr1 (by rfl) gRi FRi.kp bRi (pa_cons (pe_meth (pv 8) clW mtWWo GWWo hr1 bWWo .nil pass0 (pa_cons (pv 6) pa_nil)) (pa_cons (pv 3) (pa_cons (pv 11) pa_nil))))))
            (pss_one (ps_ret pe_bl)) pss_nil))))))
        (C8.pss_cut (ps_if (pt_not (pt_val (pe_callG GRe g hr1 (by rfl) gRe FRe.kp bRe (pa_cons (pv 1) (pa_cons (pv 8) (pa_cons (pv 3) (pa_cons (pv 4) pa_nil)))))))
          (pss_one (ps_ret pe_bl)) pss_nil)
        (pss_one (ps_if (PW.pt (pw_or (pt_cmpR op_ne (pe_callB (call_lenI GWLn hr aWLn iWLn bWLn) (by rfl) m_len (by decide +kernel) (pa_cons (pv 10) pa_nil)) pe_int (nomark _)) (pw_or1 (pt_cmpR (op_neI GWEq hr OCW aWEq iWEq bWEq) (pv 10) (pe_make MW GWT hr (by rfl) gW bWT .nil pass0 (pa_cons (pv 3) (pa_cons pe_dnewK pa_nil))) (nomark _)))))
          (pss_one (ps_ret pe_bl)) pss_nil))))))))))))))
      (pss_one (ps_ret (pe_cmpR (op_eqDD (units65 hr)) (pe_prop (pe_makeK0 MW GWT hr (by rfl) gW kpWT pass0 (pk_cons pe_int (pk_cons (pe_disp (pps_cons pe_str (pe_lst (pa_cons pe_str (pa_cons pe_non (pa_cons pe_str pa_nil)))) pps_nil) (by rfl) (by rfl) (fun z => by cases z) (by decide)) pk_nil))) clW PWR GWR hr bWR .nil pass0 rfl) (pe_disp (pps_cons pe_str (pe_tup (pa_cons pe_non (pa_cons pe_str (pa_cons pe_str pa_nil)))) pps_nil) (by rfl) (by rfl) (fun z => by cases z) (by decide)) (nomark _))))), ?_⟩
    refine ⟨.ref a0, rfl, a0, ns, rfl, hS, hlen, fun H0 p c0 sm0 np nc hp => ?_⟩
    refine ⟨4, rfl, by decide, by decide, for_range (n := 4) (fun i σ H' => (∃ x2 x3 x4 x5 x6 x7 x8 x9 x10 x11, σ = [some (.ref a0), some (.ref p), x2, x3, x4, x5, x6, x7, x8, x9, x10, x11, none]) ∧ ∃ m, m.length ≤ 1 ∧ Pen H' p c0 (2000 * i) m) ⟨⟨_, _, _, _, _, _, _, _, _, _, rfl⟩, [], by decide, hp⟩ ?_ ?_⟩
    · rintro i σ H1 hi ⟨⟨x2, x3, x4, x5, x6, x7, x8, x9, x10, x11, rfl⟩, m, hm, hp1⟩
      refine ⟨.ref p, rfl, p, c0, 2000 * i, m, rfl, hp1, by show 2000 * i + 100 ≤ 1000000000000; omega, hm, fun z m' H2 b2 p2 hm' z1 z32 => ?_⟩
      refine ⟨.ref p, rfl, .int z, rfl, p, c0, _, z, 7, m', rfl, p2, by show 2000 * i + 1 + 2000 ≤ 1000000000000; omega, z32, by decide, fun d kw ws H3 b3 nd3 hd lv ok few p3 => ?_⟩
      have dp : d ≠ p := p2.ne_p nd3
      obtain ⟨lp3, hlp3⟩ := p3.lst
      have hp3 : H3 p ≠ none := by rw [hlp3]; exact fun z => nomatch z
      have kl : kw.length = ws.length := by
        have := congrArg List.length lv.keys
        rwa [List.length_map, List.length_map, List.length_map] at this
      have wnd := ok.pfx.nd
      clear b2 p2 b3 nd3 hp1
      show gName 4 (V.ref d) [some (.ref a0), some (.ref p), some (.int (0 + i)), some (.int z), x4, x5, x6, x7, x8, x9, x10, x11, none] H3 _
      -- the lists copied
      refine ⟨d, .dK kw, hd, trivial, fun od => ⟨.ref d, rfl, d, od, rfl, .inl ⟨kw, upd_same, fun D nD => ?_⟩⟩⟩
      obtain ⟨nDd, nD3⟩ := upd_free nD
      have hdf := upd_same (H := H3) (a := d) (o := .frz od (.dK kw))
      have kp : ∀ c o, c ≠ d → H3 c = some o → (upd H3 d (.frz od (.dK kw))) c = some o := fun c o hc e => by rw [upd_ne hc]; exact e
      have fr : ∀ c, (upd H3 d (.frz od (.dK kw))) c = none → c ≠ d ∧ H3 c = none := fun c e => upd_free e
      have lvf : LVal p (upd H3 d (.frz od (.dK kw))) kw ws := lv.mono fun kv r ⟨e, a, e2, ha, n⟩ => ⟨e, a, e2, kp _ _ (ne_of ha hd (fun q => by cases q)) ha, n⟩
      revert hdf kp fr lvf nD
      generalize upd H3 d (.frz od (.dK kw)) = Hf
      intro nD hdf kp fr lvf
      refine lc_it walk_keys (fun j H' => ∃ (ts : List Addr) (kg : List (Key × V)) (as : List Addr), H' D = some (.lst (ts.map V.ref)) ∧ Paired (fun t (kv : Key × V) => H' t = some (.tup [kV kv.1, kv.2]) ∧ t ≠ D ∧ t ≠ d) ts kg ∧ GivenAt (fun a => H3 a = none ∧ a ≠ D ∧ a ≠ d) H' kg (ws.take j) as ∧ (∀ a ∈ as, a ≠ D ∧ a ≠ d ∧ H' a ≠ none) ∧ Same Hf H') ⟨[], [], [], upd_same, .nil, ⟨.nil, rfl, List.nodup_nil⟩, fun _ h => absurd h List.not_mem_nil, same_upd nD⟩ (fun _ _ _ h => by obtain ⟨_, _, _, _, _, _, _, s⟩ := h; exact s _ _ hdf) ?_ ?_
      · rintro j v HA HB hj ⟨ts, kg, as, hD, pt, ga, an, sA⟩ ⟨rfl, k, v', hkv, rfl⟩
        obtain ⟨y, hy, rfl⟩ := key_at lv.keys hkv
        rw [List.getElem?_map] at hy
        obtain ⟨r, hr, rfl⟩ := Option.map_eq_some_iff.mp hy
        have hrm : r ∈ ws := List.mem_of_getElem? hr
        have hym : r.1 ∈ ws.map (·.1) := List.mem_map.mpr ⟨r, hrm, rfl⟩
        obtain ⟨a, va, ha⟩ := lvf.at hym
        have lkr : look ws r.1 = r.2 := look_mem wnd hrm
        rw [lkr] at ha
        have lt := prd_len pt
        have lk := prd_len ga.pr
        rw [List.length_take] at lk
        refine ⟨rfl, yes_if ⟨.str r.1, rfl, .ref d, rfl, .str r.1, rfl, d, .ref a, rfl, .inl ⟨kw, .inr r.1, .inr ⟨od, sA _ _ hdf⟩, rfl, va.symm⟩, a, r.2.map optV, rfl, .inl (SqL.of (sA _ _ ha)), fun b nb => ⟨by show 2 ≤ sizeLine; decide, fun T nT => ?_⟩⟩⟩
        have s5 := (same_upd (o := .lst (r.2.map optV)) nb).trans (same_upd (o := .tup [.str r.1, .ref b]) nT)
        obtain ⟨Tb, nT2⟩ := upd_free nT
        have hD5 := s5 _ _ hD
        have TD : T ≠ D := (ne_of_none hD nT2).symm
        have bD : b ≠ D := (ne_of_none hD nb).symm
        have bf := fr b (sA.free nb)
        have Tf := fr T (sA.free nT2)
        refine ⟨_, hD5, Nat.lt_of_le_of_lt (show _ ≤ 100 by rw [List.length_map]; omega) (by decide), ts ++ [T], kg ++ [(.inr r.1, .ref b)], as ++ [b], by rw [upd_same, List.map_append]; rfl, prd_snoc (pt.mono fun t kv h => ⟨by rw [upd_ne h.2.1]; exact s5 _ _ h.1, h.2⟩) ⟨by rw [upd_ne TD, upd_same]; rfl, TD, Tf.1⟩, ?_, fun a ha => ?_, fun b' o' eb => ?_⟩
        · refine ⟨?_, ?_, ?_⟩
          · rw [List.take_add_one, hr]
            refine prd_snoc (ga.pr.mono fun kv r h => ?_) ⟨rfl, b, rfl, by rw [upd_ne bD, upd_ne (Ne.symm Tb), upd_same], bf.2, bD, bf.1⟩
            obtain ⟨h1, a1, h2, h3, h4⟩ := h
            exact ⟨h1, a1, h2, by rw [upd_ne h4.2.1]; exact s5 _ _ h3, h4⟩
          · rw [List.map_append, List.map_append, ga.vals]; rfl
          · refine List.nodup_append.mpr ⟨ga.nd, List.nodup_cons.mpr ⟨List.not_mem_nil, List.nodup_nil⟩, fun a1 h1 b1 h2 e => ?_⟩
            rw [List.mem_singleton.mp h2] at e
            exact (an a1 h1).2.2 (by rw [e]; exact nb)
        · rcases List.mem_append.mp ha with h | h
          · obtain ⟨h1, h2, h3⟩ := an a h
            refine ⟨h1, h2, fun q => ?_⟩
            rw [upd_ne h1] at q
            exact h3 (s5.free q)
          · rw [List.mem_singleton.mp h]
            exact ⟨bD, bf.1, by rw [upd_ne bD, upd_ne (Ne.symm Tb), upd_same]; exact fun z => nomatch z⟩
        · rw [upd_ne (ne_of_none eb nD)]
          exact s5 _ _ (sA _ _ eb)
      rintro HA ⟨ts, kg, as, hD, pt, ga, an, sA⟩
      rw [kl, List.take_length] at ga
      refine ⟨sA _ _ hdf, ?_⟩
      have sd : Same H3 (upd HA d (.dK kw)) := fun c o e => by
        by_cases hc : c = d
        · rw [hc, upd_same, ← hd, ← hc, e]
        · rw [upd_ne hc]
          exact sA _ _ (kp c o hc e)
      have gad : GivenAt (fun a => H3 a = none) (upd HA d (.dK kw)) kg ws as := ⟨ga.pr.mono fun kv r ⟨e, a, e2, ha, na⟩ => ⟨e, a, e2, by rw [upd_ne na.2.2]; exact ha, na.1⟩, ga.vals, ga.nd⟩
      have knd : (kg.map (·.1)).Nodup := by rw [(gad.lval (p := p) hp3).keys]; exact wnd.map Sum.inr (fun a b h e => h (Sum.inr.inj e))
      refine ⟨D, ts, kg, rfl, SqL.of (by rw [upd_ne nDd]; exact hD), pt.mono fun t kv h => SqT.of (by rw [upd_ne h.2.2]; exact h.1), fun G nG => ?_⟩
      rw [mergeK_nl knd]
      have sG := same_upd (o := .dK kg) nG
      have s35 := sd.trans sG
      have ga5 := gad.same sG
      have hG := upd_same (H := upd HA d (.dK kw)) (a := G) (o := .dK kg)
      have nG3 := sd.free nG
      have hd5 := s35 _ _ hd
      have lv5 := lv.same s35
      clear sd gad sG nG ga an pt hD sA lvf kp fr hdf nD nDd
      revert s35 ga5 hG hd5 lv5
      generalize upd (upd HA d (.dK kw)) G (.dK kg) = H5
      intro s35 ga5 hG hd5 lv5
      have lvG := ga5.lval (p := p) hp3
      have okDL := ok_rowsL ok z32 (by omega)
      show gName 5 (V.ref G) [some (.ref a0), some (.ref p), some (.int (0 + i)), some (.int z), some (.ref d), x5, x6, x7, x8, x9, x10, x11, none] H5 _
      refine ⟨.ref G, rfl, .ref G, .dict (rowsL ws), fun _ => True, rfl, .dic trivial (.inl hG) (dr_rowsL lvG), okDL.sh, Nat.le_trans okDL.dp (by decide), Nat.le_trans okDL.ln (by decide), ?_⟩
      generalize hshow : PyData.shown (.dict (rowsL ws)) = txt
      show gName 7 (V.str txt) [some (.ref a0), some (.ref p), some (.int (0 + i)), some (.int z), some (.ref d), some (.ref G), x6, x7, x8, x9, x10, x11, none] H5 _
      refine ⟨.int z, rfl, .ref G, rfl, fun f df nf ndf nef => ?_⟩
      have sM : Same H5 (upd (upd H5 df (.own f)) f (.ins CW df [])) := fun b o e => by rw [upd_ne (ne_of_none e nf), upd_ne (ne_of_none e ndf)]; exact e
      refine ⟨f, df, G, z, kg, ws, rfl, upd_same, z1, z32, sM _ _ hG, (LVal.in lvG).same sM, ok, by omega, fun ef H6 nef' hwf keepf => ⟨rfl, ?_⟩⟩
      have s6 : Same H5 H6 := Same.made nf ndf keepf
      have efG : ef ≠ G := fun q => by
        have := (upd_free (upd_free nef').2).2
        rw [q, hG] at this
        cases this
      have nef3 : H3 ef = none := s35.free (upd_free (upd_free nef').2).2
      clear sM keepf nf ndf nef nef'
      refine ⟨.int z, rfl, fun E1 nE1 => fun g dg ng ndg neg => ?_⟩
      have sE := same_upd (o := .dK []) nE1
      have sM : Same (upd H6 E1 (.dK [])) (upd (upd (upd H6 E1 (.dK [])) dg (.own g)) g (.ins CW dg [])) := fun b o e => by rw [upd_ne (ne_of_none e ng), upd_ne (ne_of_none e ndg)]; exact e
      refine ⟨g, dg, E1, z, [], [], rfl, upd_same, z1, z32, sM _ _ upd_same, .nil, wishW_nil z, by decide, fun eg H7 neg' hwg keepg => ⟨rfl, ?_⟩⟩
      have s7 : Same H6 H7 := sE.trans (Same.made ng ndg keepg)
      have egG : eg ≠ G := fun q => by
        have := (upd_free (upd_free neg').2).2
        rw [q, sE _ _ (s6 _ _ hG)] at this
        cases this
      clear sM keepg ng ndg neg neg' sE nE1
      have hG7 := s7 _ _ (s6 _ _ hG)
      have lvG7 := (lvG.same s6).same s7
      refine ⟨.int z, rfl, .ref G, rfl, fun bk db nb ndb neb => ?_⟩
      have sM : Same H7 (upd (upd H7 db (.own bk)) bk (.ins CW db [])) := fun b o e => by rw [upd_ne (ne_of_none e nb), upd_ne (ne_of_none e ndb)]; exact e
      refine ⟨bk, db, G, z, kg, ws, rfl, upd_same, z1, z32, sM _ _ hG7, (LVal.in lvG7).same sM, ok, by omega, fun eb H8 neb' hwb keepb => ⟨rfl, ?_⟩⟩
      have s8 : Same H7 H8 := Same.made nb ndb keepb
      have hwf8 := (hwf.same s7).same s8
      have hwg8 := hwg.same s8
      have s58 := s6.trans (s7.trans s8)
      have s38 := s35.trans s58
      have hG8 := s8 _ _ hG7
      have ga8 := ga5.same s58
      have lvG8 := lvG7.same s8
      have ebG : eb ≠ G := fun q => by
        have := (upd_free (upd_free neb').2).2
        rw [q, hG7] at this
        cases this
      have neb3 : H3 eb = none := s35.free (s6.free (s7.free (upd_free (upd_free neb').2).2))
      clear sM keepb nb ndb neb neb' s6 s7 s8 s58 hwf hwg hG hG7 lvG lvG7 ga5 hd5 lv5 s35
      refine ⟨_, _, _, rfl, ?_⟩
      refine ⟨fun σ H' => σ = [some (.ref a0), some (.ref p), some (.int (0 + i)), some (.int z), some (.ref d), some (.ref G), x6, some (.str txt), some (.ref f), some (.ref g), some (.ref bk), x11, none] ∧ H' = H8, ?_, ?_⟩
      · refine ⟨.ref G, rfl, .ref G, .dict (rowsL ws), fun _ => True, rfl, .dic trivial (.inl hG8) (dr_rowsL lvG8), okDL.sh, Nat.le_trans okDL.dp (by decide), Nat.le_trans okDL.ln (by decide), .str txt, rfl, rfl, _, rfl, ?_⟩
        rw [hshow]
        exact iteNS rfl ⟨rfl, rfl⟩
      rintro σ H8' ⟨rfl, rfl⟩
      -- the rows one by one
      refine ⟨fun σ H' => ∃ x6 st est, σ = [some (.ref a0), some (.ref p), some (.int (0 + i)), some (.int z), some (.ref d), some (.ref G), x6, some (.str txt), some (.ref f), some (.ref st), some (.ref bk), x11, none] ∧ Same H3 H' ∧ WishAt CW H' f ef z (sortW ws) ∧ WishAt CW H' st est z (sortW ws) ∧ WishAt CW H' bk eb z (sortW ws) ∧ H' G = some (.dK kg) ∧ est ≠ G, ?_, ?_⟩
      · refine ⟨G, .dK kg, hG8, trivial, fun oG => ⟨.ref G, rfl, G, oG, rfl, .inl ⟨kg, upd_same, ?_⟩⟩⟩
        have offG : ∀ {x e : Addr} {rows : WRows} {o' : HO}, WishAt CW H8' x e z rows → e ≠ G → WishAt CW (upd H8' G o') x e z rows := fun h ne => h.off hG8 (fun _ _ _ q => by cases q) (fun _ q => by cases q) ne
        have hwfL := offG (o' := .frz oG (.dK kg)) hwf8 efG
        have hwgL := offG (o' := .frz oG (.dK kg)) hwg8 egG
        have hwbL := offG (o' := .frz oG (.dK kg)) hwb ebG
        have s3L : Same H3 (upd H8' G (.frz oG (.dK kg))) := fun b o e => by rw [upd_ne (ne_of_none e nG3)]; exact s38 _ _ e
        have gaL : GivenAt (fun a => H3 a = none) (upd H8' G (.frz oG (.dK kg))) kg ws as := ⟨ga8.pr.mono fun kv r ⟨e, a, e2, ha, na⟩ => ⟨e, a, e2, by rw [upd_ne (ne_of ha hG8 (fun q => by cases q))]; exact ha, na⟩, ga8.vals, ga8.nd⟩
        have hGL := upd_same (H := H8') (a := G) (o := .frz oG (.dK kg))
        clear offG
        revert hwfL hwgL hwbL s3L gaL hGL
        generalize upd H8' G (.frz oG (.dK kg)) = HL
        intro hwfL hwgL hwbL s3L gaL hGL
        refine for_it walk_keys (fun j σ H' => (∃ x6 st est, σ = [some (.ref a0), some (.ref p), some (.int (0 + i)), some (.int z), some (.ref d), some (.ref G), x6, some (.str txt), some (.ref f), some (.ref st), some (.ref bk), x11, none] ∧ WishAt CW H' st est z (sortW (ws.take j)) ∧ est ≠ G) ∧ Same H3 H' ∧ Nl HL H' ∧ ∀ k a, j ≤ k → as[k]? = some a → ∃ r, ws[k]? = some r ∧ H' a = some (.lst (r.2.map optV)))
          ⟨⟨_, g, eg, rfl, by rw [List.take_zero]; exact hwgL, egG⟩, s3L, Nl.refl _, fun k a _ hk => ?_⟩ (fun _ _ _ _ h => h.2.2.1 _ _ (fun _ q => by cases q) hGL) ?_ ?_
        · have hk2 : k < ws.length := by
            have l1 := congrArg List.length gaL.vals
            rw [List.length_map, List.length_map] at l1
            have l2 := prd_len gaL.pr
            have := (List.getElem?_eq_some_iff.mp hk).1
            omega
          obtain ⟨a', h1, _, h3, _⟩ := gaL.at (List.getElem?_eq_getElem hk2)
          rw [hk] at h1
          cases h1
          exact ⟨_, List.getElem?_eq_getElem hk2, h3⟩
        · rintro j v σ HA HB hj ⟨⟨x6, st, est, rfl, hst, estG⟩, s3A, nlA, lsA⟩ ⟨rfl, k, v', hkv, rfl⟩
          obtain ⟨y, hy, rfl⟩ := key_at lvG8.keys hkv
          rw [List.getElem?_map] at hy
          obtain ⟨r, hr, rfl⟩ := Option.map_eq_some_iff.mp hy
          have hrm : r ∈ ws := List.mem_of_getElem? hr
          have hym : r.1 ∈ ws.map (·.1) := List.mem_map.mpr ⟨r, hrm, rfl⟩
          obtain ⟨a, has, hkg, _, na⟩ := gaL.at hr
          obtain ⟨r', hr', haA⟩ := lsA j a (Nat.le_refl _) has
          rw [hr] at hr'
          cases hr'
          have okl := ok.ok r hrm
          have hGA := nlA _ _ (fun _ q => by cases q) hGL
          have vg : valV kg (.inr r.1) = some (.ref a) := valV_some knd (List.mem_of_getElem? hkg)
          obtain ⟨⟨dst, hsto⟩, _⟩ := id hst
          show gName 6 (V.str r.1) [some (.ref a0), some (.ref p), some (.int (0 + i)), some (.int z), some (.ref d), some (.ref G), x6, some (.str txt), some (.ref f), some (.ref st), some (.ref bk), x11, none] HB _
          refine ⟨.ref st, rfl, st, dst, _, rfl, hsto, flds_no _ _ (by decide +kernel) (by decide +kernel), .str r.1, rfl, .ref G, rfl, .str r.1, rfl, G, .ref a, rfl, .inl ⟨kg, .inr r.1, .inr ⟨oG, hGA⟩, rfl, vg.symm⟩, 1, rfl, -1, rfl, rfl, a, r.2.map optV, rfl, SqL.of haA, fun Lr nLr => ?_⟩
          refine ⟨Lr, _, rfl, .inl ⟨SqL.of upd_same, fun tt ntt => ?_⟩⟩
          have s1 := (same_upd (o := .lst (r.2.map optV).reverse) nLr).trans (same_upd (o := .tup (r.2.map optV).reverse) ntt)
          have htt := upd_same (H := upd HB Lr (.lst (r.2.map optV).reverse)) (a := tt) (o := .tup (r.2.map optV).reverse)
          rw [← List.map_reverse] at htt
          have lj : (ws.take j).length ≤ 7 := by rw [List.length_take]; omega
          refine ⟨st, est, z, sortW (ws.take j), r.1, tt, r.2.reverse, rfl, hst.same s1, (rowsW_sub ok (List.take_sublist _ _)).sort, z1, z32, ok.pfx.bits _ hym, ok.pfx.len _ hym, .inr (SqT.of (by rw [List.map_reverse] at htt ⊢; exact htt)), okl.rev, by rw [sortW_len]; omega, fun st2 est2 HC nst2 nest2 s2 hw2 => ?_⟩
          rw [sortW_step ok (y := r.1) (l := r.2) hr] at hw2
          have sC := s1.trans s2
          have haC := sC _ _ haA
          have hGC := sC _ _ hGA
          have est2G : est2 ≠ G := fun q => by
            rw [q] at nest2
            rw [s1 _ _ hGA] at nest2
            cases nest2
          show gName 9 (V.ref st2) [some (.ref a0), some (.ref p), some (.int (0 + i)), some (.int z), some (.ref d), some (.ref G), some (.str r.1), some (.str txt), some (.ref f), some (.ref st), some (.ref bk), x11, none] HC _
          refine ⟨.ref G, rfl, .str r.1, rfl, G, .ref a, rfl, .inl ⟨kg, .inr r.1, .inr ⟨oG, hGC⟩, rfl, vg.symm⟩, .inl ⟨rfl, _, SqL.of haC⟩, a, _, .str "zz", rfl, rfl, haC, Nat.lt_of_le_of_lt (show _ ≤ 100 by rw [List.length_map]; have := okl.few; omega) (by decide), ?_⟩
          refine ⟨⟨_, st2, est2, rfl, hw2.but But.upd haC, est2G⟩, fun b o e => by rw [upd_ne (ne_of_none e na)]; exact sC _ _ (s3A _ _ e), nlA.trans ((Nl.same sC).trans (Nl.upd haC)), fun k b hk hb => ?_⟩
          obtain ⟨r2, h1, h2⟩ := lsA k b (by omega) hb
          refine ⟨r2, h1, ?_⟩
          have ba : b ≠ a := fun q => by
            rw [q] at hb
            have := (List.getElem?_inj (List.getElem?_eq_some_iff.mp has).1 gaL.nd).mp (has.trans hb.symm)
            omega
          rw [upd_ne ba]
          exact sC _ _ h2
        · rintro σ HA ⟨⟨x6, st, est, rfl, hst, estG⟩, s3A, nlA, lsA⟩
          have lk := prd_len gaL.pr
          rw [lk, List.take_length] at hst
          have hGA := nlA _ _ (fun _ q => by cases q) hGL
          have offG : ∀ {x e : Addr} {rows : WRows} {o' : HO}, WishAt CW HA x e z rows → e ≠ G → WishAt CW (upd HA G o') x e z rows := fun h ne => h.off hGA (fun _ _ _ q => by cases q) (fun _ q => by cases q) ne
          exact ⟨hGA, _, st, est, rfl, fun b o e => by rw [upd_ne (ne_of_none e nG3)]; exact s3A _ _ e, offG (hwfL.nl nlA) efG, offG hst estG, offG (hwbL.nl nlA) ebG, upd_same, estG⟩
      rintro σ H9 ⟨x6', st, est, rfl, s39, hwf9, hwst9, hwb9, hG9, estG⟩
      clear hwf8 hwg8 hwb s38 hG8 ga8 lvG8 H8'
      have efd : ef ≠ d := fun q => by rw [q, hd] at nef3; cases nef3
      have ebd : eb ≠ d := fun q => by rw [q, hd] at neb3; cases neb3
      refine ⟨.ref G, rfl, .inr (.inr (.inl ⟨rfl, .inl ⟨_, hG9⟩⟩)), G, kg, rfl, rfl, hG9, ?_⟩
      have offG : ∀ {x e : Addr} {rows : WRows} {o' : HO}, WishAt CW H9 x e z rows → e ≠ G → WishAt CW (upd H9 G o') x e z rows := fun h ne => h.off hG9 (fun _ _ _ q => by cases q) (fun _ q => by cases q) ne
      have hwf := offG (o' := .dK []) hwf9 efG
      have hwst := offG (o' := .dK []) hwst9 estG
      have hwb := offG (o' := .dK []) hwb9 ebG
      have s310 : Same H3 (upd H9 G (.dK [])) := fun b o e => by rw [upd_ne (ne_of_none e nG3)]; exact s39 _ _ e
      clear offG hwf9 hwst9 hwb9 hG9 s39 efG estG ebG egG
      revert hwf hwst hwb s310
      generalize upd H9 G (.dK []) = H10
      intro hwf hwst hwb s310
      have okS := ok.sort
      have lsw : (sortW ws).length ≤ 7 := by rw [sortW_len]; exact few
      refine ⟨fun σ H' => σ = [some (.ref a0), some (.ref p), some (.int (0 + i)), some (.int z), some (.ref d), some (.ref G), x6', some (.str txt), some (.ref f), some (.ref st), some (.ref bk), x11, none] ∧ Same H10 H', ?_, ?_⟩
      · refine ⟨.ref f, rfl, .int z, rfl, .ref d, rfl, f, ef, d, p, z, kw, ws, rfl, hwf, s310 _ _ hd, lv.same s310, ok, z32, by omega, fun Ha sa => ⟨true, rfl, iteF ?_⟩⟩
        refine ⟨.ref st, rfl, .int z, rfl, .ref d, rfl, st, est, d, p, z, kw, ws, rfl, hwst.same sa, sa _ _ (s310 _ _ hd), (lv.same s310).same sa, ok, z32, by omega, fun Hb sb => ⟨true, rfl, iteF ?_⟩⟩
        have sab := sa.trans sb
        have h1 := hwst.same sab
        have h2 := hwf.same sab
        obtain ⟨⟨d1, ho1⟩, _⟩ := id h1
        obtain ⟨⟨d2, ho2⟩, _⟩ := id h2
        exact ⟨.ref st, rfl, .ref f, rfl, st, f, d1, d2, _, _, rfl, rfl, ho1, ho2, st, f, est, ef, z, sortW ws, rfl, h1, h2, okS.pfx.nd, okS.ok, true, rfl, _, rfl, iteF ⟨rfl, sab⟩⟩
      rintro σ HA ⟨rfl, sA⟩
      have s3A := s310.trans sA
      have hwfA := hwf.same sA
      have hwbA := hwb.same sA
      have hdA := s3A _ _ hd
      clear hwf hwst hwb s310 sA
      refine ⟨fun σ H' => ∃ x6 x11 bk eb, σ = [some (.ref a0), some (.ref p), some (.int (0 + i)), some (.int z), some (.ref d), some (.ref G), x6, some (.str txt), some (.ref f), some (.ref st), some (.ref bk), x11, none] ∧ Same HA H' ∧ WishAt CW H' bk eb z (sortW []), ?_, ?_⟩
      · refine ⟨d, .dK kw, hdA, trivial, fun od => ⟨.ref d, rfl, d, od, rfl, .inl ⟨kw, upd_same, ?_⟩⟩⟩
        have offd : ∀ {x e : Addr} {rows : WRows} {o' : HO}, WishAt CW HA x e z rows → e ≠ d → WishAt CW (upd HA d o') x e z rows := fun h ne => h.off hdA (fun _ _ _ q => by cases q) (fun _ q => by cases q) ne
        have hwfL := offd (o' := .frz od (.dK kw)) hwfA efd
        have hwbL := offd (o' := .frz od (.dK kw)) hwbA ebd
        have lvA := lv.same s3A
        have lvL : LVal p (upd HA d (.frz od (.dK kw))) kw ws := lvA.mono fun kv r ⟨e, a, e2, ha, n⟩ => ⟨e, a, e2, by rw [upd_ne (ne_of ha hdA (fun q => by cases q))]; exact ha, n⟩
        have hdL := upd_same (H := HA) (a := d) (o := .frz od (.dK kw))
        have kp : ∀ b o, b ≠ d → HA b = some o → (upd HA d (.frz od (.dK kw))) b = some o := fun b o nb e => by rw [upd_ne nb]; exact e
        clear offd
        revert hwfL hwbL lvL hdL kp
        generalize upd HA d (.frz od (.dK kw)) = HL
        intro hwfL hwbL lvL hdL kp
        refine for_it walk_keys (fun j σ H' => (∃ x6 x11 bk eb, σ = [some (.ref a0), some (.ref p), some (.int (0 + i)), some (.int z), some (.ref d), some (.ref G), x6, some (.str txt), some (.ref f), some (.ref st), some (.ref bk), x11, none] ∧ WishAt CW H' bk eb z (sortW (ws.drop j)) ∧ eb ≠ d) ∧ Same HL H') ⟨⟨_, _, bk, eb, rfl, hwbL, ebd⟩, Same.refl _⟩ (fun _ _ _ _ h => h.2 _ _ hdL) ?_ ?_
        · rintro j v σ HB HC hj ⟨⟨x6, x11, bk, eb, rfl, hbk, ebd⟩, sB⟩ ⟨rfl, k, v', hkv, rfl⟩
          obtain ⟨y, hy, rfl⟩ := key_at lv.keys hkv
          rw [List.getElem?_map] at hy
          obtain ⟨r, hr, rfl⟩ := Option.map_eq_some_iff.mp hy
          have hrm : r ∈ ws := List.mem_of_getElem? hr
          have hym : r.1 ∈ ws.map (·.1) := List.mem_map.mpr ⟨r, hrm, rfl⟩
          have nd2 : ((ws.drop j).map (·.1)).Nodup := by rw [List.map_drop]; exact wnd.sublist (List.drop_sublist _ _)
          have hrd : r.1 ∈ (sortW (ws.drop j)).map (·.1) := by
            rw [sortW_keys, mem_sortS]
            exact List.mem_map.mpr ⟨r, List.mem_of_getElem? (i := 0) (by rw [List.getElem?_drop]; exact hr), rfl⟩
          obtain ⟨⟨dbk, hbko⟩, _⟩ := id hbk
          have hdC := sB _ _ hdL
          have ld : (ws.drop j).length ≤ 7 := by rw [List.length_drop]; omega
          show gName 6 (V.str r.1) [some (.ref a0), some (.ref p), some (.int (0 + i)), some (.int z), some (.ref d), some (.ref G), x6, some (.str txt), some (.ref f), some (.ref st), some (.ref bk), x11, none] HC _
          refine ⟨.ref bk, rfl, bk, dbk, _, rfl, hbko, flds_no _ _ (by decide +kernel) (by decide +kernel), .str r.1, rfl, bk, eb, z, sortW (ws.drop j), r.1, rfl, hbk, (rowsW_sub ok (List.drop_sublist _ _)).sort, z1, z32, hrd, by rw [sortW_len]; omega, fun bk2 eb2 HD nb2 neb2 s1 hw2 => ?_⟩
          rw [sortW_filt nd2, drop_filt wnd hr] at hw2
          have eb2d : eb2 ≠ d := fun q => by rw [q, hdC] at neb2; cases neb2
          have hdD := s1 _ _ hdC
          show gName 10 (V.ref bk2) [some (.ref a0), some (.ref p), some (.int (0 + i)), some (.int z), some (.ref d), some (.ref G), some (.str r.1), some (.str txt), some (.ref f), some (.ref st), some (.ref bk), x11, none] HD _
          refine at_nmN ?_
          dsimp only
          refine at_seqN ?_
          refine at_asN ?_
          refine at_cbN (redictN (K := K) (i := 12) (d := d) (W := kw) (us := ws.map (·.1)) (fun u => [some (.ref a0), some (.ref p), some (.int (0 + i)), some (.int z), some (.ref d), some (.ref G), some (.str r.1), some (.str txt), some (.ref f), some (.ref st), some (.ref bk2), x11, some (.str u)]) (fun u => !decide (V.str u = V.str r.1)) (fun u => vlW kw u) hdD lv.keys wnd (by rw [List.length_map]; omega) (fun H' Q' h => ⟨.ref d, rfl, h⟩) (fun _ => rfl) (fun _ => rfl)
            (fun u hu H' Q' hf h => ⟨.str u, rfl, .str r.1, rfl, rfl, _, rfl, h⟩) (fun u hu H' Q' hf h => ⟨.str u, rfl, .ref d, rfl, .str u, rfl, d, vlW kw u, rfl, .inl ⟨kw, .inr u, .inr ⟨od, hf⟩, rfl, (val_vlW lv.keys hu).symm⟩, by show 2 ≤ sizeLine; decide, h⟩) fun lp HE nlp s2 hlp => ?_)
          rw [kv_filt lv.keys wnd r.1] at hlp
          have s12 := sB.trans (s1.trans s2)
          have hwfE := hwfL.same s12
          obtain ⟨⟨dfo, hfo⟩, _⟩ := id hwfE
          have hrS : r.1 ∈ (sortW ws).map (·.1) := by rw [sortW_keys, mem_sortS]; exact hym
          show gName 11 (V.ref lp) [some (.ref a0), some (.ref p), some (.int (0 + i)), some (.int z), some (.ref d), some (.ref G), some (.str r.1), some (.str txt), some (.ref f), some (.ref st), some (.ref bk2), x11, none] HE _
          refine ⟨.ref f, rfl, f, dfo, _, rfl, hfo, flds_no _ _ (by decide +kernel) (by decide +kernel), .str r.1, rfl, f, ef, z, sortW ws, r.1, rfl, hwfE, okS, z1, z32, hrS, by omega, fun x2 e2 HF nx2 ne2 s3 hwx => ?_⟩
          rw [sortW_filt wnd] at hwx
          have lvF : LVal p HF (kw.filter fun kv => decide (kv.1 ≠ .inr r.1)) (ws.filter fun q => decide (q.1 ≠ r.1)) := paired_filt (fun _ _ q => q.1) r.1 ((lvL.same s12).same s3)
          have lf : (ws.filter fun q => decide (q.1 ≠ r.1)).length ≤ ws.length := List.length_filter_le _ _
          refine ⟨.int z, rfl, .ref lp, rfl, x2, e2, lp, p, z, _, _, rfl, hwx, s3 _ _ hlp, lvF, ok.filt r.1, z32, by omega, fun HI s4 => ⟨true, rfl, iteF ?_⟩⟩
          exact ⟨⟨_, _, bk2, eb2, rfl, hw2.same (s2.trans (s3.trans s4)), eb2d⟩, s12.trans (s3.trans s4)⟩
        · rintro σ HB ⟨⟨x6, x11, bk, eb, rfl, hbk, ebd⟩, sB⟩
          rw [kl, List.drop_length] at hbk
          have hdB := sB _ _ hdL
          refine ⟨hdB, _, _, bk, eb, rfl, fun b o e => ?_, hbk.off hdB (fun _ _ _ q => by cases q) (fun _ q => by cases q) ebd⟩
          by_cases hb : b = d
          · rw [hb, upd_same, ← hdA, ← hb, e]
          · rw [upd_ne hb]
            exact sB _ _ (kp b o hb e)
      rintro σ HB ⟨x6, x11, bk, eb, rfl, sB, hwbB⟩
      have s3B := s3A.trans sB
      have hwfB := hwfA.same sB
      have pB := p3.keep s3B
      obtain ⟨lpB, hlpB⟩ := pB.lst
      clear hwfA hwbA hdA s3A sB
      refine ⟨fun σ H' => σ = [some (.ref a0), some (.ref p), some (.int (0 + i)), some (.int z), some (.ref d), some (.ref G), x6, some (.str txt), some (.ref f), some (.ref st), some (.ref bk), x11, none] ∧ But p HB H' ∧ Pen H' p c0 (2000 * i + 1 + 400 + 100) m', ?_, ?_⟩
      · exact ⟨.ref p, rfl, .ref f, rfl, .int z, rfl, .ref d, rfl, p, c0, f, ef, d, _, z, m', kw, ws, rfl, pB, by show 2000 * i + 1 + 400 + 1000 ≤ 1000000000000; omega, hwfB, s3B _ _ hd, lv.same s3B, ok, z1, z32, by omega, fun HC bC pC => ⟨true, rfl, iteF ⟨rfl, bC, pC⟩⟩⟩
      rintro σ HC ⟨rfl, bC, pC⟩
      have hwbC := hwbB.but bC hlpB
      obtain ⟨⟨dbk, hbko⟩, _⟩ := id hwbC
      obtain ⟨ekb, mB, vB⟩ := hwbC.map
      have lb : ekb.length = 0 := by rw [rows_len2 vB.keys, sortW_len]; rfl
      refine ⟨.ref bk, rfl, bk, dbk, _, rfl, hbko, bk, eb, z, ekb, rfl, mB, ekb.length, rfl, by omega, rfl, _, rfl, ?_⟩
      rw [lb]
      refine iteNS rfl ?_
      refine ⟨.ref bk, rfl, .int z, rfl, fun E1 nE1 => fun g dg ng ndg neg => ?_⟩
      have sE := same_upd (o := .dK []) nE1
      have sM : Same (upd HC E1 (.dK [])) (upd (upd (upd HC E1 (.dK [])) dg (.own g)) g (.ins CW dg [])) := fun b o e => by rw [upd_ne (ne_of_none e ng), upd_ne (ne_of_none e ndg)]; exact e
      refine ⟨g, dg, E1, z, [], [], rfl, upd_same, z1, z32, sM _ _ upd_same, .nil, wishW_nil z, by decide, fun eg HD neg' hwg keepg => ⟨rfl, ?_⟩⟩
      have sD : Same HC HD := sE.trans (Same.made ng ndg keepg)
      obtain ⟨⟨d2, ho2⟩, _⟩ := id hwg
      have hbD := hwbC.same sD
      exact ⟨bk, g, dbk, d2, _, _, rfl, rfl, sD _ _ hbko, ho2, bk, g, eb, eg, z, sortW [], rfl, hbD, hwg, (wishW_nil z).sort.pfx.nd, (wishW_nil z).sort.ok, true, rfl, _, rfl, iteF ⟨⟨_, _, _, _, _, _, _, _, _, _, rfl⟩, m', hm', (pC.keep sD).mono (by omega)⟩⟩
    · rintro σ H1 ⟨⟨x2, x3, x4, x5, x6, x7, x8, x9, x10, x11, rfl⟩, _⟩
      intro D nD
      refine ⟨by show 3 ≤ sizeLine; decide, fun a na => ⟨by rw [upd_ne (ne_of_none upd_same na), upd_same], [(.inr "", .ref a)], rfl, by show 1 ≤ 15; decide, ?_⟩⟩
      have Da : D ≠ a := ne_of_none upd_same na
      have ha := upd_same (H := upd H1 D (.dK [])) (a := a) (o := .lst [.str "b", .non, .str "a"])
      have ha2 : (upd (upd (upd H1 D (.dK [])) a (.lst [.str "b", .non, .str "a"])) D (.dK (mergeK [] [(.inr "", .ref a)]))) a = some (.lst [.str "b", .non, .str "a"]) := by rw [upd_ne (Ne.symm Da)]; exact ha
      have hD2 := upd_same (H := upd (upd H1 D (.dK [])) a (.lst [.str "b", .non, .str "a"])) (a := D) (o := .dK (mergeK [] [(.inr "", .ref a)]))
      revert ha2 hD2
      generalize upd (upd (upd H1 D (.dK [])) a (.lst [.str "b", .non, .str "a"])) D (.dK (mergeK [] [(.inr "", .ref a)])) = H2
      intro ha2 hD2
      refine ⟨rfl, rfl, fun x dx nx ndx nex => ?_⟩
      have sM : Same H2 (upd (upd H2 dx (.own x)) x (.ins CW dx [])) := fun b o e => by rw [upd_ne (ne_of_none e nx), upd_ne (ne_of_none e ndx)]; exact e
      refine ⟨x, dx, D, 2, [(.inr "", .ref a)], lastR, rfl, upd_same, by decide, by decide, sM _ _ hD2, .cons ⟨rfl, a, rfl, .inl (SqL.of (sM _ _ ha2))⟩ .nil, lastR_ok, by decide, fun e H3 ne hw keep => ⟨rfl, ?_⟩⟩
      rw [lastR_sort] at hw
      obtain ⟨⟨dx2, hx2⟩, _⟩ := id hw
      obtain ⟨ek, mE, vE⟩ := hw.map
      refine ⟨x, dx2, _, rfl, hx2, x, e, 2, ek, rfl, mE, fun d2 nd2 => ?_⟩
      have t2 := same_upd (o := .dK ek) nd2
      have hd2 := upd_same (H := H3) (a := d2) (o := .dK ek)
      have vE2 := vE.same t2
      revert hd2 vE2
      generalize upd H3 d2 (.dK ek) = H4
      intro hd2 vE2
      intro D2 nD2
      refine ⟨by show 3 ≤ sizeLine; decide, fun tt ntt => ⟨by rw [upd_ne (ne_of_none upd_same ntt), upd_same], [(.inr "", .ref tt)], rfl, by show 1 ≤ 15; decide, ?_⟩⟩
      have Dt : D2 ≠ tt := ne_of_none upd_same ntt
      have sF : Same H4 (upd (upd (upd H4 D2 (.dK [])) tt (.tup [.non, .str "a", .str "b"])) D2 (.dK (mergeK [] [(.inr "", .ref tt)]))) := fun b o eb => by
        rw [upd_ne (ne_of_none eb nD2), upd_ne (ne_of_none (same_upd nD2 _ _ eb) ntt), upd_ne (ne_of_none eb nD2)]
        exact eb
      have htt : (upd (upd (upd H4 D2 (.dK [])) tt (.tup [.non, .str "a", .str "b"])) D2 (.dK (mergeK [] [(.inr "", .ref tt)]))) tt = some (.tup [.non, .str "a", .str "b"]) := by rw [upd_ne (Ne.symm Dt), upd_same]
      have low := lastS_ok.low
      have vF := vE2.same sF
      cases vF with
      | cons h1 ht =>
        cases ht
        obtain ⟨e1, b1, e2, hb1⟩ := h1
        refine ⟨d2, D2, _, _, rfl, rfl, sF _ _ hd2, upd_same, rfl, fun q hq => ⟨.ref tt, ?_, .tuple ([none, some ("a" : Str), some ("b" : Str)].map optD), ?_, .tup (SqT.of htt) (dpAll_opt [none, some "a", some "b"]), shaped_optT low⟩, q _⟩
        · rw [List.mem_singleton.mp hq, e1]; rfl
        · rw [List.mem_singleton.mp hq, e2]
          exact .tup (SqT.of hb1) (dpAll_opt _)
end
abbrev sLaw : Stmt := sL
theorem all_mk {l : PySem.W.OpenLaw} {w : World} {K : PySem.W.Frag} {h : Heap} {mg : Str → Option Value} {fa fP fN fDr fB fS fX fH fI fWo fV fWa fSo fRi fRe fL fK fU fWK fWVw fWWo fWLn fWk fWEq fG fR fPw fWMd CD CC CW fT cdaT ccT fWT cdaWT ccWT pG pR pPw pWMd : Addr} (X : K.In h) (G : h.Ns mainGlobals mg) (hfa : mg "law" = some (.ref fa))
    {odP anP odN anN odDr anDr odB anB odS anS odX anX odH anH odI anI odWo anWo odV anV odWa anWa odSo anSo odRi anRi odRe anRe odL anL odK anK odU anU odWK anWK odWVw anWVw odWWo anWWo odWLn anWLn odWk anWk odWEq anWEq odG anG odR anR odPw anPw odWMd anWMd : Option Addr} {slP slN slDr slB slS slX slH slI slWo slV slWa slSo slRi slRe slL slK slU slWK slWVw slWWo slWLn slWk slWEq slG slR slPw slWMd : Array (Option Value)} {ocP dcP pmP cdP ctP kVP ocN dcN pmN cdN ctN kVN ocDr dcDr pmDr cdDr ctDr kVDr ocB dcB pmB cdB ctB kVB ocS dcS pmS cdS ctS kVS ocX dcX pmX cdX ctX kVX ocH dcH pmH cdH ctH kVH ocI dcI pmI cdI ctI kVI ocWo dcWo pmWo cdWo ctWo kVWo ocV dcV pmV cdV ctV kVV ocWa dcWa pmWa cdWa ctWa kVWa ocSo dcSo pmSo cdSo ctSo kVSo ocRi dcRi pmRi cdRi ctRi kVRi ocRe dcRe pmRe cdRe ctRe kVRe ocL dcL pmL cdL ctL kVL ocK dcK pmK cdK ctK kVK ocU dcU pmU cdU ctU kVU ocWK dcWK pmWK cdWK ctWK kVWK ocWVw dcWVw pmWVw cdWVw ctWVw kVWVw ocWWo dcWWo pmWWo cdWWo ctWWo kVWWo ocWLn dcWLn pmWLn cdWLn ctWLn kVWLn ocWk dcWk pmWk cdWk ctWk kVWk ocWEq dcWEq pmWEq cdWEq ctWEq kVWEq ocG dcG pmG cdG ctG kVG ocR dcR pmR cdR ctR kVR ocPw dcPw pmPw cdPw ctPw kVPw ocWMd dcWMd pmWMd cdWMd ctWMd kVWMd : Value} {tkZ tkE tkO : Tok}
    {ocT kVT dcT pmT ctT ckT lkT : Value} {odT anT cddT ldT : Option Addr} {slT csT lsT : Array (Option Value)} {vsT : Array Value} {fiT : Str} {tfT : Tok}
    {ocWT kVWT dcWT pmWT ctWT ckWT lkWT : Value} {odWT anWT cddWT ldWT : Option Addr} {slWT csWT lsWT : Array (Option Value)} {vsWT : Array Value} {fiWT : Str} {tfWT : Tok}
    {rsG : List Value}
    {rsR : List Value}
    {rsPw : List Value}
    {rsWMd : List Value}
    (aP : PySem.W.nsIn K mainGlobals "_law_pen" = some (some (.ref fP)))
    (lP : K.lookup fP = some ⟨ocP, odP, .func (PySem.W.fnOf "_law_pen" "_law_pen" (defArgs sP) (defBody sP) (defScope sP) .none kVP dcP pmP anP cdP ctP), slP⟩)
    (cP : PySem.W.codeIn K cdP "_law_pen" = true) (kP : PySem.W.keepIn K (.ref fP) = true)
    (aN : PySem.W.nsIn K mainGlobals "_law_next" = some (some (.ref fN)))
    (lN : K.lookup fN = some ⟨ocN, odN, .func (PySem.W.fnOf "_law_next" "_law_next" (defArgs sN) (defBody sN) (defScope sN) .none kVN dcN pmN anN cdN ctN), slN⟩)
    (cN : PySem.W.codeIn K cdN "_law_next" = true) (kN : PySem.W.keepIn K (.ref fN) = true)
    (aDr : PySem.W.nsIn K mainGlobals "_law_draw" = some (some (.ref fDr)))
    (lDr : K.lookup fDr = some ⟨ocDr, odDr, .func (PySem.W.fnOf "_law_draw" "_law_draw" (defArgs sDr) (defBody sDr) (defScope sDr) .none kVDr dcDr pmDr anDr cdDr ctDr), slDr⟩)
    (cDr : PySem.W.codeIn K cdDr "_law_draw" = true) (kDr : PySem.W.keepIn K (.ref fDr) = true)
    (aB : PySem.W.nsIn K mainGlobals "_law_bits" = some (some (.ref fB)))
    (lB : K.lookup fB = some ⟨ocB, odB, .func (PySem.W.fnOf "_law_bits" "_law_bits" (defArgs sB) (defBody sB) (defScope sB) .none kVB dcB pmB anB cdB ctB), slB⟩)
    (cB : PySem.W.codeIn K cdB "_law_bits" = true) (kB : PySem.W.keepIn K (.ref fB) = true)
    (aS : PySem.W.nsIn K mainGlobals "_law_size" = some (some (.ref fS)))
    (lS : K.lookup fS = some ⟨ocS, odS, .func (PySem.W.fnOf "_law_size" "_law_size" (defArgs sS) (defBody sS) (defScope sS) .none kVS dcS pmS anS cdS ctS), slS⟩)
    (cS : PySem.W.codeIn K cdS "_law_size" = true) (kS : PySem.W.keepIn K (.ref fS) = true)
    (aX : PySem.W.nsIn K mainGlobals "_law_prefixes" = some (some (.ref fX)))
    (lX : K.lookup fX = some ⟨ocX, odX, .func (PySem.W.fnOf "_law_prefixes" "_law_prefixes" (defArgs sX) (defBody sX) (defScope sX) .none kVX dcX pmX anX cdX ctX), slX⟩)
    (cX : PySem.W.codeIn K cdX "_law_prefixes" = true) (kX : PySem.W.keepIn K (.ref fX) = true)
    (aH : PySem.W.nsIn K mainGlobals "has_only" = some (some (.ref fH)))
    (lH : K.lookup fH = some ⟨ocH, odH, .func (PySem.W.fnOf "has_only" "has_only" (defArgs sH) (defBody sH) (defScope sH) .none kVH dcH pmH anH cdH ctH), slH⟩)
    (cH : PySem.W.codeIn K cdH "has_only" = true) (kH : PySem.W.keepIn K (.ref fH) = true)
    (aI : PySem.W.nsIn K mainGlobals "is_prefix" = some (some (.ref fI)))
    (lI : K.lookup fI = some ⟨ocI, odI, .func (PySem.W.fnOf "is_prefix" "is_prefix" (defArgs sI) (defBody sI) (defScope sI) .none kVI dcI pmI anI cdI ctI), slI⟩)
    (cI : PySem.W.codeIn K cdI "is_prefix" = true) (kI : PySem.W.keepIn K (.ref fI) = true)
    (aWo : PySem.W.nsIn K mainGlobals "is_whole" = some (some (.ref fWo)))
    (lWo : K.lookup fWo = some ⟨ocWo, odWo, .func (PySem.W.fnOf "is_whole" "is_whole" (defArgs sWo) (defBody sWo) (defScope sWo) .none kVWo dcWo pmWo anWo cdWo ctWo), slWo⟩)
    (cWo : PySem.W.codeIn K cdWo "is_whole" = true) (kWo : PySem.W.keepIn K (.ref fWo) = true)
    (aV : PySem.W.nsIn K mainGlobals "is_width" = some (some (.ref fV)))
    (lV : K.lookup fV = some ⟨ocV, odV, .func (PySem.W.fnOf "is_width" "is_width" (defArgs sV) (defBody sV) (defScope sV) .none kVV dcV pmV anV cdV ctV), slV⟩)
    (cV : PySem.W.codeIn K cdV "is_width" = true) (kV : PySem.W.keepIn K (.ref fV) = true)
    (aWa : PySem.W.nsIn K mainGlobals "_law_wanted" = some (some (.ref fWa)))
    (lWa : K.lookup fWa = some ⟨ocWa, odWa, .func (PySem.W.fnOf "_law_wanted" "_law_wanted" (defArgs sWa) (defBody sWa) (defScope sWa) .none kVWa dcWa pmWa anWa cdWa ctWa), slWa⟩)
    (cWa : PySem.W.codeIn K cdWa "_law_wanted" = true) (kWa : PySem.W.keepIn K (.ref fWa) = true)
    (aSo : PySem.W.nsIn K mainGlobals "_law_sorted" = some (some (.ref fSo)))
    (lSo : K.lookup fSo = some ⟨ocSo, odSo, .func (PySem.W.fnOf "_law_sorted" "_law_sorted" (defArgs sSo) (defBody sSo) (defScope sSo) .none kVSo dcSo pmSo anSo cdSo ctSo), slSo⟩)
    (cSo : PySem.W.codeIn K cdSo "_law_sorted" = true) (kSo : PySem.W.keepIn K (.ref fSo) = true)
    (aRi : PySem.W.nsIn K mainGlobals "_law_right" = some (some (.ref fRi)))
    (lRi : K.lookup fRi = some ⟨ocRi, odRi, .func (PySem.W.fnOf "_law_right" "_law_right" (defArgs sRi) (defBody sRi) (defScope sRi) .none kVRi dcRi pmRi anRi cdRi ctRi), slRi⟩)
    (cRi : PySem.W.codeIn K cdRi "_law_right" = true) (kRi : PySem.W.keepIn K (.ref fRi) = true)
    (aRe : PySem.W.nsIn K mainGlobals "_law_replaced_right" = some (some (.ref fRe)))
    (lRe : K.lookup fRe = some ⟨ocRe, odRe, .func (PySem.W.fnOf "_law_replaced_right" "_law_replaced_right" (defArgs sRe) (defBody sRe) (defScope sRe) .none kVRe dcRe pmRe anRe cdRe ctRe), slRe⟩)
    (cRe : PySem.W.codeIn K cdRe "_law_replaced_right" = true) (kRe : PySem.W.keepIn K (.ref fRe) = true)
    (aL : PySem.W.nsIn K mainGlobals "law" = some (some (.ref fL)))
    (lL : K.lookup fL = some ⟨ocL, odL, .func (PySem.W.fnOf "law" "law" (defArgs sL) (defBody sL) (defScope sL) .none kVL dcL pmL anL cdL ctL), slL⟩)
    (cL : PySem.W.codeIn K cdL "law" = true) (kL : PySem.W.keepIn K (.ref fL) = true)
    (aD : PySem.W.nsIn K mainGlobals "PrefixMap" = some (some (.ref CD))) (pgD : PySem.W.plainGet K CD Str.empty = true) (hdD : PySem.W.hasDictIn K CD = true) (poD : PySem.W.plainOver K CD = true) (saD : PySem.W.findIn K (.ref CD) "__setattr__" = some (some (.builtin "object.__setattr__"))) (mkD : PySem.W.makesIn K CD = true) (kcD : PySem.W.keepIn K (.ref CD) = true)
    (aC : PySem.W.nsIn K mainGlobals "Table" = some (some (.ref CC))) (pgC : PySem.W.plainGet K CC Str.empty = true) (hdC : PySem.W.hasDictIn K CC = true) (poC : PySem.W.plainOver K CC = true) (saC : PySem.W.findIn K (.ref CC) "__setattr__" = some (some (.builtin "object.__setattr__"))) (mkC : PySem.W.makesIn K CC = true) (kcC : PySem.W.keepIn K (.ref CC) = true)
    (nC_width : PySem.W.findIn K (.ref CC) "_width" = some none)
    (nC_rows : PySem.W.findIn K (.ref CC) "_rows" = some none)
    (aW : PySem.W.nsIn K mainGlobals "Wish" = some (some (.ref CW))) (pgW : PySem.W.plainGet K CW Str.empty = true) (hdW : PySem.W.hasDictIn K CW = true) (poW : PySem.W.plainOver K CW = true) (saW : PySem.W.findIn K (.ref CW) "__setattr__" = some (some (.builtin "object.__setattr__"))) (mkW : PySem.W.makesIn K CW = true) (kcW : PySem.W.keepIn K (.ref CW) = true)
    (nW_width : PySem.W.findIn K (.ref CW) "_width" = some none)
    (nW_rows : PySem.W.findIn K (.ref CW) "_rows" = some none)
    (aK : PySem.W.findIn K (.ref CC) "_checked" = some (some (.ref fK))) (iK : PySem.W.isFn K (.ref fK) = true)
    (lK : K.lookup fK = some ⟨ocK, odK, .func (PySem.W.fnOf "_checked" "Table._checked" (defArgs sK) (defBody sK) (defScope sK) .none kVK dcK pmK anK cdK ctK), slK⟩)
    (cK : PySem.W.codeIn K cdK "Table._checked" = true) (kK : PySem.W.keepIn K (.ref fK) = true)
    (aU : PySem.W.findIn K (.ref CD) "__init__" = some (some (.ref fU))) (iU : PySem.W.isFn K (.ref fU) = true)
    (lU : K.lookup fU = some ⟨ocU, odU, .func (PySem.W.fnOf "__init__" "PrefixMap.__init__" (defArgs sU) (defBody sU) (defScope sU) .none kVU dcU pmU anU cdU ctU), slU⟩)
    (cU : PySem.W.codeIn K cdU "PrefixMap.__init__" = true) (kU : PySem.W.keepIn K (.ref fU) = true)
    (aWK : PySem.W.findIn K (.ref CW) "_checked" = some (some (.ref fWK))) (iWK : PySem.W.isFn K (.ref fWK) = true)
    (lWK : K.lookup fWK = some ⟨ocWK, odWK, .func (PySem.W.fnOf "_checked" "Wish._checked" (defArgs sWK) (defBody sWK) (defScope sWK) .none kVWK dcWK pmWK anWK cdWK ctWK), slWK⟩)
    (cWK : PySem.W.codeIn K cdWK "Wish._checked" = true) (kWK : PySem.W.keepIn K (.ref fWK) = true)
    (aWVw : PySem.W.findIn K (.ref CW) "with_row" = some (some (.ref fWVw))) (iWVw : PySem.W.isFn K (.ref fWVw) = true)
    (lWVw : K.lookup fWVw = some ⟨ocWVw, odWVw, .func (PySem.W.fnOf "with_row" "PrefixMap.with_row" (defArgs sWVw) (defBody sWVw) (defScope sWVw) .none kVWVw dcWVw pmWVw anWVw cdWVw ctWVw), slWVw⟩)
    (cWVw : PySem.W.codeIn K cdWVw "PrefixMap.with_row" = true) (kWVw : PySem.W.keepIn K (.ref fWVw) = true)
    (aWWo : PySem.W.findIn K (.ref CW) "without" = some (some (.ref fWWo))) (iWWo : PySem.W.isFn K (.ref fWWo) = true)
    (lWWo : K.lookup fWWo = some ⟨ocWWo, odWWo, .func (PySem.W.fnOf "without" "PrefixMap.without" (defArgs sWWo) (defBody sWWo) (defScope sWWo) .none kVWWo dcWWo pmWWo anWWo cdWWo ctWWo), slWWo⟩)
    (cWWo : PySem.W.codeIn K cdWWo "PrefixMap.without" = true) (kWWo : PySem.W.keepIn K (.ref fWWo) = true)
    (aWLn : PySem.W.findIn K (.ref CW) "__len__" = some (some (.ref fWLn))) (iWLn : PySem.W.isFn K (.ref fWLn) = true)
    (lWLn : K.lookup fWLn = some ⟨ocWLn, odWLn, .func (PySem.W.fnOf "__len__" "PrefixMap.__len__" (defArgs sWLn) (defBody sWLn) (defScope sWLn) .none kVWLn dcWLn pmWLn anWLn cdWLn ctWLn), slWLn⟩)
    (cWLn : PySem.W.codeIn K cdWLn "PrefixMap.__len__" = true) (kWLn : PySem.W.keepIn K (.ref fWLn) = true)
    (aWk : PySem.W.findIn K (.ref CW) "walk" = some (some (.ref fWk))) (iWk : PySem.W.isFn K (.ref fWk) = true)
    (lWk : K.lookup fWk = some ⟨ocWk, odWk, .func (PySem.W.fnOf "walk" "PrefixMap.walk" (defArgs sWk) (defBody sWk) (defScope sWk) .none kVWk dcWk pmWk anWk cdWk ctWk), slWk⟩)
    (cWk : PySem.W.codeIn K cdWk "PrefixMap.walk" = true) (kWk : PySem.W.keepIn K (.ref fWk) = true)
    (aWEq : PySem.W.findIn K (.ref CW) "__eq__" = some (some (.ref fWEq))) (iWEq : PySem.W.isFn K (.ref fWEq) = true)
    (lWEq : K.lookup fWEq = some ⟨ocWEq, odWEq, .func (PySem.W.fnOf "__eq__" "PrefixMap.__eq__" (defArgs sWEq) (defBody sWEq) (defScope sWEq) .none kVWEq dcWEq pmWEq anWEq cdWEq ctWEq), slWEq⟩)
    (cWEq : PySem.W.codeIn K cdWEq "PrefixMap.__eq__" = true) (kWEq : PySem.W.keepIn K (.ref fWEq) = true)
    (aT : PySem.W.findIn K (.ref CC) "__init__" = some (some (.ref fT))) (iT : PySem.W.isFn K (.ref fT) = true)
    (lT : K.lookup fT = some ⟨ocT, odT, .func (PySem.W.ksFn "__init__" "Table.__init__" (defArgs sT) (defBody sT) (defScope sT) .none kVT dcT pmT anT (.ref cdaT) ctT ccT), slT⟩)
    (cT : PySem.W.codeIn K (.ref cdaT) "Table.__init__" = true) (kT : PySem.W.keepIn K (.ref fT) = true) (qT : K.lookup cdaT = some ⟨ckT, cddT, .fields vsT, csT⟩) (xT : vsT[2]? = some (.str fiT tfT)) (uT : K.lookup ccT = some ⟨lkT, ldT, .cell (some (.ref CC)), lsT⟩)
    (hcT : PySem.W.isClsIn K CC = true) (hsT : PySem.W.mroIn K CC (.ref CC) = some true) (hmT : PySem.W.ks_superIn K CC CC "__init__" = some (some (.ref fU))) (hnT : PySem.W.fnIn K fU = true) (hpT : PySem.W.nsIn K cStatics "thirdparty.any" = some none)
    (hfT : ((l.prog.main.file : Str) == fiT) = true) (htT : (l.prog.main.scope.names.lookup ("super" : Str)).isSome = false)
    (aWT : PySem.W.findIn K (.ref CW) "__init__" = some (some (.ref fWT))) (iWT : PySem.W.isFn K (.ref fWT) = true)
    (lWT : K.lookup fWT = some ⟨ocWT, odWT, .func (PySem.W.ksFn "__init__" "Wish.__init__" (defArgs sWT) (defBody sWT) (defScope sWT) .none kVWT dcWT pmWT anWT (.ref cdaWT) ctWT ccWT), slWT⟩)
    (cWT : PySem.W.codeIn K (.ref cdaWT) "Wish.__init__" = true) (kWT : PySem.W.keepIn K (.ref fWT) = true) (qWT : K.lookup cdaWT = some ⟨ckWT, cddWT, .fields vsWT, csWT⟩) (xWT : vsWT[2]? = some (.str fiWT tfWT)) (uWT : K.lookup ccWT = some ⟨lkWT, ldWT, .cell (some (.ref CW)), lsWT⟩)
    (hcWT : PySem.W.isClsIn K CW = true) (hsWT : PySem.W.mroIn K CW (.ref CW) = some true) (hmWT : PySem.W.ks_superIn K CW CW "__init__" = some (some (.ref fU))) (hnWT : PySem.W.fnIn K fU = true) (hpWT : PySem.W.nsIn K cStatics "thirdparty.any" = some none)
    (hfWT : ((l.prog.main.file : Str) == fiWT) = true) (htWT : (l.prog.main.scope.names.lookup ("super" : Str)).isSome = false)
    (aG : PySem.W.findIn K (.ref CC) "is_target" = some (some (.ref pG))) (tyG : PySem.W.typeIn K (.ref pG) = some (.type "staticmethod")) (ggG : PySem.W.specialIn K (.ref pG) "__get__" = some (some (.builtin "staticmethod.__get__"))) (tkG : PySem.W.takesIn K (.ref pG) = some false) (rcG : PySem.W.recIn K pG "staticmethod" = some (.ref fG :: rsG))
    (lG : K.lookup fG = some ⟨ocG, odG, .func (PySem.W.fnOf "is_target" "Table.is_target" (defArgs sG) (defBody sG) (defScope sG) .none kVG dcG pmG anG cdG ctG), slG⟩)
    (cG : PySem.W.codeIn K cdG "Table.is_target" = true) (kG : PySem.W.keepIn K (.ref fG) = true)
    (aR : PySem.W.findIn K (.ref CC) "rows" = some (some (.ref pR))) (ggR : PySem.W.specialIn K (.ref pR) "__get__" = some (some (.builtin "property.__get__"))) (tkR : PySem.W.takesIn K (.ref pR) = some true) (rcR : PySem.W.recIn K pR "property" = some (.ref fR :: rsR))
    (lR : K.lookup fR = some ⟨ocR, odR, .func (PySem.W.fnOf "rows" "PrefixMap.rows" (defArgs sR) (defBody sR) (defScope sR) .none kVR dcR pmR anR cdR ctR), slR⟩)
    (cR : PySem.W.codeIn K cdR "PrefixMap.rows" = true) (kR : PySem.W.keepIn K (.ref fR) = true)
    (aPw : PySem.W.findIn K (.ref CC) "width" = some (some (.ref pPw))) (ggPw : PySem.W.specialIn K (.ref pPw) "__get__" = some (some (.builtin "property.__get__"))) (tkPw : PySem.W.takesIn K (.ref pPw) = some true) (rcPw : PySem.W.recIn K pPw "property" = some (.ref fPw :: rsPw))
    (lPw : K.lookup fPw = some ⟨ocPw, odPw, .func (PySem.W.fnOf "width" "PrefixMap.width" (defArgs sPw) (defBody sPw) (defScope sPw) .none kVPw dcPw pmPw anPw cdPw ctPw), slPw⟩)
    (cPw : PySem.W.codeIn K cdPw "PrefixMap.width" = true) (kPw : PySem.W.keepIn K (.ref fPw) = true)
    (aWMd : PySem.W.findIn K (.ref CW) "_made" = some (some (.ref pWMd))) (tyWMd : PySem.W.typeIn K (.ref pWMd) = some (.type "classmethod")) (ggWMd : PySem.W.specialIn K (.ref pWMd) "__get__" = some (some (.builtin "classmethod.__get__"))) (tkWMd : PySem.W.takesIn K (.ref pWMd) = some false) (rcWMd : PySem.W.recIn K pWMd "classmethod" = some (.ref fWMd :: rsWMd)) (hnWMd : PySem.W.fnIn K fWMd = true) (icWMd : PySem.W.isClsIn K CW = true)
    (lWMd : K.lookup fWMd = some ⟨ocWMd, odWMd, .func (PySem.W.fnOf "_made" "PrefixMap._made" (defArgs sWMd) (defBody sWMd) (defScope sWMd) .none kVWMd dcWMd pmWMd anWMd cdWMd ctWMd), slWMd⟩)
    (cWMd : PySem.W.codeIn K cdWMd "PrefixMap._made" = true) (kWMd : PySem.W.keepIn K (.ref fWMd) = true)
    (rdC : PySem.W.readsIn K CC (.type "type") = true) (sgC : PySem.W.specialIn K (.ref CC) "__getattribute__" = some (some (.builtin "type.__getattribute__")))
    (atG : PySem.W.findCls K (.ref CC) (.type "type") "is_target" = some (.get (.builtin "staticmethod.__get__") (.ref pG) .none (.ref CC)))
    (aWR : PySem.W.findIn K (.ref CW) "rows" = some (some (.ref pR)))
    (aWPw : PySem.W.findIn K (.ref CW) "width" = some (some (.ref pPw)))
    (q1 : PySem.W.findIn K (.ref CW) "__class__" = some (some (.builtin "object.__class__")))
    (q2 : PySem.W.specialIn K (.builtin "object.__class__") "__get__" = some (some (.builtin "getset_descriptor.__get__")))
    (q3 : PySem.W.takesIn K (.builtin "object.__class__") = some true)
    (q4 : PySem.W.mroIn K CW (.type "object") = some true)
    (q5 : PySem.W.findIn K (.ref CW) "__ne__" = some (some (.builtin "object.__ne__")))
    (q6 : PySem.W.isClsIn K CD = true)
    (q7 : PySem.W.typeIn K (.ref CD) = some (.type "type"))
    (q8 : PySem.W.mroIn K CW (.ref CD) = some true)
    (kiWW : PySem.W.kitOne K (.ref CW) (.ref CW) = some true)
    (vZ : PySem.W.nsIn K mainGlobals "WIDEST" = some (some (.int 32 tkZ)))
    (vE : PySem.W.nsIn K mainGlobals "LONGEST_TARGET" = some (some (.int 8 tkE)))
    (vO : PySem.W.nsIn K mainGlobals "LETTERS" = some (some (.str letters tkO)))
    (z0 : PySem.W.nsIn K mainGlobals "list" = some none)
    (z1 : PySem.W.nsIn K mainGlobals "len" = some none)
    (z2 : PySem.W.nsIn K mainGlobals "range" = some none)
    (z3 : PySem.W.nsIn K mainGlobals "min" = some none)
    (z4 : PySem.W.nsIn K mainGlobals "isinstance" = some none)
    (z5 : PySem.W.nsIn K mainGlobals "str" = some none)
    (z6 : PySem.W.nsIn K mainGlobals "int" = some none)
    (z7 : PySem.W.nsIn K mainGlobals "bool" = some none)
    (z8 : PySem.W.nsIn K mainGlobals "dict" = some none)
    (z9 : PySem.W.nsIn K mainGlobals "sorted" = some none)
    (z10 : PySem.W.nsIn K mainGlobals "super" = some none)
    (z11 : PySem.W.nsIn K mainGlobals "tuple" = some none)
    (z12 : PySem.W.nsIn K mainGlobals "set" = some none)
    (z13 : PySem.W.nsIn K mainGlobals "type" = some none)
    (z14 : PySem.W.nsIn K mainGlobals "repr" = some none)
    : ∃ fd : FuncData, (∀ (s : Shared) (v : Value), BindsTo s fd ⟨[v], []⟩ [("script", v)]) ∧ ∀ base : Heap, K.In base → base.Ns mainGlobals mg → (∃ mm, base.Ns sysModules mm) → FnG l.prog w K mg base 12 fa fd ["script"] (spLaw K) := by
  have e := hfa.symm.trans (PySem.W.mg_of X G aL)
  cases e
  have FP := fun_mk (st := sP) lP cP kP
  have bP := FP.binds (ps := ["script"]) fun _ _ _ _ _ _ us hl => match us, hl with | [_], _ => rfl
  have gP := PySem.W.mg_of X G aP
  have FN := fun_mk (st := sN) lN cN kN
  have bN := FN.binds (ps := ["pen"]) fun _ _ _ _ _ _ us hl => match us, hl with | [_], _ => rfl
  have gN := PySem.W.mg_of X G aN
  have FDr := fun_mk (st := sDr) lDr cDr kDr
  have bDr := FDr.binds (ps := ["pen", "below"]) fun _ _ _ _ _ _ us hl => match us, hl with | [_, _], _ => rfl
  have gDr := PySem.W.mg_of X G aDr
  have FB := fun_mk (st := sB) lB cB kB
  have bB := FB.binds (ps := ["pen", "size"]) fun _ _ _ _ _ _ us hl => match us, hl with | [_, _], _ => rfl
  have gB := PySem.W.mg_of X G aB
  have FS := fun_mk (st := sS) lS cS kS
  have bS := FS.binds (ps := ["pen"]) fun _ _ _ _ _ _ us hl => match us, hl with | [_], _ => rfl
  have gS := PySem.W.mg_of X G aS
  have FX := fun_mk (st := sX) lX cX kX
  have bX := FX.binds (ps := ["pen", "size", "most"]) fun _ _ _ _ _ _ us hl => match us, hl with | [_, _, _], _ => rfl
  have gX := PySem.W.mg_of X G aX
  have FH := fun_mk (st := sH) lH cH kH
  have bH := FH.binds (ps := ["text", "signs"]) fun _ _ _ _ _ _ us hl => match us, hl with | [_, _], _ => rfl
  have gH := PySem.W.mg_of X G aH
  have FI := fun_mk (st := sI) lI cI kI
  have bI := FI.binds (ps := ["thing", "width"]) fun _ _ _ _ _ _ us hl => match us, hl with | [_, _], _ => rfl
  have gI := PySem.W.mg_of X G aI
  have FWo := fun_mk (st := sWo) lWo cWo kWo
  have bWo := FWo.binds (ps := ["thing"]) fun _ _ _ _ _ _ us hl => match us, hl with | [_], _ => rfl
  have gWo := PySem.W.mg_of X G aWo
  have FV := fun_mk (st := sV) lV cV kV
  have bV := FV.binds (ps := ["thing"]) fun _ _ _ _ _ _ us hl => match us, hl with | [_], _ => rfl
  have gV := PySem.W.mg_of X G aV
  have FWa := fun_mk (st := sWa) lWa cWa kWa
  have bWa := FWa.binds (ps := ["pen", "size", "most"]) fun _ _ _ _ _ _ us hl => match us, hl with | [_, _, _], _ => rfl
  have gWa := PySem.W.mg_of X G aWa
  have FSo := fun_mk (st := sSo) lSo cSo kSo
  have bSo := FSo.binds (ps := ["some"]) fun _ _ _ _ _ _ us hl => match us, hl with | [_], _ => rfl
  have gSo := PySem.W.mg_of X G aSo
  have FRi := fun_mk (st := sRi) lRi cRi kRi
  have bRi := FRi.binds (ps := ["some", "size", "wanted"]) fun _ _ _ _ _ _ us hl => match us, hl with | [_, _, _], _ => rfl
  have gRi := PySem.W.mg_of X G aRi
  have FRe := fun_mk (st := sRe) lRe cRe kRe
  have bRe := FRe.binds (ps := ["pen", "first", "size", "wanted"]) fun _ _ _ _ _ _ us hl => match us, hl with | [_, _, _, _], _ => rfl
  have gRe := PySem.W.mg_of X G aRe
  have FL := fun_mk (st := sL) lL cL kL
  have clD : Cls K CD := ⟨pgD, hdD, poD, saD⟩
  have gD := PySem.W.mg_of X G aD
  have clC : Cls K CC := ⟨pgC, hdC, poC, saC⟩
  have gC := PySem.W.mg_of X G aC
  have clW : Cls K CW := ⟨pgW, hdW, poW, saW⟩
  have gW := PySem.W.mg_of X G aW
  have FK := fun_mk (st := sK) lK cK kK
  have bK := FK.binds (ps := ["self", "value"]) fun _ _ _ _ _ _ us hl => match us, hl with | [_, _], _ => rfl
  have mtK : Meth K CC "_checked" fK := ⟨aK, iK, kK⟩
  have FU := fun_mk (st := sU) lU cU kU
  have bU := FU.binds (ps := ["self", "width", "rows"]) fun _ _ _ _ _ _ us hl => match us, hl with | [_, _, _], _ => rfl
  have MD : Mk K CD fU := ⟨mkD, aU, iU, kcD⟩
  have FWK := fun_mk (st := sWK) lWK cWK kWK
  have bWK := FWK.binds (ps := ["self", "value"]) fun _ _ _ _ _ _ us hl => match us, hl with | [_, _], _ => rfl
  have mtWK : Meth K CW "_checked" fWK := ⟨aWK, iWK, kWK⟩
  have FWVw := fun_mk (st := sWVw) lWVw cWVw kWVw
  have bWVw := FWVw.binds (ps := ["self", "prefix", "value"]) fun _ _ _ _ _ _ us hl => match us, hl with | [_, _, _], _ => rfl
  have mtWVw : Meth K CW "with_row" fWVw := ⟨aWVw, iWVw, kWVw⟩
  have FWWo := fun_mk (st := sWWo) lWWo cWWo kWWo
  have bWWo := FWWo.binds (ps := ["self", "prefix"]) fun _ _ _ _ _ _ us hl => match us, hl with | [_, _], _ => rfl
  have mtWWo : Meth K CW "without" fWWo := ⟨aWWo, iWWo, kWWo⟩
  have FWLn := fun_mk (st := sWLn) lWLn cWLn kWLn
  have bWLn := FWLn.binds (ps := ["self"]) fun _ _ _ _ _ _ us hl => match us, hl with | [_], _ => rfl
  have mtWLn : Meth K CW "__len__" fWLn := ⟨aWLn, iWLn, kWLn⟩
  have FWk := fun_mk (st := sWk) lWk cWk kWk
  have bWk := FWk.binds (ps := ["self"]) fun _ _ _ _ _ _ us hl => match us, hl with | [_], _ => rfl
  have mtWk : Meth K CW "walk" fWk := ⟨aWk, iWk, kWk⟩
  have FWEq := fun_mk (st := sWEq) lWEq cWEq kWEq
  have bWEq := FWEq.binds (ps := ["self", "other"]) fun _ _ _ _ _ _ us hl => match us, hl with | [_, _], _ => rfl
  have mtWEq : Meth K CW "__eq__" fWEq := ⟨aWEq, iWEq, kWEq⟩
  have FT : FunS K fiT "__init__" "Table.__init__" sT fT CC _ := ⟨⟨_, _, _, _, _, _, _, _, _, _, _, _, _, _, _, _, _, _, rfl, lT, cT, qT, xT, uT⟩, kT⟩
  have bT : L2.Binds K (PySem.W.ksFn "__init__" "Table.__init__" (defArgs sT) (defBody sT) (defScope sT) .none kVT dcT pmT anT (.ref cdaT) ctT ccT) ["self", "width", "rows"] [] := .all fun us hl => match us, hl with | [_, _, _], _ => rfl
  have MC : Mk K CC fT := ⟨mkC, aT, iT, kcC⟩
  have FWT : FunS K fiWT "__init__" "Wish.__init__" sWT fWT CW _ := ⟨⟨_, _, _, _, _, _, _, _, _, _, _, _, _, _, _, _, _, _, rfl, lWT, cWT, qWT, xWT, uWT⟩, kWT⟩
  have bWT : L2.Binds K (PySem.W.ksFn "__init__" "Wish.__init__" (defArgs sWT) (defBody sWT) (defScope sWT) .none kVWT dcWT pmWT anWT (.ref cdaWT) ctWT ccWT) ["self", "width", "rows"] [] := .all fun us hl => match us, hl with | [_, _, _], _ => rfl
  have MW : Mk K CW fWT := ⟨mkW, aWT, iWT, kcW⟩
  have FG := fun_mk (st := sG) lG cG kG
  have bG := FG.binds (ps := ["thing"]) fun _ _ _ _ _ _ us hl => match us, hl with | [_], _ => rfl
  have SG : SMeth K CC "is_target" pG fG := ⟨aG, tyG, ggG, tkG, by decide +kernel, ⟨_, rcG⟩, kG⟩
  have FR := fun_mk (st := sR) lR cR kR
  have bR := FR.binds (ps := ["self"]) fun _ _ _ _ _ _ us hl => match us, hl with | [_], _ => rfl
  have PR : PropOf K CC "rows" pR fR := ⟨aR, ggR, tkR, ⟨_, rcR⟩⟩
  have FPw := fun_mk (st := sPw) lPw cPw kPw
  have bPw := FPw.binds (ps := ["self"]) fun _ _ _ _ _ _ us hl => match us, hl with | [_], _ => rfl
  have PPw : PropOf K CC "width" pPw fPw := ⟨aPw, ggPw, tkPw, ⟨_, rcPw⟩⟩
  have FWMd := fun_mk (st := sWMd) lWMd cWMd kWMd
  have bWMd := FWMd.binds (ps := ["cls", "width", "rows"]) fun _ _ _ _ _ _ us hl => match us, hl with | [_, _, _], _ => rfl
  have CWMd_ : ClX.CInst K CW "_made" pWMd fWMd := ⟨pgW, icWMd, aWMd, tyWMd, ggWMd, tkWMd, by decide +kernel, ⟨_, rcWMd⟩, hnWMd⟩
  have RCC : ClX.CRead K CC (.type "type") := ⟨rdC, sgC⟩
  have csG : CSta K CC (.type "type") "is_target" pG fG := ⟨atG, ⟨_, rcG⟩, kG⟩
  have FWR := FR
  have bWR := bR
  have PWR : PropOf K CW "rows" pR fR := ⟨aWR, ggR, tkR, ⟨_, rcR⟩⟩
  have FWPw := FPw
  have bWPw := bPw
  have PWPw : PropOf K CW "width" pPw fPw := ⟨aWPw, ggPw, tkPw, ⟨_, rcPw⟩⟩
  have wZ := PySem.W.mg_of X G vZ
  have wE := PySem.W.mg_of X G vE
  have wO := PySem.W.mg_of X G vO
  have m_list := PySem.W.mg_none_of X G z0
  have m_len := PySem.W.mg_none_of X G z1
  have m_range := PySem.W.mg_none_of X G z2
  have m_min := PySem.W.mg_none_of X G z3
  have m_isinstance := PySem.W.mg_none_of X G z4
  have m_str := PySem.W.mg_none_of X G z5
  have m_int := PySem.W.mg_none_of X G z6
  have m_bool := PySem.W.mg_none_of X G z7
  have m_dict := PySem.W.mg_none_of X G z8
  have m_sorted := PySem.W.mg_none_of X G z9
  have m_super := PySem.W.mg_none_of X G z10
  have m_tuple := PySem.W.mg_none_of X G z11
  have m_set := PySem.W.mg_none_of X G z12
  have m_type := PySem.W.mg_none_of X G z13
  have m_repr := PySem.W.mg_none_of X G z14
  refine ⟨PySem.W.fnOf "law" "law" (defArgs sLaw) (defBody sLaw) (defScope sLaw) .none kVL dcL pmL anL cdL ctL, fun s v => .of_eq rfl, fun base _ _ sys => ?_⟩
  have OCW : ObjC K CW := ⟨q1, q2, q3, q4, q5⟩
  have GP := (ok_pen (P := l.prog) (w := w) (base := base) (mg := mg) (k := 0) FP m_list)
  have GDr := (ok_draw (P := l.prog) (w := w) (base := base) (mg := mg) (k := 0) FDr FN bN gN m_len)
  have GB := (ok_bits (P := l.prog) (w := w) (base := base) (mg := mg) FB GDr FDr bDr gDr m_range)
  have GS := (ok_size (P := l.prog) (w := w) (base := base) (mg := mg) FS GDr FDr bDr gDr m_len)
  have GX := (ok_prefixes (P := l.prog) (w := w) (base := base) (mg := mg) FX (GDr.mono (by decide)) FDr bDr gDr GB FB bB gB m_range m_len m_min)
  have GI := (ok_pfx (P := l.prog) (w := w) (base := base) (mg := mg) (k := 0) FI FH bH gH m_isinstance m_str m_len)
  have GWo := (ok_whole (P := l.prog) (w := w) (base := base) (mg := mg) (k := 0) FWo m_isinstance m_int m_bool)
  have GV := (ok_width (P := l.prog) (w := w) (base := base) (mg := mg) FV GWo FWo bWo gWo wZ)
  have GG := (ok_tgt (P := l.prog) (w := w) (base := base) (mg := mg) (k := 0) FG FH bH gH m_isinstance m_str m_len wE wO)
  have GK := (ok_tchk (P := l.prog) (w := w) (base := base) (mg := mg) (C := CC) FK (⟨clC, nC_width, nC_rows⟩ : ClsF K CC) SG GG bG)
  have GU := (ok_init (P := l.prog) (w := w) (base := base) (mg := mg) FU (⟨clC, nC_width, nC_rows⟩ : ClsF K CC) (GV.mono (by decide : _ ≤ 3)) FV bV gV (GI.mono (by decide : _ ≤ 3)) FI bI gI GK mtK bK m_isinstance m_dict m_sorted)
  have GT := (ok_tinit (P := l.prog) (w := w) (base := base) (mg := mg) FT GU bU hnT (beq_iff_eq.mp iU) (Option.isSome_iff_exists.mp hcT) hsT hmT hpT m_super hfT htT)
  have GWK := ok_WK (P := l.prog) (w := w) (base := base) (mg := mg) (k := 2) FWK m_tuple m_list m_isinstance gC RCC (GG.mono (by decide)) csG bG m_set m_len m_sorted
  have FWU := FU
  have bWU := bU
  have GWU := ok_WU (P := l.prog) (w := w) (base := base) (mg := mg) (k := 3) FWU (GV.mono (by decide)) FV bV gV m_dict m_isinstance (GI.mono (by decide)) FI bI gI clW nW_width m_sorted (GWK.mono (by decide)) mtWK bWK nW_rows
  have GWT := (ok_wtinit (P := l.prog) (w := w) (base := base) (mg := mg) FWT GWU bU hnWT (beq_iff_eq.mp iU) (Option.isSome_iff_exists.mp hcWT) hsWT hmWT hpWT m_super hfWT htWT)
  have GWMd := (show FnR l.prog w K mg base CX0 _ fWMd (spMadeW K CW) from ((ok_madeW (P := l.prog) (w := w) (base := base) (mg := mg) FWMd MW GWT bWT).raw bWMd .nil).imp fun vs H Q E h => by rw [List.append_nil]; exact h)
  have GWVw := ok_WVw (P := l.prog) (w := w) (base := base) (mg := mg) (k := 8) FWVw clW nW_width (GI.mono (by decide)) FI bI gI (GWMd.mono (by decide)) CWMd_ nW_rows
  have GWWo := ok_WWo (P := l.prog) (w := w) (base := base) (mg := mg) (k := 8) FWWo clW nW_rows m_str m_isinstance (GWMd.mono (by decide)) CWMd_ nW_width
  have GR := (ok_rows (P := l.prog) (w := w) (base := base) (mg := mg) (k := 0) FR (⟨clC, nC_width, nC_rows⟩ : ClsF K CC) m_dict)
  have GWR := (ok_rows (P := l.prog) (w := w) (base := base) (mg := mg) (k := 0) FWR (⟨clW, nW_width, nW_rows⟩ : ClsF K CW) m_dict)
  have GPw := (ok_widthP (P := l.prog) (w := w) (base := base) (mg := mg) (k := 0) FPw (⟨clC, nC_width, nC_rows⟩ : ClsF K CC))
  have GWPw := (ok_widthP (P := l.prog) (w := w) (base := base) (mg := mg) (k := 0) FWPw (⟨clW, nW_width, nW_rows⟩ : ClsF K CW))
  have GWLn := (ok_lenM (P := l.prog) (w := w) (base := base) (mg := mg) (k := 0) FWLn (⟨clW, nW_width, nW_rows⟩ : ClsF K CW) m_len)
  have GWk := (ok_walk (P := l.prog) (w := w) (base := base) (mg := mg) (k := 0) FWk (⟨clW, nW_width, nW_rows⟩ : ClsF K CW))
  have GWEq := (ok_eqmW (P := l.prog) (w := w) (base := base) (mg := mg) (k := 0) FWEq (⟨clW, nW_width, nW_rows⟩ : ClsF K CW) m_isinstance m_type gD (kit_own q6 q7 q8) mkW (⟨q1, q2, q3, q4, q5⟩ : ObjC K CW))
  have GWa := ok_Wa (P := l.prog) (w := w) (base := base) (mg := mg) (k := 4) FWa (GX.mono (by decide)) FX bX gX (GDr.mono (by decide)) FDr bDr gDr
  have GSo := ok_So (P := l.prog) (w := w) (base := base) (mg := mg) (k := 0) FSo m_sorted m_tuple
  have GRi := ok_Ri (P := l.prog) (w := w) (base := base) (mg := mg) (k := 1) FRi (⟨q1, q2, q3, q4, q5⟩ : ObjC K CW) (kit_own q6 q7 q8) kiWW sys m_sorted (GSo.mono (by decide)) FSo bSo gSo m_dict m_range (GWR.mono (by decide)) PWR bWR clW (GWLn.mono (by decide)) aWLn iWLn bWLn m_len (GWPw.mono (by decide)) PWPw bWPw m_repr (GWk.mono (by decide)) mtWk bWk m_list gD m_isinstance gW
  have GRe := ok_Re (P := l.prog) (w := w) (base := base) (mg := mg) (k := 9) FRe m_list (GDr.mono (by decide)) FDr bDr gDr m_dict clW (GWVw.mono (by decide)) mtWVw bWVw (GRi.mono (by decide)) FRi bRi gRi
  exact (ok_L (P := l.prog) (w := w) (base := base) (mg := mg) (k := 10) FL sys (GP.mono (by decide)) FP bP gP m_range (GS.mono (by decide)) FS bS gS (GWa.mono (by decide)) FWa bWa gWa m_list m_dict m_repr (GWT.mono (by decide)) MW gW bWT clW (GWVw.mono (by decide)) mtWVw bWVw m_tuple (GWEq.mono (by decide)) OCW aWEq iWEq bWEq (GRi.mono (by decide)) FRi bRi gRi (GWWo.mono (by decide)) mtWWo bWWo (GRe.mono (by decide)) FRe bRe gRe (GWLn.mono (by decide)) aWLn iWLn bWLn m_len (kbn12 fun s a b c => .of_eq rfl) (GWR.mono (by decide)) PWR bWR).mono (by decide)
end Kt
open PySem PySem.W PyProof.Rows
set_option maxRecDepth 100000 in
set_option maxHeartbeats 0 in
theorem PySem.Challenge.cw_keptroutes_k11_wishes_made_holds : PySem.Challenge.rw_keptroutes_k11_wishes_made.Holds := by
  refine Kt.head0 ?_
  k_fill
  refine Kt.walkG (l := PySem.Challenge.rw_keptroutes_k11_wishes_made) (n := 63) (k := 12) (x := "script") (sp := fun w => Kt.spLaw _) rfl (by decide) rfl ?him ⟨rfl, by decide, by decide⟩ (fun w h Y => PySem.W.kIn_of Y) ?F (fun _ _ a ns hl hS => ⟨a, ns, rfl, hS, hl, fun _ => rfl⟩)
  case him => rfl
  case F =>
    intro w mg fa h KX G hmg
    refine' Kt.all_mk KX G hmg ?aP ?lP ?cP ?kP ?aN ?lN ?cN ?kN ?aDr ?lDr ?cDr ?kDr ?aB ?lB ?cB ?kB ?aS ?lS ?cS ?kS ?aX ?lX ?cX ?kX ?aH ?lH ?cH ?kH ?aI ?lI ?cI ?kI ?aWo ?lWo ?cWo ?kWo ?aV ?lV ?cV ?kV ?aWa ?lWa ?cWa ?kWa ?aSo ?lSo ?cSo ?kSo ?aRi ?lRi ?cRi ?kRi ?aRe ?lRe ?cRe ?kRe ?aL ?lL ?cL ?kL ?aD ?pgD ?hdD ?poD ?saD ?mkD ?kcD ?aC ?pgC ?hdC ?poC ?saC ?mkC ?kcC ?nC_width ?nC_rows ?aW ?pgW ?hdW ?poW ?saW ?mkW ?kcW ?nW_width ?nW_rows ?aK ?iK ?lK ?cK ?kK ?aU ?iU ?lU ?cU ?kU ?aWK ?iWK ?lWK ?cWK ?kWK ?aWVw ?iWVw ?lWVw ?cWVw ?kWVw ?aWWo ?iWWo ?lWWo ?cWWo ?kWWo ?aWLn ?iWLn ?lWLn ?cWLn ?kWLn ?aWk ?iWk ?lWk ?cWk ?kWk ?aWEq ?iWEq ?lWEq ?cWEq ?kWEq ?aT ?iT ?lT ?cT ?kT ?qT ?xT ?uT ?hcT ?hsT ?hmT ?hnT ?hpT ?hfT ?htT ?aWT ?iWT ?lWT ?cWT ?kWT ?qWT ?xWT ?uWT ?hcWT ?hsWT ?hmWT ?hnWT ?hpWT ?hfWT ?htWT ?aG ?tyG ?ggG ?tkG ?rcG ?lG ?cG ?kG ?aR ?ggR ?tkR ?rcR ?lR ?cR ?kR ?aPw ?ggPw ?tkPw ?rcPw ?lPw ?cPw ?kPw ?aWMd ?tyWMd ?ggWMd ?tkWMd ?rcWMd ?hnWMd ?icWMd ?lWMd ?cWMd ?kWMd ?rdC ?sgC ?atG ?aWR ?aWPw ?q1 ?q2 ?q3 ?q4 ?q5 ?q6 ?q7 ?q8 ?kiWW ?vZ ?vE ?vO ?z0 ?z1 ?z2 ?z3 ?z4 ?z5 ?z6 ?z7 ?z8 ?z9 ?z10 ?z11 ?z12 ?z13 ?z14
    (case aP => k_is); (case lP => k_is); (case cP => k_is); (case kP => k_is); (case aN => k_is); (case lN => k_is); (case cN => k_is); (case kN => k_is); (case aDr => k_is); (case lDr => k_is); (case cDr => k_is); (case kDr => k_is); (case aB => k_is); (case lB => k_is); (case cB => k_is); (case kB => k_is); (case aS => k_is); (case lS => k_is); (case cS => k_is); (case kS => k_is); (case aX => k_is); (case lX => k_is); (case cX => k_is); (case kX => k_is); (case aH => k_is); (case lH => k_is); (case cH => k_is); (case kH => k_is); (case aI => k_is); (case lI => k_is); (case cI => k_is); (case kI => k_is); (case aWo => k_is); (case lWo => k_is); (case cWo => k_is); (case kWo => k_is); (case aV => k_is); (case lV => k_is); (case cV => k_is); (case kV => k_is); (case aWa => k_is); (case lWa => k_is); (case cWa => k_is); (case kWa => k_is); (case aSo => k_is); (case lSo => k_is); (case cSo => k_is); (case kSo => k_is); (case aRi => k_is); (case lRi => k_is); (case cRi => k_is); (case kRi => k_is); (case aRe => k_is); (case lRe => k_is); (case cRe => k_is); (case kRe => k_is); (case aL => k_is); (case lL => k_is); (case cL => k_is); (case kL => k_is); (case aD => k_is); (case pgD => k_is); (case hdD => k_is); (case poD => k_is); (case saD => k_is); (case mkD => k_is); (case kcD => k_is); (case aC => k_is); (case pgC => k_is); (case hdC => k_is); (case poC => k_is); (case saC => k_is); (case mkC => k_is); (case kcC => k_is); (case nC_width => k_is); (case nC_rows => k_is); (case aW => k_is); (case pgW => k_is); (case hdW => k_is); (case poW => k_is); (case saW => k_is); (case mkW => k_is); (case kcW => k_is); (case nW_width => k_is); (case nW_rows => k_is); (case aK => k_is); (case iK => k_is); (case lK => k_is); (case cK => k_is); (case kK => k_is); (case aU => k_is); (case iU => k_is); (case lU => k_is); (case cU => k_is); (case kU => k_is); (case aWK => k_is); (case iWK => k_is); (case lWK => k_is); (case cWK => k_is); (case kWK => k_is); (case aWVw => k_is); (case iWVw => k_is); (case lWVw => k_is); (case cWVw => k_is); (case kWVw => k_is); (case aWWo => k_is); (case iWWo => k_is); (case lWWo => k_is); (case cWWo => k_is); (case kWWo => k_is); (case aWLn => k_is); (case iWLn => k_is); (case lWLn => k_is); (case cWLn => k_is); (case kWLn => k_is); (case aWk => k_is); (case iWk => k_is); (case lWk => k_is); (case cWk => k_is); (case kWk => k_is); (case aWEq => k_is); (case iWEq => k_is); (case lWEq => k_is); (case cWEq => k_is); (case kWEq => k_is); (case aT => k_is); (case iT => k_is); (case lT => k_is); (case cT => k_is); (case kT => k_is); (case qT => k_is); (case xT => first | k_is | rfl | decide +kernel); (case uT => k_is); (case hcT => k_is); (case hsT => k_is); (case hmT => ks_is); (case hnT => k_is); (case hpT => k_is); (case hfT => first | k_is | rfl | decide +kernel); (case htT => first | k_is | rfl | decide +kernel); (case aWT => k_is); (case iWT => k_is); (case lWT => k_is); (case cWT => k_is); (case kWT => k_is); (case qWT => k_is); (case xWT => first | k_is | rfl | decide +kernel); (case uWT => k_is); (case hcWT => k_is); (case hsWT => k_is); (case hmWT => ks_is); (case hnWT => k_is); (case hpWT => k_is); (case hfWT => first | k_is | rfl | decide +kernel); (case htWT => first | k_is | rfl | decide +kernel); (case aG => k_is); (case tyG => k_is); (case ggG => k_is); (case tkG => k_is); (case rcG => k_is); (case lG => k_is); (case cG => k_is); (case kG => k_is); (case aR => k_is); (case ggR => k_is); (case tkR => k_is); (case rcR => k_is); (case lR => k_is); (case cR => k_is); (case kR => k_is); (case aPw => k_is); (case ggPw => k_is); (case tkPw => k_is); (case rcPw => k_is); (case lPw => k_is); (case cPw => k_is); (case kPw => k_is); (case aWMd => k_is); (case tyWMd => k_is); (case ggWMd => k_is); (case tkWMd => k_is); (case rcWMd => k_is); (case hnWMd => k_is); (case icWMd => k_is); (case lWMd => k_is); (case cWMd => k_is); (case kWMd => k_is); (case rdC => k_is); (case sgC => k_is); (case atG => k_is); (case aWR => k_is); (case aWPw => k_is); (case q1 => k_is); (case q2 => k_is); (case q3 => k_is); (case q4 => k_is); (case q5 => k_is); (case q6 => k_is); (case q7 => k_is); (case q8 => k_is); (case kiWW => kit_is); (case vZ => k_is); (case vE => k_is); (case vO => k_is); (case z0 => k_is); (case z1 => k_is); (case z2 => k_is); (case z3 => k_is); (case z4 => k_is); (case z5 => k_is); (case z6 => k_is); (case z7 => k_is); (case z8 => k_is); (case z9 => k_is); (case z10 => k_is); (case z11 => k_is); (case z12 => k_is); (case z13 => k_is); (case z14 => k_is)

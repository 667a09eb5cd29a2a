import PyProof.Rows.All
import Wide.All
import OpenK.AllK
import Wide.FinOn
import HandS.ForMost
import HandS.Codes
import HandS.IsInst
import HandS.StrMore
import HandS.DictComp
import HandS.Walk
import HandS.Style
import HandS.Conv
import PyProof.ReprRoads
import HandS.Strs
import HandS.SetFor
import HandS.ClsMeth
import HandS.Property
import HandS.AnyAll
import PyProof.Rows.SortShellAny
import KE.RegKSuper
import PyProof.DictUpdate
import HandS.SetKeys
import HandS.MakeKwOnly
import HandS.GenList
import HandS.ListItems
import HandS.GenYield
import HandS.NoneIn
import HandS.Star
import HandS.DeepEq
import PyProof.Rows.StrPins
import PyProof.Rows.StrPadWhole
import PyProof.Rows.StrPadFill
import HandS.WordsExc
import HandS.ExcOwn
import HandS.ExcIs
import HandS.ExcValue
import HandS.DictTup
import KE.SortData
import KE.KRevSl
import KE.OsRunLaw
import KE.DataMinMax
import KE.GoesEnumKw
import KE.GoesMore
import PyProof.Draws
import HandS.FStr
import HandS.Text
import HandS.Iter
import HandS.DeepEq
import HandS.ExcInit
import HandS.ExcField
import HandS.ExcSuper
import KE.KExcSuper
import PySem.Challenge.RW_keptroutes_k17_texts_that_are_none
set_option Elab.async false
set_option linter.all false
set_option maxRecDepth 100000
set_option maxHeartbeats 4000000
section
open PySem PySem.W PyProof.Rows
local macro_rules | `(tactic| k_head) => `(tactic| k_headL)
set_option maxHeartbeats 0 in
open_top Kt.head0 for PySem.Challenge.rw_keptroutes_k17_texts_that_are_none
end
namespace Kt
open PySem PySem.Spec PyProof.Rows L2
/-! ### defs that may call repr: no repr is under way around them -/
structure FnG (P : Program) (w : World) (K : PySem.W.Frag) (mg : Str → Option Value) (base : Heap) (k : Nat) (f : Addr) (fd : FuncData) (ps : List Str) (sp : Sp) : Prop where
  many : ∀ vs H Q E, sp vs H Q E → vs.length = ps.length
  go : ∀ (A : Around), A.guards = some [] → ∀ (outer : List Env) (s : Shared) (H : Hp) (args : Args) (us : List Value) (vs : List V) (Q : VK), Room k A → Env0 P w K mg base A outer s H →
    BindsTo s fd args (ps.zip us) → Vals vs us → sp vs H Q E0 → codeAny (model P w) A (.call (.ref f) args) (CR CX0 outer P w H s Q E0) s
theorem FnG.mono {P : Program} {w : World} {K : PySem.W.Frag} {mg : Str → Option Value} {base : Heap} {j k : Nat} {f : Addr} {fd : FuncData} {ps : List Str} {sp : Sp} (F : FnG P w K mg base j f fd ps sp) (h : j ≤ k) : FnG P w K mg base k f fd ps sp :=
  ⟨F.many, fun A g outer s H args us vs Q hr => F.go A g outer s H args us vs Q (hr.mono h)⟩
section
variable {P : Program} {w : World} {K : PySem.W.Frag} {mg : Str → Option Value} {base : Heap}
/-- a def's promise, from its body, where no repr is under way -/
theorem okG {x qual : Str} {st : Stmt} {f : Addr} {fd : FuncData} {N ps : List Str} {k : Nat} {sp : Sp} (F : Fun K x qual st f fd) (S : FnScope N ps (defScope st)) (many : ∀ vs H Q E, sp vs H Q E → vs.length = ps.length)
    (body : ∀ (cdv : Value) (A : Around) (outer : List Env) (s : Shared) (H : Hp) (vs : List V) (Q : VK), A.guards = some [] → Room k (A.deeper (envOfC qual (defScope st) s.heap.objs.size f cdv)) → sp vs H Q E0 →
      ∃ t, PSs (cxOf CX0 P w K mg base N qual (defScope st) f cdv A outer s H E0).nox (defBody st) t ∧ t { nx := fun _ H' => Q .non H', rt := Q } (start N vs) H) : FnG P w K mg base (k + 1) f fd ps sp := by
  obtain ⟨oc, od, kV, doc, pm, an, cdv, ct, osl, rfl, lk, hcd⟩ := F.ex
  refine ⟨many, fun A g outer s H args us vs Q room e0 bind rel want => ?_⟩
  have old : ∀ b o, base.get? b = some o → s.heap.get? b = some o := fun b o e => (e0.bs b o e).1
  have KX : K.In s.heap := e0.mod.kin.keeps old
  have lim : s.heap.NoLimit := e0.mod.nolimit.keeps old
  have kinds : ∀ y ∈ ps.zip us, (defScope st).names.lookup y.1 = some .local ∨ ((defScope st).names.lookup y.1 = some .cell ∧ ((cellsFrom (s.heap.objs.size + 1) (defScope st).names []).lookup y.1).isSome = true) := by
    rintro ⟨n, v⟩ hy
    rcases S.par n (List.of_mem_zip hy).1 with q | q
    · exact .inl q
    · exact .inr ⟨q, PySem.W.cellsFrom_some _ _ _ (.inl q)⟩
  refine codeAny_call_function room.depth (KX _ _ lk) rfl S.co S.gen rfl (PySem.W.codeRec_of KX hcd) (bind _ _ _ _ (wpAny_newFunctionEnv_cells S.kind kinds fun env he s1 x => ?_))
  subst he
  obtain ⟨t, ht, hq⟩ := body cdv A outer s H vs Q g (room.deeper _) want
  have I := inv_start (CX := CX0) (E := E0) S room.hd e0 (many _ _ _ _ want) rel x
  refine ⟨lim.keeps x.toInCall.keep, codeAny_func (wpAny_mono (ht.nox.run [] s1 (start N vs) H _ I hq) (fun fl s' hs => ?_) fun e s' hs => hs)⟩
  cases fl with
  | ret u =>
    obtain ⟨v, σ', H', J, rv, q⟩ := hs
    exact ⟨v, H', J.os, J.bare, J.base, J.hok, rv, q⟩
  | next =>
    obtain ⟨σ', H', J, q⟩ := hs
    exact ⟨V.non, H', J.os, J.bare, J.base, J.hok, rfl, q⟩
  | brk =>
    obtain ⟨_, _, _, q⟩ := hs
    exact q.elim
  | cont =>
    obtain ⟨_, _, _, q⟩ := hs
    exact q.elim
end
/-- f(a, ..) of such a def, within such a def -/
theorem pe_callG {X : Cx} {k : Nat} {f : Addr} {fd : FuncData} {ps : List Str} {sp : Sp} {x : Str} {p pos : Pos} {e : Expr} {es : List Expr} {t : TA} (F : FnG X.prog X.w X.K X.mg X.base k f fd ps sp) (g : X.A.guards = some []) (hr : Room k X.A) (hg : Gl X x) (hm : X.mg x = some (.ref f))
    (hk : PySem.W.keepIn X.K (.ref f) = true) (hb : Binds X.K fd ps []) (ha : PA X (e :: es) t) (hdb : (x == ("__debug__" : Str)) = false := by decide)
    (he : starEach (e :: es) X.env = (false, eval e X.env) :: starEach es X.env := by rfl) (hpl : (backTo pos (starEach es X.env)).any (·.1) = false := by rfl) : PE X (.Call (.Name x p) (e :: es) [] pos) (tCall sp [] E0 t) := by
  constructor
  intro pins s σ H Q I h
  refine wpAny_Call_Name_kw (ld_glob I hg hm (PySem.W.callWith_K (h₀ := X.base) I.ok.mod.kin hk (thn (ha.run pos pins s σ H _ I h) ?_) he hpl) hdb)
  rintro us s1 ⟨vs, H1, I1, r, q⟩
  refine ⟨I1.kIn, ?_⟩
  have r2 : Vals (vs ++ []) (us ++ []) := r.append .nil
  have hl : (us ++ []).length = ps.length := by rw [← r2.length]; exact F.many _ _ _ _ q
  refine wpAny_call (codeAny_mono (F.go X.A g X.stack s1 H1 ⟨us, []⟩ (us ++ []) (vs ++ []) Q hr I1.env0 (hb s1 us I1.kIn hl) r2 q) fun res s' hq => ?_)
  match res, hq with
  | .ok (.ret u), hq => exact I1.after hq
/-! ### the end of a law whose promise is of this kind -/
theorem law_callG {P : Program} {w : World} {K : PySem.W.Frag} {mg mb : Str → Option Value} {k : Nat} {fa a : Addr} {fd : FuncData} {x : Str} {sp : Sp} {s₁ : Shared} {vs : List Value} {ns : List Int}
    (KX : K.In s₁.heap) (hns : s₁.heap.Ns mainGlobals mg) (hb : s₁.heap.Ns builtinsNs mb) (hbb : ∀ x : Str, x ≠ "__name__" → mb x = bootBuiltins x) (hlim : s₁.heap.NoLimit) (hsys : ∃ mm, s₁.heap.Ns sysModules mm) (hg : s₁.gens = #[])
    (ha : s₁.heap.get? a = some { cls := .type "list", data := .seq vs.toArray }) (hi : IntsAre vs ns) (hl : ns.length ≤ sizeLine) (hr : Room k callerA)
    (F : ∀ base : Heap, K.In base → base.Ns mainGlobals mg → (∃ mm, base.Ns sysModules mm) → FnG P w K mg base k fa fd [x] sp) (hbind : ∀ (s : Shared) (u : Value), BindsTo s fd ⟨[u], []⟩ [(x, u)])
    (hsp : ∀ H : Hp, SqL K H a (ns.map V.int) → sp [.ref a] H (fun v _ => v = .bl true) E0) :
    codeAny (model P w) callerA (.call (.ref fa) ⟨[.ref a], []⟩) (fun r s' => r = .ok (.ret (.bool true)) ∧ OldK s₁.heap s'.heap ∧ s'.os = s₁.os ∧ AllBare s'.gens) s₁ := by
  have rv := vals_ints hi
  have lenV := hi.length
  have main : ∀ H : Hp, SqL K H a (ns.map V.int) → HOk P w H s₁.heap → (∀ b, H b ≠ none → b = a ∧ K.lookup a = none ∧ ∃ u, H b = some (.frz { cls := .type "list", data := .seq vs.toArray } u)) →
      codeAny (model P w) callerA (.call (.ref fa) ⟨[.ref a], []⟩) (fun r s' => r = .ok (.ret (.bool true)) ∧ OldK s₁.heap s'.heap ∧ s'.os = s₁.os ∧ AllBare s'.gens) s₁ := by
    intro H hS ok only
    have free : ∀ {b : Addr} {o : Obj}, s₁.heap.get? b = some o → (H b ≠ none → False) → (hidT s₁.heap H).get? b = some o := fun {b o} e n => hidT_get e (by
      cases q : H b with
      | none => rfl
      | some u => exact (n (by rw [q]; exact fun z => nomatch z)).elim)
    have dct : ∀ {b : Addr} {m : Str → Option Value}, s₁.heap.Ns b m → (hidT s₁.heap H).Ns b m := by
      rintro b m ⟨o, es, ep, e, d, r⟩
      refine ⟨o, es, ep, free e fun n => ?_, d, r⟩
      obtain ⟨rfl, _, _⟩ := only b n
      rw [ha] at e
      cases e
      cases d
    have kin : K.In (hidT s₁.heap H) := fun b o e => free (KX b o e) fun n => by
      obtain ⟨rfl, z, _⟩ := only b n
      rw [z] at e
      cases e
    have mod : Mod K mg (hidT s₁.heap H) := ⟨kin, dct hns, ⟨mb, dct hb, hbb⟩, by obtain ⟨mc, h1, h2⟩ := hlim; exact ⟨mc, dct h1, h2⟩⟩
    have sys : ∃ mm, (hidT s₁.heap H).Ns sysModules mm := by obtain ⟨mm, h⟩ := hsys; exact ⟨mm, dct h⟩
    have env : Env0 P w K mg (hidT s₁.heap H) callerA [] s₁ H := ⟨rfl, mod, fun _ _ => of_hidT, Nat.le_of_eq (hidT_size _ _), trivial, fun _ hb => absurd hb List.not_mem_nil, ok, .of_eq hg⟩
    refine codeAny_mono ((F _ kin (dct hns) sys).go callerA rfl [] s₁ H ⟨[.ref a], []⟩ [.ref a] [.ref a] _ hr env (hbind s₁ (.ref a)) (.cons rfl .nil) (hsp H hS)) fun r s' h => ?_
    match r, h with
    | .ok (.ret u), ⟨v, H', os, bare, un, ok', rel, q⟩ =>
      subst q
      cases (show u = Value.bool true from rel)
      refine ⟨rfl, OldK.of_keep fun b o e => ?_, os, bare⟩
      cases q : H b with
      | none => exact un.keep b o e q (fun z => nomatch z) fun z => nomatch z
      | some u =>
        obtain ⟨rfl, _, u', z⟩ := only b (by rw [q]; exact fun z => nomatch z)
        rw [ha] at e
        cases e
        exact (ok' b _ (un.frzs b _ _ z)).1
  cases hk : K.lookup a with
  | some o =>
    have e := KX a o hk
    rw [ha] at e
    cases e
    exact main (fun _ => none) (.inr ⟨_, vs.toArray, _, hk, rfl, rfl, rfl, by rw [List.size_toArray, lenV]; exact hl, rv⟩) (fun b u z => nomatch (show (none : Option HO) = some u from z)) fun b z => absurd rfl z
  | none =>
    refine main (fun b => if b = a then some (.frz { cls := .type "list", data := .seq vs.toArray } (.lst (ns.map V.int))) else none) (.inl (.inr ⟨_, if_pos rfl⟩)) (fun b u z => ?_) fun b z => ?_
    · by_cases q : b = a
      · dsimp only at z
        rw [if_pos q] at z
        cases z
        rw [q]
        exact ⟨ha, by rw [List.length_map]; exact hl, vs, _, rv, ha⟩
      · dsimp only at z
        rw [if_neg q] at z
        cases z
    · by_cases q : b = a
      · exact ⟨q, hk, _, if_pos q⟩
      · exact absurd (if_neg q) z
theorem walkG {l : PySem.W.OpenLaw} {n k : Nat} {q : Program} {loose : List Str} {XP : (Str → Option Value) → Heap → Prop} {YP : World → Heap → Prop} {d : DefRec} {K : Params → PySem.W.Frag} {sp : World → Sp} {x : Str} (hn : l.most = some n) (hn2 : n ≤ sizeLine) (hdf : d.params.defaults = [])
    (him : importsNone q = true) (hr : Room k callerA) (hY : ∀ (w : World) (h : Heap), YP w h → (K w.params).In h)
    (F : ∀ (w : World) (mg : Str → Option Value) (fa : Addr) (h : Heap), (K w.params).In h → h.Ns mainGlobals mg → mg d.name = some (.ref fa) →
      ∃ fd : FuncData, (∀ (s : Shared) (u : Value), BindsTo s fd ⟨[u], []⟩ [(x, u)]) ∧ ∀ base : Heap, (K w.params).In base → base.Ns mainGlobals mg → (∃ mm, base.Ns sysModules mm) → FnG l.prog w (K w.params) mg base k fa fd [x] (sp w))
    (hsp : ∀ (w : World) (H : Hp) (a : Addr) (ns : List Int), ns.length ≤ n → SqL (K w.params) H a (ns.map V.int) → sp w [.ref a] H (fun v _ => v = .bl true) E0) : PySem.W.WalkO q loose XP YP l.row.toRowW d [] (fun f vs => PySem.call f vs) :=
  Att.attach_call hn hdf fun w _ _ mg _ fa _ _ _ _ a _ ns G Y _ _ _ hmg hobj hints hlen hg => by
    have KX := hY w _ Y
    obtain ⟨fd, hb, hF⟩ := F w mg fa _ KX G.T.g hmg
    obtain ⟨mm, hm, _⟩ := (G.T.seer him).mods
    exact law_callG KX G.T.g G.T.b G.T.builtins G.T.nolimit ⟨mm, hm⟩ hg hobj hints (Nat.le_trans hlen hn2) hr hF hb fun H hS => hsp w H a ns hlen hS
/-! ### repr of data: none, bools, ints, texts, lists, tuples, dicts by ints and texts -/
def keyD : Key → PyData
  | .inl i => .int i
  | .inr x => .str x
mutual
/-- in the heap H the value is this data -/
inductive Dr (K : PySem.W.Frag) (H : Hp) (N : Addr → Prop) : V → PyData → Prop
  | non : Dr K H N .non .none
  | bl (b : Bool) : Dr K H N (.bl b) (.bool b)
  | int (i : Int) : Dr K H N (.int i) (.int i)
  | str (x : Str) : Dr K H N (.str x) (.str x)
  | lst {a : Addr} {xs : List V} {ds : List PyData} (n : N a) (h : SqL K H a xs) (all : DrAll K H N xs ds) : Dr K H N (.ref a) (.list ds)
  | tup {a : Addr} {xs : List V} {ds : List PyData} (n : N a) (h : SqT K H a xs) (all : DrAll K H N xs ds) : Dr K H N (.ref a) (.tuple ds)
  | dic {a : Addr} {kvs : List (Key × V)} {ds : List (PyData × PyData)} (n : N a) (h : Rd H a (.dK kvs)) (all : DrKv K H N kvs ds) : Dr K H N (.ref a) (.dict ds)
inductive DrAll (K : PySem.W.Frag) (H : Hp) (N : Addr → Prop) : List V → List PyData → Prop
  | nil : DrAll K H N [] []
  | cons {v : V} {vs : List V} {d : PyData} {ds : List PyData} (h : Dr K H N v d) (t : DrAll K H N vs ds) : DrAll K H N (v :: vs) (d :: ds)
inductive DrKv (K : PySem.W.Frag) (H : Hp) (N : Addr → Prop) : List (Key × V) → List (PyData × PyData) → Prop
  | nil : DrKv K H N [] []
  | cons {k : Key} {v : V} {kvs : List (Key × V)} {d : PyData} {ds : List (PyData × PyData)} (h : Dr K H N v d) (t : DrKv K H N kvs ds) : DrKv K H N ((k, v) :: kvs) ((keyD k, d) :: ds)
end
mutual
theorem Dr.move {K : PySem.W.Frag} {H H' : Hp} {N N' : Addr → Prop} (k : ∀ a o, N a → H a = some o → H' a = some o) (m : ∀ a, N a → N' a) : ∀ {v : V} {d : PyData}, Dr K H N v d → Dr K H' N' v d
  | _, _, .non => .non
  | _, _, .bl b => .bl b
  | _, _, .int i => .int i
  | _, _, .str x => .str x
  | _, _, .lst (a := a) n h all => .lst (m _ n) (by
    rcases h with (h | ⟨o, h⟩) | h
    · exact .inl (.inl (k _ _ n h))
    · exact .inl (.inr ⟨o, k _ _ n h⟩)
    · exact .inr h) (all.move k m)
  | _, _, .tup n h all => .tup (m _ n) (by
    rcases h with (h | ⟨o, h⟩) | h
    · exact .inl (.inl (k _ _ n h))
    · exact .inl (.inr ⟨o, k _ _ n h⟩)
    · exact .inr h) (all.move k m)
  | _, _, .dic n h all => .dic (m _ n) (by
    rcases h with h | ⟨o, h⟩
    · exact .inl (k _ _ n h)
    · exact .inr ⟨o, k _ _ n h⟩) (all.move k m)
theorem DrAll.move {K : PySem.W.Frag} {H H' : Hp} {N N' : Addr → Prop} (k : ∀ a o, N a → H a = some o → H' a = some o) (m : ∀ a, N a → N' a) : ∀ {vs : List V} {ds : List PyData}, DrAll K H N vs ds → DrAll K H' N' vs ds
  | _, _, .nil => .nil
  | _, _, .cons h t => .cons (h.move k m) (t.move k m)
theorem DrKv.move {K : PySem.W.Frag} {H H' : Hp} {N N' : Addr → Prop} (k : ∀ a o, N a → H a = some o → H' a = some o) (m : ∀ a, N a → N' a) : ∀ {kvs : List (Key × V)} {ds : List (PyData × PyData)}, DrKv K H N kvs ds → DrKv K H' N' kvs ds
  | _, _, .nil => .nil
  | _, _, .cons h t => .cons (h.move k m) (t.move k m)
end
theorem DrAll.len {K : PySem.W.Frag} {H : Hp} {N : Addr → Prop} : ∀ {vs : List V} {ds : List PyData}, DrAll K H N vs ds → vs.length = ds.length
  | _, _, .nil => rfl
  | _, _, .cons _ t => congrArg (· + 1) t.len
theorem DrAll.snoc {K : PySem.W.Frag} {H : Hp} {N : Addr → Prop} {v : V} {d : PyData} (h : Dr K H N v d) : ∀ {vs : List V} {ds : List PyData}, DrAll K H N vs ds → DrAll K H N (vs ++ [v]) (ds ++ [d])
  | _, _, .nil => .cons h .nil
  | _, _, .cons h1 t => .cons h1 (t.snoc h)
theorem DrAll.get {K : PySem.W.Frag} {H : Hp} {N : Addr → Prop} : ∀ {vs : List V} {ds : List PyData} {i : Nat} {v : V}, DrAll K H N vs ds → vs[i]? = some v → ∃ d, ds[i]? = some d ∧ Dr K H N v d
  | _, _, _, _, .nil, e => by simp at e
  | _, _, 0, _, .cons h _, e => ⟨_, rfl, by
    have e' := Option.some.inj e
    rw [← e']
    exact h⟩
  | _, _, i + 1, v, .cons _ t, e => t.get (i := i) (v := v) e
theorem read_key {h : Heap} {k : Key} {u : Value} (e : keyIs k u = true) : Reads h u (keyD k) [] := by
  rcases keyIs_shape e with ⟨i, t, rfl, rfl⟩ | ⟨x, t, rfl, rfl⟩
  · exact .int i t
  · exact .str x t
section
variable {X : Cx} {pins : List (Addr × Obj)} {σ : L2.St} {H : Hp} {s : Shared} {N : Addr → Prop}
theorem no_sys_list (I : Inv X pins σ H s) (sys : ∃ mm, X.base.Ns sysModules mm) {a : Addr} {o : Obj} {its : Array Value} {n : Nat} (e : s.heap.get? a = some o) (d : o.data = .seq its n) : a ≠ sysModules := by
  rintro rfl
  obtain ⟨mm, o', es, ep, e', d', _⟩ := sys
  rw [I.bk _ _ e'] at e
  cases e
  rw [d] at d'
  cases d'
mutual
theorem Dr.reads (I : Inv X pins σ H s) (sys : ∃ mm, X.base.Ns sysModules mm) : ∀ (d : PyData) (v : V) (u : Value), Dr X.K H N v d → RelV v u → ∃ as, Reads s.heap u d as ∧ sysModules ∉ as
  | .none, _, _, h, r => by
    cases h
    cases r
    exact ⟨_, Reads.none, List.not_mem_nil⟩
  | .bool b, _, _, h, r => by
    cases h
    cases r
    exact ⟨_, Reads.bool b, List.not_mem_nil⟩
  | .int i, _, _, h, r => by
    cases h
    obtain ⟨t, rfl⟩ := r
    exact ⟨_, Reads.int i t, List.not_mem_nil⟩
  | .str x, _, _, h, r => by
    cases h
    obtain ⟨t, rfl⟩ := r
    exact ⟨_, Reads.str x t, List.not_mem_nil⟩
  | .list ds, _, _, h, r => by
    cases h with
    | lst _ hs ha =>
      cases r
      obtain ⟨its, rv, ⟨o, n, ho, hc, _, hd⟩, _⟩ := I.list hs
      obtain ⟨as, hr, hn⟩ := DrAll.reads I sys ds _ its ha rv
      exact ⟨_, Reads.list ho hc hd hr, fun m => (List.mem_cons.mp m).elim (fun e => no_sys_list I sys ho hd e.symm) hn⟩
  | .tuple ds, _, _, h, r => by
    cases h with
    | tup _ hs ha =>
      cases r
      obtain ⟨its, rv, ⟨o, ho, hc, n, hd⟩, _⟩ := I.tuple hs
      obtain ⟨as, hr, hn⟩ := DrAll.reads I sys ds _ its ha rv
      exact ⟨_, Reads.tuple ho hc hd hr, hn⟩
  | .dict ds, _, _, h, r => by
    cases h with
    | dic _ hs ha =>
      cases r
      obtain ⟨_, hsys, vs, rel, o, es, ep, ho, hc, hd, _, ps, _⟩ := dk_rd I.hok hs
      obtain ⟨as, bs, h1, h2, h3, h4⟩ := DrKv.reads I sys ds _ vs es.toList ha rel ps
      refine ⟨_, Reads.dict ho hc.1 hd h1 h2, fun m => ?_⟩
      rcases List.mem_append.mp m with m | m
      · rcases List.mem_cons.mp m with e | m
        · rw [← e] at hsys
          cases hsys
        · exact h3 m
      · exact h4 m
theorem DrAll.reads (I : Inv X pins σ H s) (sys : ∃ mm, X.base.Ns sysModules mm) : ∀ (ds : List PyData) (vs : List V) (us : List Value), DrAll X.K H N vs ds → Vals vs us → ∃ as, ReadsAll s.heap us ds as ∧ sysModules ∉ as
  | [], _, _, h, r => by
    cases h
    cases r
    exact ⟨_, ReadsAll.nil, List.not_mem_nil⟩
  | d :: ds, _, _, h, r => by
    cases h with
    | cons h1 h2 =>
      cases r with
      | cons r1 r2 =>
        obtain ⟨as, q1, n1⟩ := Dr.reads I sys d _ _ h1 r1
        obtain ⟨bs, q2, n2⟩ := DrAll.reads I sys ds _ _ h2 r2
        exact ⟨_, ReadsAll.cons q1 q2, fun m => (List.mem_append.mp m).elim n1 n2⟩
theorem DrKv.reads (I : Inv X pins σ H s) (sys : ∃ mm, X.base.Ns sysModules mm) : ∀ (ds : List (PyData × PyData)) (kvs : List (Key × V)) (vs : List (Key × Value)) (es : List DictEntry), DrKv X.K H N kvs ds → KV kvs vs → Pairs (mixKind X.prog X.w) es vs →
    ∃ as bs, ReadsAll s.heap (es.map (·.key)) (ds.map (·.1)) as ∧ ReadsAll s.heap (es.map (·.val)) (ds.map (·.2)) bs ∧ sysModules ∉ as ∧ sysModules ∉ bs
  | [], _, _, _, h, r, p => by
    cases h
    cases r
    cases p
    exact ⟨_, _, ReadsAll.nil, ReadsAll.nil, List.not_mem_nil, List.not_mem_nil⟩
  | (_, d) :: ds, _, _, _, h, r, p => by
    cases h with
    | cons h1 h2 =>
      cases r with
      | cons r1 r2 =>
        cases p with
        | cons p1 p2 p3 =>
          obtain ⟨e1, e2⟩ := r1
          obtain ⟨as, q1, n1⟩ := Dr.reads I sys d _ _ h1 e2
          obtain ⟨bs, cs, q2, q3, n2, n3⟩ := DrKv.reads I sys ds _ _ _ h2 r2 p3
          have e1' : _ = _ := e1
          rw [← e1'] at p1
          refine ⟨[] ++ bs, as ++ cs, ReadsAll.cons (read_key p1) q2, ReadsAll.cons (by show Reads _ (DictEntry.val _) d as; rw [p2]; exact q1) q3, by rw [List.nil_append]; exact n2, fun m => (List.mem_append.mp m).elim n1 n3⟩
end
end
/-- repr(x) -/
def rRepr (K : PySem.W.Frag) : List V → Hp → VK → Prop := fun xs H Q => ∃ (x : V) (d : PyData) (N : Addr → Prop), xs = [x] ∧ Dr K H N x d ∧ d.showable = true ∧ d.depth ≤ 60 ∧ d.shown.length ≤ sizeLine ∧ Q (.str d.shown) H
theorem call_repr {X : Cx} (g : X.A.guards = some []) (hu : X.A.units + 64 < cLine) (sys : ∃ mm, X.base.Ns sysModules mm) : CallR X (.builtin "repr") (rRepr X.K) := by
  intro pins s σ H xs us Q I r h
  obtain ⟨x, d, N, rfl, hd, hs, hz, hl, q⟩ := h
  obtain ⟨u, rfl, r1⟩ := vals1 r
  obtain ⟨as, hr, hn⟩ := Dr.reads I sys d x u hd r1
  have fin : ∀ (u : Tok) h' tk, (∀ b o, s.heap.get? b = some o → h'.get? b = some o) → EP X pins σ Q (.str d.shown u) { s with heap := h', toks := tk } := fun u h' tk hk => ⟨.str d.shown, H, I.kept hk, ⟨u, rfl⟩, q⟩
  cases hd with
  | non =>
    cases r1
    exact PySem.P.repr_of_none (fin _ s.heap _ fun _ _ e => e)
  | bl b =>
    cases r1
    cases b <;> exact PySem.P.repr_of_bool (fin _ s.heap _ fun _ _ e => e)
  | int i =>
    obtain ⟨t, rfl⟩ := r1
    exact PySem.P.repr_of_int (of_decide_eq_true (by simpa only [PyData.showable] using hs)) (fin _ s.heap _ fun _ _ e => e)
  | str z =>
    obtain ⟨t, rfl⟩ := r1
    exact PySem.P.repr_of_str (fin _ s.heap _ fun _ _ e => e) (by simpa only [PyData.shown] using hl)
  | lst _ h1 h2 =>
    cases r1
    exact repr_of_reads' (h₀ := s.heap) hr hs (fun _ => hn) g (by omega) (fun _ _ e => e) (fun h' u tk hk => fin u h' tk hk) hl
  | tup _ h1 h2 =>
    cases r1
    exact repr_of_reads' (h₀ := s.heap) hr hs (fun _ => hn) g (by omega) (fun _ _ e => e) (fun h' u tk hk => fin u h' tk hk) hl
  | dic _ h1 h2 =>
    cases r1
    exact repr_of_reads' (h₀ := s.heap) hr hs (fun _ => hn) g (by omega) (fun _ _ e => e) (fun h' u tk hk => fin u h' tk hk) hl
/-! ### texts -/
def onlyOf (y x : Str) : Bool := x.cps.toList.all fun c => y.cps.contains c
theorem takeWhile_full {α : Type} (p : α → Bool) : ∀ l : List α, decide ((l.takeWhile p).length = l.length) = l.all p
  | [] => rfl
  | a :: r => by
    have ih := takeWhile_full p r
    rw [List.takeWhile_cons, List.all_cons]
    cases ha : p a with
    | true =>
      rw [if_pos rfl, List.length_cons, List.length_cons, ← ih]
      simp
    | false =>
      rw [if_neg Bool.false_ne_true]
      simp
theorem empty_str : ("" : Str) = ⟨#[]⟩ := by decide +kernel
theorem str_ext {x y : Str} (h : x.cps.toList = y.cps.toList) : x = y := by
  cases x
  cases y
  congr 1
  exact Array.toList_inj.mp h
theorem lstrip_empty (x y : Str) : decide (V.str (Txt.lstripChars x y) = V.str "") = onlyOf y x := by
  have e : Txt.lstripChars x y = ⟨x.cps.extract (x.cps.toList.takeWhile y.cps.contains).length x.cps.size⟩ := stripBy_eq y.cps.contains true false x
  have h := takeWhile_full (fun c => y.cps.contains c) x.cps.toList
  unfold onlyOf
  rw [← h]
  apply decide_eq_decide.mpr
  have le : (x.cps.toList.takeWhile fun c => y.cps.contains c).length ≤ x.cps.toList.length := (List.takeWhile_sublist _).length_le
  constructor
  · intro q
    have q1 : Txt.lstripChars x y = "" := V.str.inj q
    rw [e, empty_str] at q1
    have q2 : (x.cps.extract (x.cps.toList.takeWhile y.cps.contains).length x.cps.size).size = 0 := by rw [Str.mk.inj q1]; rfl
    rw [Array.size_extract] at q2
    have q3 : x.cps.toList.length = x.cps.size := Array.length_toList
    have q4 : (x.cps.toList.takeWhile y.cps.contains).length ≤ x.cps.toList.length := le
    show (x.cps.toList.takeWhile y.cps.contains).length = _
    omega
  · intro q
    have q0 : (x.cps.toList.takeWhile y.cps.contains).length = x.cps.size := by
      rw [← Array.length_toList]
      exact q
    congr 1
    rw [e, empty_str, q0]
    congr 1
    simp
/-- bits alone -/
def isBits (x : Str) : Bool := onlyOf "01" x
/-- is_prefix -/
def isPfx (v : V) (w : Int) : Bool := match v with
  | .str x => decide ((x.length : Int) ≤ w) && isBits x
  | _ => false
def isStrV : V → Bool
  | .str _ => true
  | _ => false
/-- a value whose type isinstance reads: text or not -/
def TyS (K : PySem.W.Frag) (H : Hp) (v : V) : Prop := ∃ t : String, TyX K H v (.type t) ∧ PySem.W.kitOne K (.type t) (.type "str") = some (isStrV v)
theorem kit_f {K : PySem.W.Frag} {t : String} (h : kitB t "str" = some false) : PySem.W.kitOne K (.type t) (.type "str") = some false := kit_ty h
theorem TyS.of {K : PySem.W.Frag} {H : Hp} {N : Addr → Prop} {v : V} {d : PyData} (h : Dr K H N v d) : TyS K H v := by
  cases h with
  | non => exact ⟨_, .base .non, kit_f (by decide +kernel)⟩
  | bl b => exact ⟨_, .base (.bl b), kit_f (by decide +kernel)⟩
  | int i => exact ⟨_, .base (.int i), kit_f (by decide +kernel)⟩
  | str x => exact ⟨_, .base (.str x), kit_ty (r := true) (by decide +kernel)⟩
  | lst _ h _ =>
    rcases h with (h | ⟨o, h⟩) | ⟨o, _, _, h, hc, _⟩
    · exact ⟨_, .base (.lst h), kit_f (by decide +kernel)⟩
    · exact ⟨_, .base (.frz h), kit_f (by decide +kernel)⟩
    · exact ⟨_, .kList h hc, kit_f (by decide +kernel)⟩
  | tup _ h _ =>
    rcases h with (h | ⟨o, h⟩) | ⟨o, _, _, h, hc, _⟩
    · exact ⟨_, .base (.tup h), kit_f (by decide +kernel)⟩
    · exact ⟨_, .fTuple h, kit_f (by decide +kernel)⟩
    · exact ⟨_, .kTuple h hc, kit_f (by decide +kernel)⟩
  | dic _ h _ =>
    rcases h with h | ⟨o, h⟩
    · exact ⟨_, .base (.dK h), kit_f (by decide +kernel)⟩
    · exact ⟨_, .fDict h, kit_f (by decide +kernel)⟩
/-! ### the pen -/
/-- a pen stands at p: its numbers at c, its place i, its stock s, what was appended -/
def penL (c : Addr) (i s : Int) (m : List V) : HO := .lst (.ref c :: .int i :: .int s :: m)
structure PenAt (H : Hp) (p : Addr) (n : Nat) (m : List V) (c : Addr) (ns : List Int) (i s : Int) : Prop where
  at_ : H p = some (penL c i s m)
  cells : H c = some (.lst (ns.map V.int))
  len : ns.length ≤ 60
  i0 : 0 ≤ i
  i1 : i ≤ n
  s0 : 0 ≤ s
theorem PenAt.ne {H : Hp} {p c : Addr} {n : Nat} {m : List V} {ns : List Int} {i s : Int} (h : PenAt H p n m c ns i s) : c ≠ p := fun e => by
  have h1 := h.cells
  rw [e, h.at_] at h1
  have h2 := HO.lst.inj (Option.some.inj h1)
  cases ns with
  | nil => cases h2
  | cons x r => cases (List.cons.inj h2).1
theorem PenAt.mono {H : Hp} {p c : Addr} {n k : Nat} {m : List V} {ns : List Int} {i s : Int} (h : PenAt H p n m c ns i s) (hk : n ≤ k) : PenAt H p k m c ns i s :=
  ⟨h.at_, h.cells, h.len, h.i0, by have := h.i1; omega, h.s0⟩
/-- the pen behind a draw -/
theorem PenAt.next {H : Hp} {p c : Addr} {n k : Nat} {m : List V} {ns : List Int} {i s i' s' : Int} (h : PenAt H p n m c ns i s) (h0 : 0 ≤ i') (h1 : i' ≤ k) (h2 : 0 ≤ s') : PenAt (upd H p (penL c i' s' m)) p k m c ns i' s' :=
  ⟨upd_same, by rw [upd_ne h.ne]; exact h.cells, h.len, h0, h1, h2⟩
theorem PenAt.keep {H H' : Hp} {p c : Addr} {n : Nat} {m : List V} {ns : List Int} {i s : Int} (h : PenAt H p n m c ns i s) (k : Same H H') : PenAt H' p n m c ns i s :=
  ⟨k _ _ h.at_, k _ _ h.cells, h.len, h.i0, h.i1, h.s0⟩
/-- a pen at p, its numbers at c, whatever it holds -/
def Pen (H : Hp) (p c : Addr) (n : Nat) (m : List V) : Prop := ∃ ns i s, PenAt H p n m c ns i s
theorem Pen.keep {H H' : Hp} {p c : Addr} {n : Nat} {m : List V} (h : Pen H p c n m) (k : Same H H') : Pen H' p c n m := by
  obtain ⟨ns, i, s, h⟩ := h
  exact ⟨ns, i, s, h.keep k⟩
theorem Pen.mono {H : Hp} {p c : Addr} {n k : Nat} {m : List V} (h : Pen H p c n m) (hk : n ≤ k) : Pen H p c k m := by
  obtain ⟨ns, i, s, h⟩ := h
  exact ⟨ns, i, s, h.mono hk⟩
theorem Pen.ne_p {H : Hp} {p c : Addr} {n : Nat} {m : List V} (h : Pen H p c n m) {a : Addr} (e : H a = none) : a ≠ p := by
  obtain ⟨ns, i, s, h⟩ := h
  rintro rfl
  rw [h.at_] at e
  cases e
theorem Pen.ne_c {H : Hp} {p c : Addr} {n : Nat} {m : List V} (h : Pen H p c n m) {a : Addr} (e : H a = none) : a ≠ c := by
  obtain ⟨ns, i, s, h⟩ := h
  rintro rfl
  rw [h.cells] at e
  cases e
/-- a store elsewhere -/
theorem Pen.off {H : Hp} {p c : Addr} {n : Nat} {m : List V} (h : Pen H p c n m) {a : Addr} {o : HO} (h1 : a ≠ p) (h2 : a ≠ c) : Pen (upd H a o) p c n m := by
  obtain ⟨ns, i, s, h⟩ := h
  exact ⟨ns, i, s, by rw [upd_ne h1.symm]; exact h.at_, by rw [upd_ne h2.symm]; exact h.cells, h.len, h.i0, h.i1, h.s0⟩
/-- all but p is as it was -/
def But (p : Addr) (H H' : Hp) : Prop := ∀ b o, b ≠ p → H b = some o → H' b = some o
theorem But.refl (p : Addr) (H : Hp) : But p H H := fun _ _ _ e => e
theorem But.trans {p : Addr} {H H1 H2 : Hp} (a : But p H H1) (b : But p H1 H2) : But p H H2 := fun c o n e => b c o n (a c o n e)
theorem But.of_same {p : Addr} {H H' : Hp} (h : Same H H') : But p H H' := fun b o _ e => h b o e
theorem But.upd {p : Addr} {H : Hp} {o : HO} : But p H (upd H p o) := fun b x n e => by rw [upd_ne n]; exact e
/-- what is free behind was free ahead -/
theorem But.free {p : Addr} {H H' : Hp} (e : But p H H') {a : Addr} (n : a ≠ p) (h : H' a = none) : H a = none := by
  cases q : H a with
  | none => rfl
  | some o =>
    rw [e a o n q] at h
    cases h
theorem But.seq {K : PySem.W.Frag} {p : Addr} {H H' : Hp} {a : Addr} {xs : List V} (e : But p H H') (hn : a ≠ p) (h : SqL K H a xs) : SqL K H' a xs := by
  rcases h with (h | ⟨o, h⟩) | h
  · exact .inl (.inl (e _ _ hn h))
  · exact .inl (.inr ⟨o, e _ _ hn h⟩)
  · exact .inr h
theorem PenAt.but {H H' : Hp} {p c : Addr} {n k : Nat} {m : List V} {ns : List Int} {i s i' s' : Int} (h : PenAt H p n m c ns i s) (hb : But p H H') (e : H' p = some (penL c i' s' m)) (h0 : 0 ≤ i') (h1 : i' ≤ k) (h2 : 0 ≤ s') : PenAt H' p k m c ns i' s' :=
  ⟨e, hb _ _ h.ne h.cells, h.len, h0, h1, h2⟩
/-- no call makes more turns of the pen -/
abbrev PB : Nat := 1000000000000
def spPen (K : PySem.W.Frag) : Sp := fun vs H Q _ => ∃ (a : Addr) (ns : List Int), vs = [.ref a] ∧ SqL K H a (ns.map V.int) ∧ ns.length ≤ 63 ∧ ∀ H' p c, Same H H' → H p = none → H c = none → Pen H' p c 0 [] → Q (.ref p) H'
def spNext : Sp := fun vs H Q _ => ∃ (p : Addr) (n : Nat) (m : List V) (c : Addr) (ns : List Int) (i s : Int), vs = [.ref p] ∧ PenAt H p n m c ns i s ∧ n ≤ PB ∧
  ∀ (x : Int) (H' : Hp), 0 ≤ x → But p H H' → PenAt H' p (n + 1) m c ns (i + 1) s → Q (.int x) H'
def spDraw : Sp := fun vs H Q _ => ∃ (p c : Addr) (n : Nat) (m : List V) (below : Int), vs = [.ref p, .int below] ∧ Pen H p c n m ∧ n ≤ PB ∧ 0 < below ∧ below < 1073741824 ∧
  ∀ (d : Int) (H' : Hp), 0 ≤ d → d < below → But p H H' → Pen H' p c (n + 1) m → Q (.int d) H'
theorem sixty {ns : List Int} : HT.sIx ns.length 0 none = 0 ∧ HT.sIx ns.length ns.length (some 60) ≤ 60 := by
  refine ⟨HT.sIx_none _ _, ?_⟩
  rw [show HT.sIx ns.length ns.length (some 60) = min 60 ns.length from HT.sIx_nat ns.length ns.length 60]
  omega
theorem cut60 (ns : List Int) : ∃ ms : List Int, cutV (ns.map V.int) none (some 60) = ms.map V.int ∧ ms.length ≤ 60 := by
  unfold cutV
  refine ⟨(ns.drop (HT.sIx (ns.map V.int).length 0 none)).take (HT.sIx (ns.map V.int).length (ns.map V.int).length (some 60) - HT.sIx (ns.map V.int).length 0 none), ?_, ?_⟩
  · rw [List.map_take, List.map_drop]
  · rw [List.length_take, List.length_map]
    have h := (sixty (ns := ns)).2
    omega
theorem same_upd {H : Hp} {p : Addr} {o : HO} (h : H p = none) : Same H (upd H p o) := fun b x e => by
  rw [upd_ne (ne_of_none e h)]
  exact e
theorem ix1 {a b c : V} {m : List V} : ixN (a :: b :: c :: m).length 1 = some 1 := by
  unfold ixN
  rw [if_pos (by decide), if_pos (by rw [List.length_cons, List.length_cons]; omega)]
  rfl
theorem ix2 {a b c : V} {m : List V} : ixN (a :: b :: c :: m).length 2 = some 2 := by
  unfold ixN
  rw [if_pos (by decide), if_pos (by rw [List.length_cons, List.length_cons, List.length_cons]; omega)]
  rfl
theorem dpAll_ints {K : PySem.W.Frag} {H : Hp} : ∀ ns : List Int, DpAll K H (ns.map V.int) (ns.map PyData.int)
  | [] => .nil
  | n :: r => .cons (.int n) (dpAll_ints r)
theorem eqv_nil (ns : List Int) : PyData.eqv (.list (ns.map PyData.int)) (.list []) = decide (ns = []) := by
  cases ns with
  | nil => rfl
  | cons x r => rfl
/-! ### what the reprs of small data come to -/
structure OkD (L B : Nat) (d : PyData) : Prop where
  sh : d.showable = true
  dp : d.depth ≤ L
  ln : d.shown.length ≤ B
theorem OkD.mono {L B L' B' : Nat} {d : PyData} (h : OkD L B d) (h1 : L ≤ L') (h2 : B ≤ B') : OkD L' B' d := ⟨h.sh, Nat.le_trans h.dp h1, Nat.le_trans h.ln h2⟩
theorem comma_len : ((", " : String) : Str).length = 2 := by decide +kernel
theorem join_le : ∀ ts : List Str, (Str.join ", " ts).length ≤ (ts.map fun t => t.length + 2).sum
  | [] => Nat.zero_le _
  | [x] => by
    show x.length ≤ _
    rw [List.map_cons, List.sum_cons]
    omega
  | x :: y :: r => by
    have ih := join_le (y :: r)
    show (x ++ ((", " : String) : Str) ++ Str.join ", " (y :: r)).length ≤ _
    rw [strLen_append, strLen_append, comma_len, List.map_cons, List.sum_cons]
    omega
theorem sum_le_of {l : List Str} {B : Nat} (h : ∀ t ∈ l, t.length ≤ B) : (l.map fun t => t.length + 2).sum ≤ l.length * (B + 2) := by
  induction l with
  | nil => exact Nat.zero_le _
  | cons x r ih =>
    have h1 := h x List.mem_cons_self
    have h2 := ih fun t ht => h t (List.mem_cons_of_mem _ ht)
    rw [List.map_cons, List.sum_cons, List.length_cons, Nat.succ_mul]
    omega
theorem shownAll_map : ∀ ds : List PyData, PyData.shownAll ds = ds.map PyData.shown
  | [] => PyData.shownAll_nil
  | d :: ds => by rw [PyData.shownAll_cons, shownAll_map ds, List.map_cons]
theorem showableAll_all : ∀ {ds : List PyData}, (∀ d ∈ ds, d.showable = true) → PyData.showableAll ds = true := PySem.Spec.showableAll_of
theorem depthAll_le {L : Nat} : ∀ {ds : List PyData}, (∀ d ∈ ds, d.depth ≤ L) → PyData.depthAll ds ≤ L
  | [], _ => by simp only [PyData.depthAll]; exact Nat.zero_le _
  | d :: ds, h => by
    have h1 := h d List.mem_cons_self
    have h2 := depthAll_le fun x hx => h x (List.mem_cons_of_mem _ hx)
    simp only [PyData.depthAll]
    omega
theorem OkD.list {L B n : Nat} {ds : List PyData} (hn : ds.length ≤ n) (h : ∀ d ∈ ds, OkD L B d) : OkD (L + 1) (n * (B + 2) + 2) (.list ds) := by
  refine ⟨by simp only [PyData.showable]; exact showableAll_all fun d hd => (h d hd).sh, ?_, ?_⟩
  · have := depthAll_le fun d hd => (h d hd).dp
    simp only [PyData.depth]
    omega
  · rw [PyData.shown_list, shownAll_map, strLen_append, strLen_append]
    have h1 := join_le (ds.map PyData.shown)
    have h2 := sum_le_of (l := ds.map PyData.shown) (B := B) fun t ht => by
      obtain ⟨d, hd, rfl⟩ := List.mem_map.mp ht
      exact (h d hd).ln
    rw [List.length_map] at h2
    have h3 := Nat.mul_le_mul_right (B + 2) hn
    have e1 : ((("[" : String) : Str)).length = 1 := by decide +kernel
    have e2 : ((("]" : String) : Str)).length = 1 := by decide +kernel
    omega
theorem OkD.tuple {L B n : Nat} {ds : List PyData} (hn : ds.length ≤ n) (h : ∀ d ∈ ds, OkD L B d) : OkD (L + 1) (n * (B + 2) + 3) (.tuple ds) := by
  refine ⟨by simp only [PyData.showable]; exact showableAll_all fun d hd => (h d hd).sh, ?_, ?_⟩
  · have := depthAll_le fun d hd => (h d hd).dp
    simp only [PyData.depth]
    omega
  · rw [PyData.shown_tuple, shownAll_map, strLen_append, strLen_append]
    have h1 := join_le (ds.map PyData.shown)
    have h2 := sum_le_of (l := ds.map PyData.shown) (B := B) fun t ht => by
      obtain ⟨d, hd, rfl⟩ := List.mem_map.mp ht
      exact (h d hd).ln
    rw [List.length_map] at h2
    have h3 := Nat.mul_le_mul_right (B + 2) hn
    have e1 : ((("(" : String) : Str)).length = 1 := by decide +kernel
    have e2 : (((if (ds.length == 1) = true then ",)" else ")" : String) : Str)).length ≤ 2 := by split <;> decide +kernel
    omega
theorem depthKv_le {L : Nat} : ∀ {ds : List (PyData × PyData)}, (∀ d ∈ ds, d.1.depth ≤ L ∧ d.2.depth ≤ L) → PyData.depthKv ds ≤ L
  | [], _ => by simp only [PyData.depthKv]; exact Nat.zero_le _
  | (a, b) :: ds, h => by
    have h1 : a.depth ≤ L ∧ b.depth ≤ L := h (a, b) List.mem_cons_self
    have h2 := depthKv_le fun x hx => h x (List.mem_cons_of_mem _ hx)
    simp only [PyData.depthKv]
    omega
theorem shownKv_map : ∀ ds : List (PyData × PyData), PyData.shownKv ds = ds.map fun p => p.1.shown ++ ((": " : String) : Str) ++ p.2.shown
  | [] => PyData.shownKv_nil
  | (a, b) :: ds => by rw [PyData.shownKv_cons, shownKv_map ds, List.map_cons]
theorem OkD.dict {L B C n : Nat} {ds : List (PyData × PyData)} (hn : ds.length ≤ n) (h : ∀ d ∈ ds, OkD L C d.1 ∧ OkD L B d.2) : OkD (L + 1) (n * (C + B + 4) + 2) (.dict ds) := by
  refine ⟨by simp only [PyData.showable]; exact PySem.Spec.showableKv_of fun d hd => ⟨(h d hd).1.sh, (h d hd).2.sh⟩, ?_, ?_⟩
  · have := depthKv_le fun d hd => ⟨(h d hd).1.dp, (h d hd).2.dp⟩
    simp only [PyData.depth]
    omega
  · rw [PyData.shown_dict, shownKv_map, strLen_append, strLen_append]
    have h1 := join_le (ds.map fun p => p.1.shown ++ ((": " : String) : Str) ++ p.2.shown)
    have e0 : (((": " : String) : Str)).length = 2 := by decide +kernel
    have h2 := sum_le_of (l := ds.map fun p => p.1.shown ++ ((": " : String) : Str) ++ p.2.shown) (B := C + B + 2) fun t ht => by
      obtain ⟨d, hd, rfl⟩ := List.mem_map.mp ht
      have z1 := (h d hd).1.ln
      have z2 := (h d hd).2.ln
      rw [strLen_append, strLen_append, e0]
      omega
    rw [List.length_map] at h2
    have h3 := Nat.mul_le_mul_right (C + B + 2 + 2) hn
    have e1 : ((("{" : String) : Str)).length = 1 := by decide +kernel
    have e2 : ((("}" : String) : Str)).length = 1 := by decide +kernel
    have e3 : C + B + 2 + 2 = C + B + 4 := by omega
    rw [e3] at h2 h3
    omega
/-! ### dicts made of pairs -/
theorem putK_end {kvs : List (Key × V)} {k : Key} {v : V} (h : k ∉ kvs.map (·.1)) : putK kvs k v = kvs ++ [(k, v)] := by
  unfold putK
  rw [if_neg]
  intro q
  obtain ⟨p, hp, e⟩ := List.any_eq_true.mp q
  exact h (List.mem_map.mpr ⟨p, hp, of_decide_eq_true e⟩)
theorem mergeK_nd : ∀ (more kvs : List (Key × V)), ((kvs ++ more).map (·.1)).Nodup → mergeK kvs more = kvs ++ more
  | [], kvs, _ => (List.append_nil _).symm
  | (k, v) :: r, kvs, h => by
    have e : kvs ++ (k, v) :: r = (kvs ++ [(k, v)]) ++ r := by rw [List.append_assoc]; rfl
    have hk : k ∉ kvs.map (·.1) := fun m => by
      rw [List.map_append, List.nodup_append] at h
      exact h.2.2 k m k (by rw [List.map_cons]; exact List.mem_cons_self) rfl
    show mergeK (putK kvs k v) r = _
    rw [putK_end hk, e]
    rw [e] at h
    exact mergeK_nd r _ h
theorem DrKv.zip {K : PySem.W.Frag} {H : Hp} {N : Addr → Prop} : ∀ (ks : List Key) {vs : List V} {ds : List PyData}, DrAll K H N vs ds → DrKv K H N (ks.zip vs) ((ks.map keyD).zip ds)
  | [], _, _, _ => .nil
  | _ :: _, _, _, .nil => .nil
  | k :: ks, _, _, .cons h t => .cons h (DrKv.zip ks t)
theorem nodup_zip {α β : Type} {ks : List α} (h : ks.Nodup) : ∀ vs : List β, ((ks.zip vs).map (·.1)).Nodup := fun vs => by
  have e : (ks.zip vs).map (·.1) = ks.take vs.length := by
    induction ks generalizing vs with
    | nil => cases vs <;> rfl
    | cons k ks ih =>
      cases vs with
      | nil => rfl
      | cons v vs =>
        show k :: (ks.zip vs).map (·.1) = _
        rw [ih (List.nodup_cons.mp h).2]
        rfl
  rw [e]
  exact h.sublist (List.take_sublist _ _)
/-- a comprehension without tests: the item is kept -/
theorem yes_if {σ : L2.St} {H : Hp} {A B : Hp → Prop} (h : A H) : tYes σ H fun b H3 => if b = true then A H3 else B H3 := by
  unfold tYes
  dsimp only
  rw [if_pos rfl]
  exact h
/-! ### texts made of texts -/
/-- the signs of a text -/
abbrev sg (x : Str) : List Nat := x.cps.toList
theorem sg_len (x : Str) : (sg x).length = x.length := Array.length_toList
theorem sg_app (x y : Str) : sg (x ++ y) = sg x ++ sg y := by
  show ((x.cps ++ y.cps).toList : List Nat) = _
  rw [Array.toList_append]
theorem sg_empty : sg "" = [] := by rw [show ("" : Str) = ⟨#[]⟩ from empty_str]
theorem app_empty (x : Str) : x ++ ((("" : String) : Str)) = x := str_ext (by
  show sg (x ++ _) = sg x
  rw [sg_app, sg_empty, List.append_nil])
theorem sg_join : ∀ ys : List Str, sg (Txt.join "" ys) = (ys.map sg).flatten := by
  intro ys
  show sg (Builtin.Str.glued "" ys) = _
  rw [StrLaws.glued_eq_join]
  induction ys with
  | nil => rfl
  | cons y r ih =>
    cases r with
    | nil =>
      show sg y = _
      rw [List.map_cons, List.map_nil, List.flatten_cons, List.flatten_nil, List.append_nil]
    | cons z t =>
      show sg (y ++ ((("" : String) : Str)) ++ Str.join "" (z :: t)) = _
      rw [app_empty, sg_app, ih, List.map_cons (a := y), List.flatten_cons]
/-- a text that is not long, of signs that repr writes short -/
structure Sm (n : Nat) (x : Str) : Prop where
  ln : x.length ≤ n
  ch : ∀ c ∈ sg x, c < 128
theorem Sm.mono {n m : Nat} {x : Str} (h : Sm n x) (hm : n ≤ m) : Sm m x := ⟨Nat.le_trans h.ln hm, h.ch⟩
theorem Sm.app {n m : Nat} {x y : Str} (h : Sm n x) (h' : Sm m y) : Sm (n + m) (x ++ y) := ⟨by
  rw [strLen_append]
  exact Nat.add_le_add h.ln h'.ln, fun c hc => by
  rw [sg_app] at hc
  exact (List.mem_append.mp hc).elim (h.ch c) (h'.ch c)⟩
theorem Sm.cut {n : Nat} {x : Str} (h : Sm n x) (lo hi : Option Int) : Sm n (cutS x lo hi) := ⟨Nat.le_trans (cutS_length x lo hi) h.ln, fun c hc => by
  have e : sg (cutS x lo hi) = ((sg x).drop (HT.sIx x.length 0 lo)).take (HT.sIx x.length x.length hi - HT.sIx x.length 0 lo) := rfl
  rw [e] at hc
  exact h.ch c (List.mem_of_mem_drop (List.mem_of_mem_take hc))⟩
theorem Sm.one {c : Nat} (h : c < 128) : Sm 1 ⟨#[c]⟩ := ⟨Nat.le_refl _, fun d hd => by
  have hd' : d ∈ [c] := hd
  rw [List.mem_singleton.mp hd']
  exact h⟩
theorem Sm.join {ys : List Str} (h : ∀ y ∈ ys, Sm 1 y) : Sm ys.length (Txt.join "" ys) := by
  constructor
  · rw [← sg_len, sg_join]
    induction ys with
    | nil => exact Nat.le_refl _
    | cons y r ih =>
      have h1 := (h y List.mem_cons_self).ln
      have h2 := ih fun z hz => h z (List.mem_cons_of_mem _ hz)
      rw [List.map_cons, List.flatten_cons, List.length_append, List.length_cons, sg_len]
      omega
  · intro c hc
    rw [sg_join] at hc
    obtain ⟨l, hl, hc⟩ := List.mem_flatten.mp hc
    obtain ⟨y, hy, rfl⟩ := List.mem_map.mp hl
    exact (h y hy).ch c hc
theorem Sm.ok {n B : Nat} {x : Str} (h : Sm n x) (hb : 10 * n + 2 ≤ B) : OkD 0 B (.str x) := by
  refine ⟨by simp only [PyData.showable], by simp only [PyData.depth]; exact Nat.le_refl _, ?_⟩
  rw [PyData.shown_str]
  have h1 := StrLaws.reprText_len x fun c hc => Nat.lt_of_lt_of_le (h.ch c hc) (by decide)
  have h2 := h.ln
  omega
theorem sum_ones {ys : List Str} (h : ∀ y ∈ ys, Sm 1 y) : (ys.map (·.length)).sum ≤ ys.length := by
  induction ys with
  | nil => exact Nat.le_refl _
  | cons y r ih =>
    have h1 := (h y List.mem_cons_self).ln
    have h2 := ih fun z hz => h z (List.mem_cons_of_mem _ hz)
    rw [List.map_cons, List.sum_cons, List.length_cons]
    omega
/-- text * number -/
def rMulS : R2 := fun x y H Q => ∃ z n, x = .str z ∧ y = .int n ∧ MulOk z n ∧ Q (.str (Txt.mul z n)) H
theorem op_mulS {X : Cx} : OpR X (binaryOp .Mult) rMulS := by
  intro pins s σ H x y v u Q I rx ry h
  obtain ⟨z, n, rfl, rfl, ok, q⟩ := h
  obtain ⟨t, rfl⟩ := rx
  obtain ⟨t', rfl⟩ := ry
  exact SB.mul ok fun t k => ⟨.str _, H, I.tok _, ⟨_, rfl⟩, q⟩
theorem foldl_app (l : List (Array Nat)) : ∀ a : Array Nat, (l.foldl (· ++ ·) a).toList = a.toList ++ (l.map Array.toList).flatten := by
  induction l with
  | nil => intro a; simp
  | cons x r ih =>
    intro a
    rw [List.foldl_cons, ih, Array.toList_append, List.map_cons, List.flatten_cons, List.append_assoc]
theorem mul_sm {x : Str} {n : Nat} (h : Sm 1 x) (h1 : 2 ≤ n) (hx : (x.length == 0) = false) : Sm n (Txt.mul x (n : Int)) := by
  have e : Txt.mul x (n : Int) = ⟨(List.replicate n x.cps).foldl (· ++ ·) #[]⟩ := by
    unfold Txt.mul
    rw [if_neg (by omega), hx, show ((n : Int) == 1) = false from beq_eq_false_iff_ne.mpr (by omega)]
    rfl
  have e2 : sg (Txt.mul x (n : Int)) = (List.replicate n (sg x)).flatten := by
    rw [e]
    show ((List.replicate n x.cps).foldl (· ++ ·) #[]).toList = _
    rw [foldl_app, List.map_replicate]
    rfl
  constructor
  · rw [← sg_len, e2, List.length_flatten, List.map_replicate, List.sum_replicate_nat, sg_len]
    have := h.ln
    exact Nat.le_trans (Nat.mul_le_mul_left n this) (by omega)
  · intro c hc
    rw [e2] at hc
    obtain ⟨l, hl, hc⟩ := List.mem_flatten.mp hc
    rw [(List.mem_replicate.mp hl).2] at hc
    exact h.ch c hc
/-- bit in ['0', '1'] -/
theorem bit_in (c : Nat) : inV (.str ⟨#[c]⟩) [.str "0", .str "1"] = (("01" : Str)).cps.contains c := by
  have e0 : ("0" : Str) = ⟨#[48]⟩ := by decide +kernel
  have e1 : ("1" : Str) = ⟨#[49]⟩ := by decide +kernel
  have e2 : (("01" : Str)).cps = #[48, 49] := by decide +kernel
  have eq1 : ∀ d : Nat, eqV (.str ⟨#[d]⟩) (.str ⟨#[c]⟩) = (c == d) := fun d => by
    show ((⟨#[d]⟩ : Str) == ⟨#[c]⟩) = (c == d)
    rw [Bool.eq_iff_iff, beq_iff_eq, beq_iff_eq]
    constructor
    · intro h
      have h2 : ([d] : List Nat) = [c] := congrArg Array.toList (Str.mk.inj h)
      exact (List.cons.inj h2).1.symm
    · rintro rfl
      rfl
  rw [e0, e1, e2]
  show (eqV (.str ⟨#[48]⟩) (.str ⟨#[c]⟩) || (eqV (.str ⟨#[49]⟩) (.str ⟨#[c]⟩) || false)) = _
  rw [eq1, eq1, Bool.eq_iff_iff]
  simp
/-! ### rows -/
theorem bits_sm {x : Str} (h : isBits x = true) : ∀ c ∈ sg x, c < 128 := fun c hc => by
  have h1 := List.all_eq_true.mp h c hc
  have e2 : (("01" : Str)).cps = #[48, 49] := by decide +kernel
  rw [e2] at h1
  simp at h1
  omega
theorem bits_iff {x : Str} : isBits x = true ↔ ∀ c ∈ sg x, c = 48 ∨ c = 49 := by
  have e2 : (("01" : Str)).cps = #[48, 49] := by decide +kernel
  unfold isBits onlyOf
  rw [e2, List.all_eq_true]
  constructor
  · intro h c hc
    have := h c hc
    simp at this
    omega
  · intro h c hc
    have := h c hc
    simp
    omega
theorem bits_app {x y : Str} (h : isBits x = true) (h' : isBits y = true) : isBits (x ++ y) = true := bits_iff.mpr fun c hc => by
  rw [sg_app] at hc
  exact (List.mem_append.mp hc).elim (bits_iff.mp h c) (bits_iff.mp h' c)
theorem bits_sub {x y : Str} (h : isBits x = true) (k : ∀ c ∈ sg y, c ∈ sg x) : isBits y = true := bits_iff.mpr fun c hc => bits_iff.mp h c (k c hc)
theorem sg_cut (x : Str) (lo hi : Option Int) : sg (cutS x lo hi) = ((sg x).drop (HT.sIx x.length 0 lo)).take (HT.sIx x.length x.length hi - HT.sIx x.length 0 lo) := rfl
theorem bits_cut {x : Str} (h : isBits x = true) (lo hi : Option Int) : isBits (cutS x lo hi) = true := bits_sub h fun c hc => by
  rw [sg_cut] at hc
  exact List.mem_of_mem_drop (List.mem_of_mem_take hc)
/-- x[:k] -/
theorem sg_take (x : Str) (k : Nat) : sg (cutS x none (some (k : Int))) = (sg x).take k := by
  rw [sg_cut, HT.sIx_none, HT.sIx_nat, List.drop_zero, Nat.sub_zero, ← sg_len]
  rcases Nat.le_total k (sg x).length with h | h
  · rw [Nat.min_eq_left h]
  · rw [Nat.min_eq_right h, List.take_length, List.take_of_length_le h]
theorem take_len (x : Str) (k : Nat) : (cutS x none (some (k : Int))).length ≤ k := by
  rw [← sg_len, sg_take, List.length_take]
  omega
theorem bits_empty : isBits "" = true := by decide +kernel
theorem flat_str (xs : List Str) : (xs.map V.str).all flatV = true := by
  induction xs with
  | nil => rfl
  | cons x r ih => exact ih
theorem inV_str (x : Str) (xs : List Str) : inV (.str x) (xs.map V.str) = decide (x ∈ xs) := by
  induction xs with
  | nil => rfl
  | cons y r ih =>
    have e : inV (.str x) ((y :: r).map V.str) = ((y == x) || inV (.str x) (r.map V.str)) := rfl
    rw [e, ih, Bool.eq_iff_iff, Bool.or_eq_true, beq_iff_eq, decide_eq_true_iff, decide_eq_true_iff, List.mem_cons]
    exact ⟨fun h => h.imp Eq.symm id, fun h => h.imp Eq.symm id⟩
theorem dpAll_strs {K : PySem.W.Frag} {H : Hp} : ∀ xs : List Str, DpAll K H (xs.map V.str) (xs.map PyData.str)
  | [] => .nil
  | x :: r => .cons (.str x) (dpAll_strs r)
theorem shaped_strs {xs : List Str} (h : ∀ x ∈ xs, isBits x = true) : SeqAt.shaped (.list (xs.map PyData.str)) = true := by
  have h1 : PyData.canLayAll0 (xs.map PyData.str) = true := by
    induction xs with
    | nil => simp only [List.map_nil, PyData.canLayAll0]
    | cons x r ih =>
      rw [List.map_cons]
      simp only [PyData.canLayAll0, PyData.canLay0]
      rw [ih fun y hy => h y (List.mem_cons_of_mem _ hy), Bool.and_true]
      unfold PyData.strOk
      have hx := bits_sm (h x List.mem_cons_self)
      rw [Array.all_eq_true']
      intro c hc
      have := hx c (Array.mem_toList_iff.mpr hc)
      exact decide_eq_true (by omega)
  have h2 : PyData.depthAll (xs.map PyData.str) ≤ 0 := depthAll_le fun d hd => by
    obtain ⟨x, _, rfl⟩ := List.mem_map.mp hd
    simp only [PyData.depth]
    exact Nat.le_refl _
  unfold SeqAt.shaped
  rw [Bool.and_eq_true]
  refine ⟨by simp only [PyData.canLay0]; exact h1, decide_eq_true ?_⟩
  simp only [PyData.depth]
  omega
theorem eqv_nilS (xs : List Str) : PyData.eqv (.list (xs.map PyData.str)) (.list []) = decide (xs = []) := by
  cases xs with
  | nil => rfl
  | cons x r => rfl
/-- the prefixes of a map of this width, each once -/
structure PfxL (w : Nat) (xs : List Str) : Prop where
  nd : xs.Nodup
  bits : ∀ x ∈ xs, isBits x = true
  len : ∀ x ∈ xs, x.length ≤ w
/-- rows: prefixes of this width with values of this kind -/
structure RowsOk (w : Nat) (vok : V → Prop) (xs : List Str) (kvs : List (Key × V)) : Prop where
  keys : kvs.map (·.1) = xs.map Sum.inr
  pfx : PfxL w xs
  val : ∀ kv ∈ kvs, vok kv.2
def isIntV : V → Prop
  | .int _ => True
  | _ => False
def spBits : Sp := fun vs H Q _ => ∃ (p c : Addr) (n z : Nat) (m : List V), vs = [.ref p, .int z] ∧ Pen H p c n m ∧ n + 100 ≤ PB ∧ z ≤ 40 ∧
  ∀ (x : Str) (H' : Hp), But p H H' → Pen H' p c (n + 1 + z) m → isBits x = true → x.length ≤ z → Q (.str x) H'
def spSize : Sp := fun vs H Q _ => ∃ (p c : Addr) (n : Nat) (m : List V), vs = [.ref p] ∧ Pen H p c n m ∧ n + 100 ≤ PB ∧ m.length ≤ 1 ∧
  ∀ (z : Nat) (m' : List V) (H' : Hp), But p H H' → Pen H' p c (n + 1) m' → m'.length ≤ 1 → 1 ≤ z → z ≤ 32 → Q (.int z) H'
def spPrefixes : Sp := fun vs H Q _ => ∃ (p c : Addr) (n z k : Nat) (m : List V), vs = [.ref p, .int z, .int k] ∧ Pen H p c n m ∧ n + 1000 ≤ PB ∧ z ≤ 32 ∧ k ≤ 20 ∧
  ∀ (l : Addr) (xs : List Str) (H' : Hp), But p H H' → Pen H' p c (n + 1 + 8 * k) m → H l = none → H' l = some (.lst (xs.map V.str)) → PfxL z xs → xs.length ≤ k → Q (.ref l) H'
/-! ### types as isinstance reads them -/
def isIntish : V → Bool
  | .int _ => true
  | .bl _ => true
  | _ => false
def isBoolV : V → Bool
  | .bl _ => true
  | _ => false
def isWholeV : V → Bool
  | .int _ => true
  | _ => false
def isWidthV : V → Bool
  | .int z => decide ((1 : Int) ≤ z) && decide (z ≤ 32)
  | _ => false
structure TyI (K : PySem.W.Frag) (H : Hp) (v : V) (t : String) : Prop where
  ty : TyX K H v (.type t)
  int : PySem.W.kitOne K (.type t) (.type "int") = some (isIntish v)
  bool : PySem.W.kitOne K (.type t) (.type "bool") = some (isBoolV v)
theorem kitv {K : PySem.W.Frag} {t c : String} {b : Bool} (h : kitB t c = some b) : PySem.W.kitOne K (.type t) (.type c) = some b := kit_ty h
theorem TyI.of {K : PySem.W.Frag} {H : Hp} {N : Addr → Prop} {v : V} {d : PyData} (h : Dr K H N v d) : ∃ t, TyI K H v t := by
  cases h with
  | non => exact ⟨_, .base .non, kitv (b := false) (by decide +kernel), kitv (b := false) (by decide +kernel)⟩
  | bl b => exact ⟨_, .base (.bl b), kitv (b := true) (by decide +kernel), kitv (b := true) (by decide +kernel)⟩
  | int i => exact ⟨_, .base (.int i), kitv (b := true) (by decide +kernel), kitv (b := false) (by decide +kernel)⟩
  | str x => exact ⟨_, .base (.str x), kitv (b := false) (by decide +kernel), kitv (b := false) (by decide +kernel)⟩
  | lst _ h _ =>
    rcases h with (h | ⟨o, h⟩) | ⟨o, _, _, h, hc, _⟩
    · exact ⟨_, .base (.lst h), kitv (b := false) (by decide +kernel), kitv (b := false) (by decide +kernel)⟩
    · exact ⟨_, .base (.frz h), kitv (b := false) (by decide +kernel), kitv (b := false) (by decide +kernel)⟩
    · exact ⟨_, .kList h hc, kitv (b := false) (by decide +kernel), kitv (b := false) (by decide +kernel)⟩
  | tup _ h _ =>
    rcases h with (h | ⟨o, h⟩) | ⟨o, _, _, h, hc, _⟩
    · exact ⟨_, .base (.tup h), kitv (b := false) (by decide +kernel), kitv (b := false) (by decide +kernel)⟩
    · exact ⟨_, .fTuple h, kitv (b := false) (by decide +kernel), kitv (b := false) (by decide +kernel)⟩
    · exact ⟨_, .kTuple h hc, kitv (b := false) (by decide +kernel), kitv (b := false) (by decide +kernel)⟩
  | dic _ h _ =>
    rcases h with h | ⟨o, h⟩
    · exact ⟨_, .base (.dK h), kitv (b := false) (by decide +kernel), kitv (b := false) (by decide +kernel)⟩
    · exact ⟨_, .fDict h, kitv (b := false) (by decide +kernel), kitv (b := false) (by decide +kernel)⟩
/-! ### locked and as it was -/
theorem upd_back {H : Hp} {d : Addr} {u o : HO} (h : H d = some u) : upd (upd H d o) d u = H := by
  rw [upd_upd]
  funext b
  by_cases hb : b = d
  · rw [hb, upd_same, h]
  · rw [upd_ne hb]
/-- a dict comprehension over any walk -/
theorem dc_it {J : It} {n : Nat} {G : Hp → Prop} {Y : Nat → Hp → V → Hp → Prop} (w : Walk J n G Y) {g : TG} {tt : TT} {tk tv : TE} {vs : List Nat} {σ : L2.St} {H1 : Hp} {D : Addr} {Qd : Hp → Prop} (Pv : Nat → Hp → Prop) (h0 : Pv 0 (upd H1 D (.dK []))) (hG : ∀ i H, i ≤ n → Pv i H → G H)
    (hs : ∀ i x H H', i < n → Pv i H → Y i H x H' → g x (wipe σ vs) H' fun σ2 H2 => wipe σ2 vs = wipe σ vs ∧ tt σ2 H2 fun b H3 =>
      if b = true then tk σ2 H3 fun y H4 => tv σ2 H4 fun z H5 => ∃ kvs k, y = kV k ∧ H5 D = some (.dK kvs) ∧ kvs.length < sizeLine ∧ Pv (i + 1) (upd H5 D (.dK (putK kvs k z))) else Pv (i + 1) H3) (hd : ∀ H, Pv n H → Qd H) :
    ∃ W : Nat → Nat → Hp → Prop, (∃ m, W 0 m (upd H1 D (.dK []))) ∧ ∀ i m H, W i m H → (J.stop i H ∧ Qd H) ∨ (J.go i H ∧ ∃ Nx : Hp → Prop, (∀ H', Nx H' → ∃ m', m' < m ∧ W (i + 1) m' H') ∧
      ∀ x H', J.yld i H x H' → g x (wipe σ vs) H' fun σ2 H2 => wipe σ2 vs = wipe σ vs ∧ tt σ2 H2 fun b H3 =>
        if b = true then tk σ2 H3 fun y H4 => tv σ2 H4 fun z H5 => ∃ kvs k, y = kV k ∧ H5 D = some (.dK kvs) ∧ kvs.length < sizeLine ∧ Nx (upd H5 D (.dK (putK kvs k z))) else Nx H3) := by
  refine ⟨fun i m H => m + i = n ∧ Pv i H, ⟨n, rfl, h0⟩, ?_⟩
  rintro i m H ⟨hm, p⟩
  have q := hG i H (by omega) p
  rcases Nat.lt_or_ge i n with lt | ge
  · exact .inr ⟨w.goes i H lt q, Pv (i + 1), fun H' p' => ⟨m - 1, by omega, by omega, p'⟩, fun x H' y => hs i x H H' lt p (w.yields i H x H' lt q y)⟩
  · obtain rfl : i = n := by omega
    exact .inl ⟨w.stops H q, hd H p⟩
/-! ### prefixes of texts -/
def Pre (y x : Str) : Prop := sg y <+: sg x
instance (y x : Str) : Decidable (Pre y x) := inferInstanceAs (Decidable (sg y <+: sg x))
theorem startswith_iff (x y : Str) : Txt.startswith x y = decide (Pre y x) := by
  have e : Txt.startswith x y = (decide (0 + y.length ≤ x.length) && ((x.cps.extract 0 (0 + y.length)) == y.cps)) := rfl
  rw [e, Bool.eq_iff_iff, Bool.and_eq_true, decide_eq_true_iff, decide_eq_true_iff, beq_iff_eq]
  have e2 : (x.cps.extract 0 (0 + y.length)).toList = (sg x).take y.length := by simp [sg]
  constructor
  · rintro ⟨_, h⟩
    have h2 : (sg x).take y.length = sg y := by rw [← e2, h]
    show sg y <+: sg x
    rw [← h2]
    exact List.take_prefix _ _
  · intro h
    have h1 : sg y = (sg x).take (sg y).length := List.prefix_iff_eq_take.mp h
    have h3 := h.length_le
    rw [sg_len, sg_len] at h3
    refine ⟨by omega, ?_⟩
    apply Array.toList_inj.mp
    rw [e2, ← sg_len y]
    exact h1.symm
theorem pre_take (x : Str) (k : Nat) : Pre (cutS x none (some (k : Int))) x := by
  show sg _ <+: sg x
  rw [sg_take]
  exact List.take_prefix _ _
theorem pre_eq {x y : Str} (h : Pre y x) : y = cutS x none (some (y.length : Int)) := str_ext (by
  show sg y = sg _
  rw [sg_take, ← sg_len]
  exact List.prefix_iff_eq_take.mp h)
theorem pre_len {x y : Str} (h : Pre y x) : y.length ≤ x.length := by
  have := List.IsPrefix.length_le h
  rw [sg_len, sg_len] at this
  exact this
/-- the longest of xs with which x begins -/
def IsLong (xs : List Str) (x : Str) : Option Str → Prop
  | none => ∀ y ∈ xs, ¬ Pre y x
  | some y => y ∈ xs ∧ Pre y x ∧ ∀ z ∈ xs, Pre z x → z.length ≤ y.length
theorem IsLong.uniq {xs ys : List Str} {x : Str} (hm : ∀ y, y ∈ xs ↔ y ∈ ys) : ∀ {r r' : Option Str}, IsLong xs x r → IsLong ys x r' → r = r'
  | none, none, _, _ => rfl
  | none, some y, h, h' => absurd h'.2.1 (h y ((hm y).mpr h'.1))
  | some y, none, h, h' => absurd h.2.1 (h' y ((hm y).mp h.1))
  | some y, some z, h, h' => by
    have h1 := h.2.2 z ((hm z).mpr h'.1) h'.2.1
    have h2 := h'.2.2 y ((hm y).mp h.1) h.2.1
    have e : y.length = z.length := by omega
    rw [pre_eq h.2.1, pre_eq h'.2.1, e]
def optV : Option Str → V
  | none => .non
  | some x => .str x
/-! ### dicts by texts -/
theorem valV_mem {kvs : List (Key × V)} {k : Key} : (valV kvs k).isSome = true ↔ k ∈ kvs.map (·.1) := by
  unfold valV
  rw [Option.isSome_map, List.find?_isSome, List.mem_map]
  constructor
  · rintro ⟨p, hp, e⟩
    exact ⟨p, hp, of_decide_eq_true e⟩
  · rintro ⟨p, hp, e⟩
    exact ⟨p, hp, decide_eq_true e⟩
theorem inr_mem {kvs : List (Key × V)} {xs : List Str} (h : kvs.map (·.1) = xs.map Sum.inr) (y : Str) : (Sum.inr y : Key) ∈ kvs.map (·.1) ↔ y ∈ xs := by
  rw [h, List.mem_map]
  constructor
  · rintro ⟨z, hz, e⟩
    rw [← Sum.inr.inj e]
    exact hz
  · intro hy
    exact ⟨y, hy, rfl⟩
theorem key_at {kvs : List (Key × V)} {xs : List Str} (h : kvs.map (·.1) = xs.map Sum.inr) {i : Nat} {k : Key} {v : V} (e : kvs[i]? = some (k, v)) : ∃ y, xs[i]? = some y ∧ k = .inr y := by
  have h1 : (kvs.map (·.1))[i]? = some k := by rw [List.getElem?_map, e]; rfl
  rw [h, List.getElem?_map] at h1
  cases hx : xs[i]? with
  | none => rw [hx] at h1; cases h1
  | some y =>
    rw [hx] at h1
    exact ⟨y, rfl, (Option.some.inj h1).symm⟩
theorem valV_some {kvs : List (Key × V)} (nd : (kvs.map (·.1)).Nodup) {k : Key} {v : V} (h : (k, v) ∈ kvs) : valV kvs k = some v := by
  induction kvs with
  | nil => cases h
  | cons p r ih =>
    obtain ⟨k', v'⟩ := p
    rw [List.map_cons, List.nodup_cons] at nd
    rcases List.mem_cons.mp h with e | h
    · cases e
      exact valV_pos rfl
    · have hne : k' ≠ k := fun e => nd.1 (by rw [e]; exact List.mem_map.mpr ⟨_, h, rfl⟩)
      have hz := ih nd.2 h
      unfold valV at hz ⊢
      rw [List.find?_cons_of_neg (by simpa using hne)]
      exact hz
/-! ### the lines of a law: a new dict by drawn prefixes -/
theorem SqT.but {K : PySem.W.Frag} {p a : Addr} {H H' : Hp} {o : List V} {xs : List V} (e : But p H H') (hp : H p = some (.lst o)) (h : SqT K H a xs) : SqT K H' a xs := by
  rcases h with (h | ⟨u, h⟩) | h
  · exact .inl (.inl (e _ _ (ne_of h hp (fun z => nomatch z)) h))
  · exact .inl (.inr ⟨u, e _ _ (ne_of h hp (fun z => nomatch z)) h⟩)
  · exact .inr h
theorem SqT.same {K : PySem.W.Frag} {a : Addr} {H H' : Hp} {xs : List V} (e : Same H H') (h : SqT K H a xs) : SqT K H' a xs := by
  rcases h with (h | ⟨u, h⟩) | h
  · exact .inl (.inl (e _ _ h))
  · exact .inl (.inr ⟨u, e _ _ h⟩)
  · exact .inr h
def spLines (vok : V → Prop) (most : Nat) : Sp := fun vs H Q _ => ∃ (p c : Addr) (n z : Nat) (m : List V), vs = [.ref p, .int z] ∧ Pen H p c n m ∧ n + 1000 ≤ PB ∧ z ≤ 32 ∧
  ∀ (d : Addr) (xs : List Str) (kvs : List (Key × V)) (H' : Hp), But p H H' → H d = none → H' d = some (.dK kvs) → RowsOk z vok xs kvs → xs.length ≤ most → Pen H' p c (n + 200) m → Q (.ref d) H'
theorem Pen.lst {H : Hp} {p c : Addr} {n : Nat} {m : List V} (h : Pen H p c n m) : ∃ o, H p = some (.lst o) := by
  obtain ⟨ns, i, s, h⟩ := h
  exact ⟨_, h.at_⟩
/-- the loop of such a dict: pairs of a prefix and a value that is drawn -/
structure PairsAt (K : PySem.W.Frag) (H : Hp) (D : Addr) (vok : V → Prop) (xs : List Str) (ps : List Addr) (kvs : List (Key × V)) : Prop where
  at_ : H D = some (.lst (ps.map V.ref))
  prs : Paired (fun a kv => SqT K H a [kV kv.1, kv.2]) ps kvs
  keys : kvs.map (·.1) = xs.map Sum.inr
  val : ∀ kv ∈ kvs, vok kv.2
theorem PairsAt.but {K : PySem.W.Frag} {H H' : Hp} {D p : Addr} {vok : V → Prop} {xs : List Str} {ps : List Addr} {kvs : List (Key × V)} {o : List V} (h : PairsAt K H D vok xs ps kvs) (e : But p H H') (hp : H p = some (.lst o)) (hD : D ≠ p) : PairsAt K H' D vok xs ps kvs :=
  ⟨e _ _ hD h.at_, h.prs.mono fun _ _ t => SqT.but e hp t, h.keys, h.val⟩
theorem PairsAt.same {K : PySem.W.Frag} {H H' : Hp} {D : Addr} {vok : V → Prop} {xs : List Str} {ps : List Addr} {kvs : List (Key × V)} (h : PairsAt K H D vok xs ps kvs) (e : Same H H') : PairsAt K H' D vok xs ps kvs :=
  ⟨e _ _ h.at_, h.prs.mono fun _ _ t => SqT.same e t, h.keys, h.val⟩
theorem PairsAt.snoc {K : PySem.W.Frag} {H : Hp} {D : Addr} {vok : V → Prop} {xs : List Str} {ps : List Addr} {kvs : List (Key × V)} (h : PairsAt K H D vok xs ps kvs) {y : Str} {v : V} (hv : vok v) {t : Addr} (ht : H t = none) :
    PairsAt K (upd (upd H t (.tup [.str y, v])) D (.lst (ps.map V.ref ++ [.ref t]))) D vok (xs ++ [y]) (ps ++ [t]) (kvs ++ [(.inr y, v)]) := by
  have nt : t ≠ D := fun e => by
    rw [e, h.at_] at ht
    cases ht
  refine ⟨by rw [upd_same, List.map_append]; rfl, Paired.snoc (h.prs.mono fun a kv q => ?_) (.inl (.inl (by rw [upd_ne nt, upd_same]; rfl))), by rw [List.map_append, List.map_append, h.keys]; rfl, fun kv hk => ?_⟩
  · refine SqT.but (p := D) (H := upd H t (.tup [.str y, v])) .upd (by rw [upd_ne nt.symm]; exact h.at_) (SqT.same (same_upd ht) q)
  · rcases List.mem_append.mp hk with hk | hk
    · exact h.val kv hk
    · rw [List.mem_singleton.mp hk]
      exact hv
theorem pair_merge {K : PySem.W.Frag} {H : Hp} {D : Addr} {vok : V → Prop} {xs : List Str} {ps : List Addr} {kvs : List (Key × V)} (h : PairsAt K H D vok xs ps kvs) (nd : xs.Nodup) : mergeK [] kvs = kvs := by
  have e : (([] ++ kvs : List (Key × V)).map (·.1)).Nodup := by
    rw [List.nil_append, h.keys]
    exact nd.map Sum.inr (fun a b h e => h (Sum.inr.inj e))
  rw [mergeK_nd kvs [] e, List.nil_append]
/-- such a list made one longer: what stood else is as it was -/
theorem pairs_old {H H1 H3 : Hp} {D t p : Addr} {o1 o2 : HO} (hD : H D = none) (b1 : But p H H1) (b3 : But p H1 H3) (ht : H3 t = none) : But p H (upd (upd H3 t o1) D o2) := fun a o na ha => by
  have h1 := b3 a o na (b1 a o na ha)
  rw [upd_ne (ne_of_none ha hD), upd_ne (ne_of_none h1 ht)]
  exact h1
/-! ### lists of spots -/
theorem sg_mul (c n : Nat) : sg (Txt.mul ⟨#[c]⟩ (n : Int)) = List.replicate n c := by
  unfold Txt.mul
  by_cases h0 : (n : Int) < 1
  · rw [if_pos h0]
    have : n = 0 := by omega
    subst this
    rfl
  · rw [if_neg h0]
    by_cases h1 : n = 1
    · subst h1
      rfl
    · have e : (((n : Int) == 1) || ((⟨#[c]⟩ : Str).length == 0)) = false := by
        rw [show ((n : Int) == 1) = false from beq_eq_false_iff_ne.mpr (by omega)]
        rfl
      rw [e, if_neg Bool.false_ne_true]
      show ((List.replicate ((n : Int)).toNat (#[c] : Array Nat)).foldl (· ++ ·) #[]).toList = _
      rw [foldl_app, Int.toNat_natCast, List.map_replicate]
      show [] ++ (List.replicate n [c]).flatten = _
      rw [List.nil_append]
      induction n with
      | zero => rfl
      | succ k ih => 
        clear ih h0 h1 e
        induction k with
        | zero => rfl
        | succ j ih => rw [List.replicate_succ, List.flatten_cons, ih]; rfl
theorem zero_is : ("0" : Str) = ⟨#[48]⟩ := by decide +kernel
theorem one_is : ("1" : Str) = ⟨#[49]⟩ := by decide +kernel
theorem mul_ok1 {x : Str} {n : Nat} (hx : x.length ≤ 1) (hn : n ≤ 1000) : MulOk x (n : Int) := mulOk_of 1 1000 hx (by omega) (by omega) (by decide) (by decide)
theorem zeros_bits (n : Nat) : isBits (Txt.mul "0" (n : Int)) = true ∧ (Txt.mul "0" (n : Int)).length = n := by
  rw [zero_is]
  refine ⟨bits_iff.mpr fun c hc => ?_, ?_⟩
  · rw [sg_mul] at hc
    exact .inl (List.mem_replicate.mp hc).2
  · rw [← sg_len, sg_mul, List.length_replicate]
theorem ones_bits (n : Nat) : isBits (Txt.mul "1" (n : Int)) = true ∧ (Txt.mul "1" (n : Int)).length = n := by
  rw [one_is]
  refine ⟨bits_iff.mpr fun c hc => ?_, ?_⟩
  · rw [sg_mul] at hc
    exact .inr (List.mem_replicate.mp hc).2
  · rw [← sg_len, sg_mul, List.length_replicate]
/-- texts of bits, none longer than z -/
def AllS (z : Nat) (vs : List V) : Prop := ∀ v ∈ vs, ∃ x, v = .str x ∧ isBits x = true ∧ x.length ≤ z
theorem AllS.nil {z : Nat} : AllS z [] := fun _ h => absurd h List.not_mem_nil
theorem AllS.app {z : Nat} {vs us : List V} (h : AllS z vs) (h' : AllS z us) : AllS z (vs ++ us) := fun v hv => (List.mem_append.mp hv).elim (h v) (h' v)
theorem AllS.one {z : Nat} {x : Str} (h1 : isBits x = true) (h2 : x.length ≤ z) : AllS z [.str x] := fun v hv => ⟨x, List.mem_singleton.mp hv, h1, h2⟩
theorem AllS.rev {z : Nat} {vs : List V} (h : AllS z vs) : AllS z vs.reverse := fun v hv => h v (List.mem_reverse.mp hv)
theorem AllS.strs {z : Nat} {xs : List Str} (h : PfxL z xs) : AllS z (xs.map V.str) := fun v hv => by
  obtain ⟨x, hx, rfl⟩ := List.mem_map.mp hv
  exact ⟨x, rfl, h.bits x hx, h.len x hx⟩
theorem big_of {n : Nat} (h : n ≤ 1000) : n ≤ sizeLine := Nat.le_trans h (by decide)
theorem big_lt {n : Nat} (h : n ≤ 1000) : n < sizeLine := Nat.lt_of_le_of_lt h (by decide)
/-! ### rows whatever their order and however often they come -/
structure RowsAcc (w : Nat) (vok : V → Prop) (kvs : List (Key × V)) : Prop where
  nd : (kvs.map (·.1)).Nodup
  all : ∀ kv ∈ kvs, ∃ y, kv.1 = .inr y ∧ isBits y = true ∧ y.length ≤ w ∧ vok kv.2
theorem RowsAcc.put {w : Nat} {vok : V → Prop} {kvs : List (Key × V)} (h : RowsAcc w vok kvs) {y : Str} {v : V} (h1 : isBits y = true) (h2 : y.length ≤ w) (h3 : vok v) : RowsAcc w vok (putK kvs (.inr y) v) := by
  by_cases hm : (Sum.inr y : Key) ∈ kvs.map (·.1)
  · have e : putK kvs (.inr y) v = kvs.map (fun kv => if kv.1 = .inr y then (kv.1, v) else kv) := by
      unfold putK
      rw [if_pos]
      obtain ⟨p, hp, e⟩ := List.mem_map.mp hm
      exact List.any_eq_true.mpr ⟨p, hp, decide_eq_true e⟩
    rw [e]
    constructor
    · rw [List.map_map]
      have e2 : (Prod.fst ∘ fun kv : Key × V => if kv.1 = .inr y then (kv.1, v) else kv) = Prod.fst := by
        funext kv
        show (if kv.1 = .inr y then (kv.1, v) else kv).1 = kv.1
        split <;> rfl
      rw [e2]
      exact h.nd
    · intro kv hkv
      obtain ⟨p, hp, rfl⟩ := List.mem_map.mp hkv
      by_cases hy : p.1 = .inr y
      · rw [if_pos hy]
        exact ⟨y, hy, h1, h2, h3⟩
      · rw [if_neg hy]
        exact h.all p hp
  · rw [putK_end hm]
    constructor
    · rw [List.map_append, List.nodup_append]
      refine ⟨h.nd, List.nodup_cons.mpr ⟨List.not_mem_nil, List.nodup_nil⟩, fun a ha b hb e => hm ?_⟩
      have e2 : b = .inr y := List.mem_singleton.mp hb
      rw [← e2, ← e]
      exact ha
    · intro kv hkv
      rcases List.mem_append.mp hkv with hkv | hkv
      · exact h.all kv hkv
      · rw [List.mem_singleton.mp hkv]
        exact ⟨y, rfl, h1, h2, h3⟩
theorem RowsAcc.merge {w : Nat} {vok : V → Prop} : ∀ {more kvs : List (Key × V)}, RowsAcc w vok kvs → (∀ kv ∈ more, ∃ y, kv.1 = .inr y ∧ isBits y = true ∧ y.length ≤ w ∧ vok kv.2) → RowsAcc w vok (mergeK kvs more)
  | [], _, h, _ => h
  | (k, v) :: r, kvs, h, hm => by
    obtain ⟨y, e, h1, h2, h3⟩ := hm (k, v) List.mem_cons_self
    have e' : k = .inr y := e
    subst e'
    show RowsAcc w vok (mergeK (putK kvs (.inr y) v) r)
    exact RowsAcc.merge (h.put h1 h2 h3) fun kv hk => hm kv (List.mem_cons_of_mem _ hk)
theorem RowsAcc.ok {w : Nat} {vok : V → Prop} {kvs : List (Key × V)} (h : RowsAcc w vok kvs) : ∃ xs, RowsOk w vok xs kvs ∧ xs.length = kvs.length := by
  have key : ∀ l : List (Key × V), (∀ kv ∈ l, ∃ y, kv.1 = .inr y ∧ isBits y = true ∧ y.length ≤ w ∧ vok kv.2) → ∃ xs : List Str, l.map (·.1) = xs.map Sum.inr ∧ (∀ x ∈ xs, isBits x = true ∧ x.length ≤ w) := by
    intro l
    induction l with
    | nil => exact fun _ => ⟨[], rfl, fun _ h => absurd h List.not_mem_nil⟩
    | cons p r ih =>
      intro hl
      obtain ⟨xs, e, hx⟩ := ih fun kv hk => hl kv (List.mem_cons_of_mem _ hk)
      obtain ⟨y, ey, h1, h2, _⟩ := hl p List.mem_cons_self
      refine ⟨y :: xs, by rw [List.map_cons, List.map_cons, e, ey], fun x hx' => ?_⟩
      rcases List.mem_cons.mp hx' with rfl | hx'
      · exact ⟨h1, h2⟩
      · exact hx x hx'
  obtain ⟨xs, e, hx⟩ := key kvs h.all
  refine ⟨xs, ⟨e, ⟨?_, fun x hx' => (hx x hx').1, fun x hx' => (hx x hx').2⟩, fun kv hk => by obtain ⟨_, _, _, _, h⟩ := h.all kv hk; exact h⟩, ?_⟩
  · have hn := h.nd
    rw [e] at hn
    exact List.Pairwise.of_map Sum.inr (fun a b h e => h (by rw [e])) hn
  · have := congrArg List.length e
    rw [List.length_map, List.length_map] at this
    exact this.symm
/-! ### super().__init__(a, ..) -/
/-- an __init__ that calls its base's: its def at f, the cell of its class at cc -/
structure FunS (K : PySem.W.Frag) (file : Str) (x qual : Str) (st : Stmt) (f D : Addr) (fd : FuncData) : Prop where
  ex : ∃ (oc : Value) (od : Option Addr) (kV doc pm : Value) (an : Option Addr) (cda cc : Addr) (ct : Value) (osl : Array (Option Value)) (ck : Value) (cd : Option Addr) (vs : Array Value) (cs : Array (Option Value)) (tf : Tok) (lk : Value) (ld : Option Addr) (ls : Array (Option Value)),
    fd = PySem.W.ksFn x qual (defArgs st) (defBody st) (defScope st) .none kV doc pm an (.ref cda) ct cc ∧ K.lookup f = some ⟨oc, od, .func fd, osl⟩ ∧ PySem.W.codeIn K (.ref cda) qual = true ∧
    K.lookup cda = some ⟨ck, cd, .fields vs, cs⟩ ∧ vs[2]? = some (.str file tf) ∧ K.lookup cc = some ⟨lk, ld, .cell (some (.ref D)), ls⟩
  kp : PySem.W.keepIn K (.ref f) = true
/-- the scope of such a def: its parameters alone, and the cell -/
structure ScS (ps : List Str) (sc : Scope) : Prop where
  kind : sc.kind = .function
  co : sc.isCoroutine = false
  gen : sc.isGenerator = false
  nd : ps.Nodup
  par : ∀ x ∈ ps, sc.names.lookup x = some .local
  nocell : ∀ y ∈ sc.names, y.2 ≠ .cell
  free : ∀ y ∈ sc.names, y.2 = .free → y.1 = "__class__"
  sup : sc.names.lookup ("super" : Str) = some .globalImplicit
  cls : sc.names.lookup ("__class__" : Str) = some .free
theorem rev_get {x : Str} {v : Value} : ∀ {P : List Str} {vs : List Value} {i : Nat}, P.Nodup → P[i]? = some x → vs[i]? = some v → (P.zip vs).reverse.lookup x = some v
  | [], _, _, _, h, _ => by simp at h
  | _ :: _, [], _, _, _, h => by simp at h
  | p :: P, w :: vs, 0, nd, h1, h2 => by
    obtain rfl : p = x := by simpa using h1
    obtain rfl : w = v := by simpa using h2
    have out : (P.zip vs).reverse.lookup p = none := by
      rw [List.lookup_eq_none_iff]
      intro q hq
      have hq' := List.mem_reverse.mp hq
      have : q.1 ∈ P := (List.of_mem_zip (a := q.1) (b := q.2) hq').1
      have ne : p ≠ q.1 := by rintro e; exact (List.nodup_cons.mp nd).1 (e ▸ this)
      simpa using ne
    show ((p, w) :: P.zip vs).reverse.lookup p = _
    rw [List.reverse_cons, List.lookup_append, out]
    simp
  | p :: P, w :: vs, i + 1, nd, h1, h2 => by
    have := rev_get (i := i) (List.nodup_cons.mp nd).2 (by simpa using h1) (by simpa using h2)
    show ((p, w) :: P.zip vs).reverse.lookup x = _
    rw [List.reverse_cons, List.lookup_append, this]
    rfl
/-- the context of its body -/
def cxS (P : Program) (w : World) (K : PySem.W.Frag) (mg : Str → Option Value) (base : Heap) (N : List Str) (qual : Str) (scope : Scope) (f : Addr) (cd : Value) (cc : Addr) (A : Around) (outer : List Env) (s : Shared) (H : Hp) : Cx where
  prog := P
  w := w
  K := K
  mg := mg
  base := base
  A := A.deeper (PySem.W.ksEnv qual scope s.heap.objs.size f cd cc)
  N := N
  s_0 := s
  H_0 := H
  env := PySem.W.ksEnv qual scope s.heap.objs.size f cd cc
  outer := outer
  stack := PySem.W.ksEnv qual scope s.heap.objs.size f cd cc :: outer
  ex := []
  calm := true
  fn := fun _ => false
  pn := []
  xe := fun _ _ => False
section
variable {P : Program} {w : World} {K : PySem.W.Frag} {mg : Str → Option Value} {base : Heap}
theorem inv_super {ps : List Str} {qual : Str} {scope : Scope} {f cc : Addr} {cd : Value} {A : Around} {outer : List Env} {s : Shared} {h1 : Heap} {tk : Nat} {H : Hp} {us : List Value} {vs : List V} {D : Addr} {lk : Value} {ld : Option Addr} {ls : Array (Option Value)}
    (S : ScS ps scope) (hd : A.handled = none) (e0 : Env0 P w K mg base A outer s H) (hl : vs.length = ps.length) (r : Vals vs us) (hcc : K.lookup cc = some ⟨lk, ld, .cell (some (.ref D)), ls⟩)
    (ns : h1.Ns s.heap.objs.size (fun y => (ps.zip us).reverse.lookup y)) (hk : ∀ b o, s.heap.get? b = some o → h1.get? b = some o) :
    Inv (cxS P w K mg base ps qual scope f cd cc A outer s H) [] (vs.map some) H { s with heap := h1, toks := tk } := by
  have KX : K.In s.heap := e0.mod.kin.keeps fun b o e => (e0.bs b o e).1
  have one : ∀ {x : Str} {c : Addr}, ([("__class__", cc)] : List (Str × Addr)).lookup x = some c → x = "__class__" ∧ c = cc := by
    intro x c h
    simp only [List.lookup] at h
    split at h
    · rename_i q
      exact ⟨by simpa using q, by cases h; rfl⟩
    · cases h
  have hcb : base.get? cc = some ⟨lk, ld, .cell (some (.ref D)), ls⟩ := e0.mod.kin _ _ hcc
  have noA : ∀ b : Addr, b ∉ (cxS P w K mg base ps qual scope f cd cc A outer s H).ex := fun b z => absurd (show b ∈ ([] : List Addr) from z) (by simp)
  refine ⟨⟨e0.mod, S.kind, rfl, rfl, Nat.le_refl _, fun y z c h1 h2 => (one h1).1.trans (one h2).1.symm, fun y hy => ?_, fun y c q _ => absurd (show false = true from q) (by decide), fun _ => hd, Around.frames_deeper e0.frames, .inr ⟨rfl, rfl⟩, fun b z => absurd z (noA b), e0.bs, e0.bsz, fun b _ _ => noA b, fun b z => absurd z (noA b), e0.funs, e0.frf⟩,
    rfl, e0.bare, Un.kept hk, ⟨_, ns, fun i y v g1 g2 g3 => ?_⟩, fun y c h => ?_, e0.hok.fresh (Nat.le_refl _), fun y c h => ?_, fun p hp => absurd (show p ∈ ([] : List (Addr × Obj)) from hp) (by simp), e0.hok.kept hk, ?_⟩
  · have hy : scope.names.lookup y = some .cell ∨ scope.names.lookup y = some .free := hy
    rcases hy with hy | hy
    · exact absurd rfl (S.nocell _ (PySem.mem_of_lookup hy))
    · obtain rfl := S.free _ (PySem.mem_of_lookup hy) rfl
      exact ⟨cc, rfl⟩
  · have g2' : (vs.map some)[i]? = some (some v) := g2
    rw [List.getElem?_map] at g2'
    obtain ⟨v', ha, e⟩ := Option.map_eq_some_iff.mp g2'
    obtain rfl : v' = v := Option.some.inj e
    obtain ⟨u, hu, rv⟩ := r.get ha
    exact ⟨u, rv, .inl ⟨S.par y (List.mem_of_getElem? g1), rev_get S.nd g1 hu⟩⟩
  · obtain ⟨rfl, rfl⟩ := one h
    exact ⟨_, _, hk _ _ (KX _ _ hcc), rfl⟩
  · obtain ⟨rfl, rfl⟩ := one h
    exact (e0.bs _ _ hcb).2
  · show (vs.map some).length = ps.length
    rw [List.length_map, hl]
/-- the first statement super().__init__(a, ..), then the rest -/
theorem ok_super {x qual : Str} {st : Stmt} {f f2 C D : Addr} {fd : FuncData} {ps : List Str} {k : Nat} {file self : Str} {sp sp2 : Sp} {rest : List Stmt} {e : Expr} {es : List Expr} {p0 p1 ap pos sps : Pos} {m : Str}
    (F : FunS K file x qual st f D fd) (S : ScS ps (defScope st)) (G2 : FnR P w K mg base CX0 k f2 sp2) (fi : PySem.W.fnIn K f2 = true) (ty : PySem.W.typeIn K (.ref f2) = some (.type "function"))
    (hcd : ∃ cdD, PySem.W.clsIn K D = some cdD) (hsub : PySem.W.mroIn K C (.ref D) = some true) (hm : PySem.W.ks_superIn K C D m = some (some (.ref f2))) (hop : PySem.W.nsIn K cStatics "thirdparty.any" = some none) (hsu : mg "super" = none)
    (hfile : ((P.main.file : Str) == file) = true) (htop : (P.main.scope.names.lookup ("super" : Str)).isSome = false)
    (hb : defBody st = .Expr (.Call (.Attribute (.Call (.Name "super" p0) [] [] p1) m ap) (e :: es) [] pos) sps :: rest) (hself : ∃ ar, ((defArgs st).posonlyargs ++ (defArgs st).args).head? = some ar ∧ ar.arg = self) (h0 : ps[0]? = some self)
    (hn : (m == ("__class__" : Str)) = false)
    (hev : ∀ env, ∃ pl, eval (.Call (.Attribute (.Call (.Name "super" p0) [] [] p1) m ap) (e :: es) [] pos) env = (do
      let ov ← attributeBase (.Call (.Name "super" p0) [] [] p1) m env (eval (.Call (.Name "super" p0) [] [] p1) env)
      standAt ap.atName
      let (g, first) ← holding [ov] (getMethod ov m pl)
      callWith pos g first (backTo pos (starEach (e :: es) env)) []))
    (hsw : ∀ env, swapsWith (.Call (.Attribute (.Call (.Name "super" p0) [] [] p1) m ap) (e :: es) [] pos) none sps.line env = pure false)
    (hst : ∀ env, starEach (e :: es) env = (false, eval e env) :: starEach es env) (hpl : ∀ env, (backTo pos (starEach es env)).any (·.1) = false)
    (many : ∀ vs H Q E, sp vs H Q E → vs.length = ps.length) (hE : ∀ {vs H Q E}, sp vs H Q E → sp vs H Q E0)
    (want : ∀ (A : Around) (cda cc : Addr) (outer : List Env) (s : Shared) (H : Hp) (vs : List V) (Q : VK), Room (k + 1) A → sp vs H Q E0 → ∃ (x dx : Addr) (fs : List (Str × V)) (t : TA) (u : TS), vs[0]? = some (.ref x) ∧ H x = some (.ins C dx fs) ∧ PA (cxS P w K mg base ps qual (defScope st) f (.ref cda) cc A outer s H) (e :: es) t ∧
      PSs (cxS P w K mg base ps qual (defScope st) f (.ref cda) cc A outer s H) rest u ∧ t (vs.map some) H (fun ws H1 => sp2 (.ref x :: ws) H1 (fun _ H2 => u { nx := fun _ H' => Q .non H', rt := Q } (vs.map some) H2) E0)) :
    FnOk P w K mg base CX0 (k + 1) f fd ps sp := by
  refine ⟨many, fun A outer s H args us vs Q E hr e0 bind rel hsp => ?_⟩
  obtain ⟨oc, od, kV, doc, pm, an, cda, cc, ct, osl, ck, cdd, cvs, ccs, tf, lk, ld, ls, rfl, lf, hcode, lcda, hvs, lcc⟩ := F.ex
  have old : ∀ b o, base.get? b = some o → s.heap.get? b = some o := fun b o e => (e0.bs b o e).1
  have KX : K.In s.heap := e0.mod.kin.keeps old
  have lim : s.heap.NoLimit := e0.mod.nolimit.keeps old
  refine ks_codeAny_call_defAt (body := defBody st) (binds := ps.zip us) hr.depth (KX _ _ lf) rfl lim (PySem.W.codeRec_of KX hcode) rfl bind S.nocell (fun y hy => S.par _ (List.of_mem_zip (a := y.1) (b := y.2) hy).1) (fun h1 ns hk => ?_) S.co S.gen S.kind
  have I := inv_super (qual := qual) (f := f) (cd := .ref cda) (tk := s.toks + (ps.zip us).length) S hr.hd e0 (many _ _ _ _ hsp) rel lcc ns hk
  obtain ⟨x, dx, fs, t, u, hx0, hx, pa, pr, q⟩ := want A cda cc outer s H vs Q hr (hE hsp)
  obtain ⟨mA, O, _⟩ := ins_get I.hok hx
  obtain ⟨od', J, _⟩ := O.look
  obtain ⟨cdD, hcD⟩ := hcd
  have KX1 := I.kIn
  obtain ⟨oD, hD1, hD2⟩ : ∃ oD, h1.get? D = some oD ∧ oD.data = .cls cdD := by
    have hcD' := hcD
    unfold PySem.W.clsIn at hcD'
    split at hcD'
    · rename_i ho
      cases hcD'
      exact ⟨_, KX1 _ _ ho, rfl⟩
    · cases hcD'
  obtain ⟨mb, hb1, hb2⟩ := I.mod.blt
  obtain ⟨ar, har, ear⟩ := hself
  obtain ⟨ux, hux, rux⟩ := rel.get hx0
  obtain rfl : ux = Value.ref x := rux
  have hC : ∃ cdC, PySem.W.clsIn K C = some cdC := by
    cases z : PySem.W.clsIn K C with
    | some c => exact ⟨c, rfl⟩
    | none =>
      unfold PySem.W.ks_superIn at hm
      rw [z] at hm
      cases hm
  obtain ⟨cdC, hcC⟩ := hC
  have hm' : PySem.W.alongIn K m ((cdC.mro.dropWhile (· != .ref D)).drop 1) = some (some (.ref f2)) := by
    unfold PySem.W.ks_superIn at hm
    rw [hcC] at hm
    exact hm
  have key : PySem.wpAt (model P w) (cxS P w K mg base ps qual (defScope st) f (.ref cda) cc A outer s H).A (.func (defBody st) (cxS P w K mg base ps qual (defScope st) f (.ref cda) cc A outer s H).env) (execs (defBody st) (cxS P w K mg base ps qual (defScope st) f (.ref cda) cc A outer s H).env)
      (SP (cxS P w K mg base ps qual (defScope st) f (.ref cda) cc A outer s H) [] { nx := fun _ H' => Q .non H', rt := Q }) (fun _ _ => False) { s with heap := h1, toks := s.toks + (ps.zip us).length } := by
    have e1 := congrArg (fun b => execs b (cxS P w K mg base ps qual (defScope st) f (.ref cda) cc A outer s H).env) hb
    rw [show execs (defBody st) (cxS P w K mg base ps qual (defScope st) f (.ref cda) cc A outer s H).env = _ from e1]
    obtain ⟨pl, epl⟩ := hev (cxS P w K mg base ps qual (defScope st) f (.ref cda) cc A outer s H).env
    refine ks_wpAt_execs_cons (ks_wpAt_Expr_any (ks_wpAt_MethodCall ?_ epl) (by show ((defScope st).kind == .module && _) = false; rw [S.kind]; rfl) (hsw _))
    refine ks_wpAt_super_base S.sup S.cls hn rfl (KX1 _ _ lf) rfl har rfl (KX1 _ _ lcda) rfl hvs hfile htop ?_
    refine PySem.W.ks_loadName_global S.kind S.sup (PySem.Calls.loadGlobal_builtin (I.mod.glob.keeps I.bk) hsu (hb1.keeps I.bk) ((hb2 _ (by decide)).trans (by rfl)) ⟨rfl, ?_⟩)
    refine wpAny_loadName_free S.kind S.cls rfl ⟨_, KX1 _ _ lcc, rfl⟩ ?_
    refine wpAny_loadName_local S.kind (by rw [ear]; exact S.par self (List.mem_of_getElem? h0)) ns (by rw [ear]; exact rev_get S.nd h0 hux) ?_
    refine ks_wpAny_isType_cls hD1 hD2 ⟨rfl, ?_⟩
    refine ks_wpAny_call_super hD1 hD2 J.at_ J.cls (fun c e => ?_) (PySem.W.looks_mroIn KX1 hsub) (fun h' e ke => ?_)
    · have z := J.no
      unfold PySem.W.notCls at z
      rw [e] at z
      cases z
    have I1 := ClX.pin_new (t' := s.toks + (ps.zip us).length) I ke (Nat.le_refl _) e (fun v z => nomatch z)
    obtain ⟨of2, hof2, hof2c⟩ : ∃ of, h'.get? f2 = some of ∧ of.cls = .type "function" := by
      have ty' : (K.lookup f2).map (·.cls) = some (.type "function") := ty
      obtain ⟨of, z1, z2⟩ := Option.map_eq_some_iff.mp ty'
      exact ⟨of, I1.kIn _ _ z1, z2⟩
    refine ks_wpAny_getMethod_super e (PySem.W.looks_opaque I1.kIn hop) (l₀ := cdC.mro) (fun A Q E s k q => wpAny_bind ((PySem.W.looks_clsIn I1.kIn hcC) A _ E s k (wpAny_pure q))) rfl I1.kIn hm' hof2 hof2c (PySem.W.ks_ne KX1 J hcC) hn ?_
    have I2 := ClX.met_new (g := f2) (C := x) I1
    refine ClX.callwith_cm I2 (ClX.base_none I1 (Nat.le_refl _)) fi (thn (pa.run pos _ _ _ H _ I2 q) fun ws s3 ⟨zs, H2, I3, rv, q2⟩ => ⟨⟨ClX.pin_at I3, I3.kIn⟩, ?_⟩) (hst _) (hpl _)
    refine thn (ClX.run_cm G2 (hr.deeper _) pass0 I3 rv q2) fun r s4 ⟨v4, H4, I4, _, q4⟩ => ?_
    exact PySem.wpAt_of_wpAny (pr.run [] _ _ H4 _ (ClX.unpin I4) q4)
  refine ks_wpAt_mono key (fun fl s' hs => ?_) fun _ _ z => False.elim z
  cases fl with
  | ret v =>
    obtain ⟨v', σ', H', J, rv, q⟩ := hs
    exact ⟨v', H', J.os, J.bare, J.base, J.hok, rv, q⟩
  | next =>
    obtain ⟨σ', H', J, q⟩ := hs
    exact ⟨V.non, H', J.os, J.bare, J.base, J.hok, rfl, q⟩
  | brk =>
    obtain ⟨_, _, _, q⟩ := hs
    exact q.elim
  | cont =>
    obtain ⟨_, _, _, q⟩ := hs
    exact q.elim
end
/-! ### sets of texts -/
/-- the text that an entry of a set's table holds -/
def txV : Value → Str
  | .str k _ => k
  | _ => Str.empty
def txOf (e : Int × Value) : Str := txV e.2
/-- an entry is a text with its own hash -/
def TxE (w : World) (e : Int × Value) : Prop := ∃ k u, e.2 = Value.str k u ∧ e.1 = hashStr w k
/-- the table of a set whose members are ks -/
structure TxT (w : World) (es : Array (Int × Value)) (t : SetTable) (ks : List Str) : Prop where
  ent : ∀ e ∈ es.toList, TxE w e
  mem : (es.toList.map txOf).Perm ks
  nd : ks.Nodup
  few : es.size < scanBound
  fit : t.fits es.size = true
  ris : Ris t.place.toList
  led : w.params.followText "set-order" = true ∨ t.led = true
/-- at a the set of the texts ks -/
def TxS (w : World) (h : Heap) (a : Addr) (ks : List Str) : Prop := ∃ (o : Obj) (es : Array (Int × Value)) (ep : Nat) (t : SetTable), h.get? a = some o ∧ o.ExactSet ∧ o.data = .set es ep t ∧ TxT w es t ks
theorem TxS.keep {w : World} {h h' : Heap} {a : Addr} {ks : List Str} (R : TxS w h a ks) (k : ∀ o, h.get? a = some o → h'.get? a = some o) : TxS w h' a ks :=
  let ⟨o, es, ep, t, ho, r⟩ := R
  ⟨o, es, ep, t, k o ho, r⟩
theorem tx_is {P : Program} {w : World} {e : Int × Value} (g : TxE w e) (k : Str) : (PySem.strKind P w).is k e.2 = true ↔ txOf e = k := by
  obtain ⟨k0, u, h1, _⟩ := g
  have z : txOf e = k0 := by unfold txOf; rw [h1]; rfl
  rw [z, h1]
  constructor
  · intro q
    exact (PySem.strKind P w).inj _ _ _ (strKind_is P w k0 u) q
  · rintro rfl
    exact strKind_is P w _ u
section
variable {P : Program} {w : World} {A : Around} {E : Value → Shared → Prop} {s : Shared} {a : Addr}
theorem TxT.elems {es : Array (Int × Value)} {t : SetTable} {ks : List Str} (T : TxT w es t ks) : ElemsOf (PySem.strKind P w) es.toList := fun e he => by
  obtain ⟨k, u, h1, h2⟩ := T.ent e he
  exact ⟨⟨k, by rw [h1]; exact strKind_is P w k u, h2⟩, by rw [h1]; rfl⟩
theorem TxT.relaid {es es' : Array (Int × Value)} {t t' : SetTable} {ks : List Str} (T : TxT w es t ks) (p : es'.toList.Perm es.toList) (hf : t'.fits es'.size = true) (hr : Ris t'.place.toList) (hl : t'.led = t.led) : TxT w es' t' ks := by
  have n : es'.size = es.size := by
    rw [← Array.length_toList, ← Array.length_toList]
    exact p.length_eq
  exact ⟨fun e he => T.ent e (p.mem_iff.mp he), (p.map txOf).trans T.mem, T.nd, n ▸ T.few, hf, hr, by rw [hl]; exact T.led⟩
theorem tx_store {h : Heap} {o : Obj} {es es' : Array (Int × Value)} {ep : Nat} {t t' : SetTable} (ho : h.get? a = some o) (hd : o.data = .set es ep t) : (h.update a (Obj.putSet es' t')).get? a = some { o with data := .set es' (ep + 1) t' } :=
  L2.store_at ho hd
theorem tx_tail {g : Bool → Sem Unit} (free : ∀ (b : Bool) (r : Shared) (Z : Unit → Shared → Prop), Z () r → wpAny (model P w) A (g b) Z E r) {o : Obj} {es es1 : Array (Int × Value)} {ep : Nat} {t t2 : SetTable} {ks : List Str} (ho : s.heap.get? a = some o) (hx : o.ExactSet)
    (hd : o.data = .set es ep t) (T : TxT w es1 t2 ks) {wd : Bool} {Z : Option Bool → Shared → Prop} (hZ : ∀ h', Heap.SameBut a s.heap h' → TxS w h' a ks → Z (some true) { s with heap := h' }) :
    wpAny (model P w) A (storeSet a es1 t2 >>= fun _ => if (!wd && t2.tooFull) = true then g (relayAll t2 es1 (SetTable.grown es1.size)).2.2 >>= fun _ => storeSet a (relayAll t2 es1 (SetTable.grown es1.size)).1 (relayAll t2 es1 (SetTable.grown es1.size)).2.1 >>= fun _ => pure (some true) else pure (some true)) Z E s := by
  refine wpAny_bind (wpAny_storeSet_of ho hd ?_ (fits_of_scanBound T.few))
  have o1 := tx_store (es' := es1) (t' := t2) ho hd
  have b1 := Heap.SameBut.update s.heap a (Obj.putSet es1 t2)
  split
  · have T2 := T.relaid (relayAll_perm t2 es1 (SetTable.grown es1.size)) (relayAll_fits t2 es1 _) (L2.relayAll_ris t2 es1 _) (L2.relayAll_led t2 es1 _)
    revert T2
    generalize relayAll t2 es1 (SetTable.grown es1.size) = z
    intro T2
    refine wpAny_bind (free _ _ _ (wpAny_bind (wpAny_storeSet_of o1 rfl ?_ (fits_of_scanBound T2.few))))
    exact wpAny_pure (hZ _ (b1.trans (Heap.SameBut.update _ a _)) ⟨_, z.1, _, z.2.1, tx_store (es' := z.1) (t' := z.2.1) o1 rfl, hx, rfl, T2⟩)
  · exact wpAny_pure (hZ _ b1 ⟨_, es1, _, t2, o1, hx, rfl, T⟩)
theorem tx_add {ks : List Str} {k : Str} {u : Tok} {Z : Bool → Shared → Prop} (R : TxS w s.heap a ks) (room : ks.length + 1 < scanBound)
    (hZ : ∀ h' b ks', Heap.SameBut a s.heap h' → TxS w h' a ks' → (∀ x, x ∈ ks' ↔ x = k ∨ x ∈ ks) → ks'.length ≤ ks.length + 1 → Z b { s with heap := h' }) : wpAny (model P w) A (setAddHashed a (.str k u) ((PySem.strKind P w).hash k)) Z E s := by
  obtain ⟨o, es, ep, t, ho, hx, hd, T⟩ := R
  have hsc : (Value.str k u).scannable = true := rfl
  unfold setAddHashed setAddHashedIn
  refine wpAny_holding (wpAny_bind (wpAny_setState_of ho hd T.fit ?_))
  show wpAny _ _ (if byScan (.str k u) es = true then _ else _) _ _ _
  rw [if_pos (byScan_of hsc T.few (T.elems (P := P)))]
  unfold setAddByScan
  refine wpAny_bind (wpAny_bind (wpAny_rule (wpAny_bind (wpAny_setScan_of (strKind_is P w k u) ho hd T.fit T.elems ?_))))
  cases hf : es.toList.findIdx? (fun e => (PySem.strKind P w).is k e.2) with
  | some j =>
    obtain ⟨hj, pj, _⟩ := List.findIdx?_eq_some_iff_getElem.mp hf
    have hk : k ∈ ks := T.mem.mem_iff.mp (List.mem_map.mpr ⟨_, List.getElem_mem hj, (tx_is (T.ent _ (List.getElem_mem hj)) k).mp pj⟩)
    refine wpAny_pure (wpAny_pure (hZ s.heap _ ks (Heap.SameBut.refl a s.heap) ⟨o, es, ep, t, ho, hx, hd, T⟩ (fun x => ⟨.inr, fun q => q.elim (fun e => e ▸ hk) id⟩) (Nat.le_succ _)))
  | none =>
    have hk : k ∉ ks := fun q => by
      obtain ⟨e, he, ee⟩ := List.mem_map.mp (T.mem.mem_iff.mpr q)
      have c := List.findIdx?_eq_none_iff.mp hf e he
      rw [(tx_is (T.ent e he) k).mpr ee] at c
      cases c
    have gw : ∀ (b : Bool) {r : Shared} {Y : Unit → Shared → Prop}, Y () r → wpAny (model P w) A (match b with | true => rule "set.scan.the-table-gave-way" | false => pure ()) Y E r := fun b r Y q => by
      cases b
      · exact wpAny_pure q
      · exact wpAny_rule q
    have pm := layNew_perm t es ((PySem.strKind P w).hash k) (.str k u)
    have f1 := layNew_fits t es ((PySem.strKind P w).hash k) (.str k u)
    have r1 := L2.layNew_ris t es ((PySem.strKind P w).hash k) (.str k u) T.ris
    have l1 := L2.layNew_led t es ((PySem.strKind P w).hash k) (.str k u)
    dsimp only
    revert pm f1 r1 l1
    generalize layNew t es ((PySem.strKind P w).hash k) (.str k u) = z
    obtain ⟨es1, t1, wd, gave⟩ := z
    dsimp only
    intro pm f1 r1 l1
    rw [Array.toList_push] at pm
    have pc : es1.toList.Perm (((PySem.strKind P w).hash k, Value.str k u) :: es.toList) := pm.trans (List.perm_append_singleton _ _)
    have n1 : es1.size = es.size + 1 := by
      rw [← Array.length_toList, pc.length_eq, List.length_cons, Array.length_toList]
    have n2 : ks.length = es.size := by
      rw [← T.mem.length_eq, List.length_map, Array.length_toList]
    have mk : ∀ t2 : SetTable, t2.fits es1.size = true → Ris t2.place.toList → t2.led = t1.led → TxT w es1 t2 (k :: ks) := fun t2 q1 q2 q3 =>
      ⟨fun e he => (List.mem_cons.mp (pc.mem_iff.mp he)).elim (fun q => by rw [q]; exact ⟨k, u, rfl, rfl⟩) (T.ent e), (pc.map txOf).trans (T.mem.cons k), List.nodup_cons.mpr ⟨hk, T.nd⟩, by rw [n1, ← n2]; exact room, q1, q2, by rw [q3, l1]; exact T.led⟩
    have fin : ∀ h', Heap.SameBut a s.heap h' → TxS w h' a (k :: ks) → Z true { s with heap := h' } := fun h' sb r => hZ h' true (k :: ks) sb r (fun x => List.mem_cons) (Nat.le_refl _)
    refine wpAny_bind (gw _ ?_)
    split
    · refine wpAny_bind ?_
      rw [hashByValue_scannable 8 hsc]
      refine wpAny_pure (tx_tail (fun b r Y q => gw b q) ho hx hd (mk _ ?_ ?_ ?_) fun h' sb r => wpAny_pure (fin h' sb r))
      · first | (split <;> first | exact f1 | exact SetTable.fits_plain_off f1) | exact f1
      · first | (split <;> exact r1) | exact r1
      · first | (split <;> rfl) | rfl
    · refine wpAny_bind (wpAny_pure ?_)
      simp only [↓reduceIte]
      exact tx_tail (fun b r Y q => gw b q) ho hx hd (mk t1 f1 r1 rfl) fun h' sb r => wpAny_pure (fin h' sb r)
end
/-! ### set(a list of texts), sorted(a set of texts) -/
abbrev newSetO (w : World) : Obj := { cls := .type "set", dict := none, data := .set #[] 0 (.fresh 0 0 (!w.params.followText "set-order")) }
theorem tx_new {w : World} {h : Heap} {a : Addr} (e : h.get? a = some (newSetO w)) : TxS w h a [] := by
  refine ⟨_, #[], 0, _, e, ⟨rfl, rfl, rfl⟩, rfl, fun e he => ?_, .nil, List.nodup_nil, by decide, by rfl, List.Pairwise.nil, ?_⟩
  · simp at he
  · show _ ∨ (!w.params.followText "set-order") = true
    cases w.params.followText "set-order"
    · exact .inr rfl
    · exact .inl rfl
section
variable {P : Program} {w : World} {A : Around} {E : Value → Shared → Prop} {s : Shared}
theorem tx_fill {I S : Addr} {fp wr : List Addr} {G : Array GenState → Array GenState → Prop} {n : Nat} {Pv : Nat → Value → Prop} {St : Nat → Shared → Prop} {Z : Result → Shared → Prop} (W : WalksS P w A.in1 I fp wr G n Pv St) (nS : S ∉ fp) (xs : List Str) (en : n = xs.length) (room : xs.length + 1 < scanBound)
    (txt : ∀ i v, Pv i v → ∃ k u, xs[i]? = some k ∧ v = .str k u) : ∀ (m i : Nat) (s : Shared), n - i = m → i ≤ n → St i s → (∃ ks, TxS w s.heap S ks ∧ (∀ x, x ∈ ks ↔ x ∈ xs.take i) ∧ ks.length ≤ i) →
      (∀ s' ks, Moved (S :: wr) G s s' → TxS w s'.heap S ks → (∀ x, x ∈ ks ↔ x ∈ xs) → ks.length ≤ n → Z (.ok (.ret .none)) s') → codeAny (model P w) A (.builtin "set.update.loop" ⟨[.ref S, .ref I], []⟩) Z s := by
  have nW : S ∉ wr := fun q => nS (W.sub _ q)
  have up : ∀ b ∈ wr, b ∈ S :: wr := fun b q => List.mem_cons_of_mem _ q
  intro m
  induction m with
  | zero =>
    rintro i s hm hi st ⟨ks, R, sub, len⟩ fin
    obtain rfl : i = n := by omega
    rw [List.take_of_length_le (by omega)] at sub
    refine codeAny_builtin PyProof.Rows.F.entry_set_update_loop ?_
    rw [Around.under_plainId PyProof.Rows.F.plain_set_update_loop _]
    show wpAny _ A.in1 (pyNext (.ref I) >>= _) _ _ _
    refine wpAny_bind (W.done s _ _ st fun s' mv => ?_)
    exact wpAny_pure (fin s' ks (mv.mono up) (R.keep fun o e => mv.heap S o nW e) sub len)
  | succ m ih =>
    rintro i s hm hi st ⟨ks, R, sub, len⟩ fin
    have lt : i < n := by omega
    refine codeAny_builtin PyProof.Rows.F.entry_set_update_loop ?_
    rw [Around.under_plainId PyProof.Rows.F.plain_set_update_loop _]
    show wpAny _ A.in1 (pyNext (.ref I) >>= _) _ _ _
    refine wpAny_bind (W.item i s _ _ lt st fun v s' pv st' mv => ?_)
    obtain ⟨k, u, hk, rfl⟩ := txt i v pv
    have R1 : TxS w s'.heap S ks := R.keep fun o e => mv.heap S o nW e
    show wpAny _ A.in1 (holding [Value.str k u] (setAdd S (.str k u)) >>= _) _ _ _
    refine wpAny_bind (wpAny_holding ?_)
    unfold setAdd
    refine wpAny_holding (wpAny_bind ((PySem.strKind P w).pyHash (k := k) (strKind_is _ _ _ _) ?_))
    refine tx_add (s := { s' with toks := s'.toks + 1 }) R1 (by omega) fun h' b ks' sb R2 mem ln => ?_
    refine wpAny_pure ⟨plainId_quiet PyProof.Rows.F.plain_set_update_loop _, ih (i + 1) _ (by omega) lt (W.frame _ s' _ _ st' (Nat.le_succ _) fun c hc o e => ?_) ⟨ks', R2, fun x => ?_, by omega⟩ fun s'' ks'' mv2 R3 sub3 ln3 => ?_⟩
    · rw [sb.2 c (fun q : c = S => nS (q ▸ hc))]
      exact e
    · rw [mem x, List.take_add_one, hk, List.mem_append, sub x]
      exact ⟨fun q => q.elim (fun e => .inr (by rw [e]; exact List.mem_singleton.mpr rfl)) .inl, fun q => q.elim .inr fun e => .inl (List.mem_singleton.mp e)⟩
    · refine fin s'' ks'' (Moved.trans W.gtrans ((mv.mono up).then_heap (Nat.le_succ _) fun c o hc e => ?_) mv2) R3 sub3 ln3
      rw [sb.2 c (fun q : c = S => hc (by rw [q]; exact List.mem_cons_self))]
      exact e
set_option maxHeartbeats 8000000 in
theorem tx_make {l : Addr} {its : Array Value} (xs : List Str) {Z : Value → Shared → Prop} (calm : A.handled = none) (hl : s.heap.IsList l its) (hx : StrsAre its.toList xs) (room : xs.length + 1 < scanBound)
    (hZ : ∀ (h' : Heap) (tk : Nat) (ks : List Str), TxS w h' s.heap.objs.size ks → (∀ x, x ∈ ks ↔ x ∈ xs) → ks.length ≤ xs.length → (∀ b o, s.heap.get? b = some o → h'.get? b = some o) → Z (.ref s.heap.objs.size) { s with heap := h', toks := tk }) :
    wpAny (model P w) A (call (.type "set") [.ref l]) Z E s := by
  have many : its.size = xs.length := by
    have q := StrsAre.len_eq hx
    rw [Array.length_toList] at q
    exact q
  obtain ⟨_, _, m1⟩ := PySem.F.called_set.mro; have m2 := PySem.F.called_set.made; have m3 := PySem.F.called_set.sub
  refine wpAny_call (codeAny_of_tree ?_)
  show wpAny _ _ (callAny (.type "set") ⟨[.ref l], []⟩) _ _ _
  refine wpAny_pure ⟨Code.quiet_builtin _ (by decide +kernel), codeAny_builtin PySem.F.entry_type_call ?_⟩
  rw [Around.under_plain (weight_type_call_type "set" [.ref l] []) rfl]
  have c1 := PySem.F.called_set.notType; have c2 := PySem.F.called_set.canCreate; have c3 := PySem.F.typeCall_set_1 (.ref l)
  repeat (any_goals (first | assumption | wp_step))
  refine codeAny_mono (L2.code_set_led1 (.ref l) (E := E) (Q₁ := fun v r => v = .ref s.heap.objs.size ∧ r = { s with heap := s.heap.push (newSetO w) }) ⟨rfl, rfl⟩) fun res r1 hr => ?_
  match res, hr with
  | .error e, hr => exact hr
  | .ok (.ret v), hr =>
    obtain ⟨rfl, rfl⟩ := hr
    have at0 : (s.heap.push (newSetO w)).get? s.heap.objs.size = some (newSetO w) := Heap.get?_push_size _ rfl
    have ty0 : Shared.TypeIs { s with heap := s.heap.push (newSetO w) } (.ref s.heap.objs.size) "set" := ⟨_, at0, rfl⟩
    have i1 := PySem.F.called_set.init.lookup; have i2 := PySem.F.called_set.init.bind (.ref s.heap.objs.size)
    repeat (any_goals (first | assumption | wp_step))
    refine codeAny_mono (codeAny_call_builtin (R := wants (fun v r => v = .none ∧ ∃ h' tk ks, r = { s with heap := h', toks := tk } ∧ TxS w h' s.heap.objs.size ks ∧ (∀ x, x ∈ ks ↔ x ∈ xs) ∧ ks.length ≤ xs.length ∧ ∀ b o, s.heap.get? b = some o → h'.get? b = some o) E) PySem.F.called_set.init.plain
      PySem.F.entry_set_init (check_set_init_1 ty0 ?_)) fun res2 r2 hr2 => ?_
    · obtain ⟨⟨ocls, od, odt, osl⟩, e0, e1, nn, e2⟩ := hl
      simp only at e1 e2
      subst e1; subst e2
      have lS : l < s.heap.objs.size := Heap.lt_size e0
      have e3 := Heap.get?_push_of_some (newSetO w) e0
      have d1 := PySem.F.sub_list_set; have d2 := PySem.F.sub_list_frozenset; have d3 : (Value.type "list" == Value.type "dict") = false := by decide
      have l1 : (s.heap.push (newSetO w)).IsList l its := ⟨_, e3, rfl, nn, rfl⟩
      unfold Builtin.«set.__init__» noKeywords Builtin.Frozenset.updateFrom
      generalize hPI : pyIter = PI
      wp_walk
      subst hPI
      refine wpAny_pyIter_list l1 (wpAny_bind (wpAny_runValue ?_))
      have z1 : (s.heap.push (newSetO w)).objs.size = s.heap.objs.size + 1 := Heap.size_push ..
      have far : l ≠ (s.heap.push (newSetO w)).objs.size := by
        rw [z1]
        exact Nat.ne_of_lt (Nat.lt_succ_of_lt lS)
      have out : s.heap.objs.size ∉ [(s.heap.push (newSetO w)).objs.size, l] := by
        rw [z1, List.mem_cons, List.mem_singleton]
        exact fun q => q.elim (Nat.ne_of_lt (Nat.lt_succ_self _)) (Nat.ne_of_gt lS)
      refine tx_fill ((Walks.list (show A.in1.in1.in1.handled = none by simp [calm]) _ l far its).toS) out xs many room (fun i v hv => ?_) (its.size - 0) 0 _ rfl (Nat.zero_le _) ⟨⟨_, Heap.get?_push_size _ rfl, rfl, rfl⟩, l1.push _⟩ ⟨[], tx_new (Heap.get?_push_of_some _ at0), fun _ => Iff.rfl, Nat.le_refl _⟩ fun r ks mv R sub ln => ?_
      · have hi : i < xs.length := by
          rw [← many]
          exact (Array.getElem?_eq_some_iff.mp hv).1
        obtain ⟨u, e⟩ := SS.strs_at hx i v (by rw [Array.getElem?_toList]; exact hv)
        exact ⟨xs[i], u, List.getElem?_eq_getElem hi, by rw [e, List.getD_eq_getElem?_getD, List.getElem?_eq_getElem hi]; rfl⟩
      · obtain ⟨h', g', d', tk', os'⟩ := r
        obtain rfl : g' = s.gens := mv.gens
        obtain rfl : d' = s.drawn := mv.drawn
        obtain rfl : os' = s.os := mv.os
        show wpAny _ _ _ _ _ _
        refine wpAny_pure ?_
        show wpAny _ _ (ret Value.none) _ _ _
        refine wpAny_pure ⟨rfl, h', tk', ks, rfl, R, sub, by omega, fun b o e => ?_⟩
        have b0 : b < s.heap.objs.size := Heap.lt_size e
        refine mv.heap b o ?_ (Heap.get?_push_of_some _ (Heap.get?_push_of_some _ e))
        rw [List.mem_cons, List.mem_singleton, z1]
        exact fun q => q.elim (Nat.ne_of_lt b0) (Nat.ne_of_lt (Nat.lt_succ_of_lt b0))
    · match res2, hr2 with
      | .error e, hr2 => exact hr2
      | .ok (.ret v), hr2 =>
        obtain ⟨rfl, h', tk, ks, rfl, R, sub, ln, kp⟩ := hr2
        repeat (any_goals (first | assumption | wp_step))
        exact hZ _ _ _ R sub ln kp
theorem strs_of : ∀ l : List Value, (∀ v ∈ l, ∃ k u, v = Value.str k u) → ∃ xs, StrsAre l xs ∧ xs.length = l.length ∧ ∀ x ∈ xs, ∃ u, Value.str x u ∈ l
  | [], _ => ⟨[], .nil, rfl, fun _ h => absurd h List.not_mem_nil⟩
  | v :: l, h => by
    obtain ⟨k, u, rfl⟩ := h v List.mem_cons_self
    obtain ⟨xs, h1, h2, h3⟩ := strs_of l fun r hr => h r (List.mem_cons_of_mem _ hr)
    refine ⟨k :: xs, .cons k u h1, by rw [List.length_cons, List.length_cons, h2], fun x hx => ?_⟩
    rcases List.mem_cons.mp hx with rfl | hx
    · exact ⟨u, List.mem_cons_self⟩
    · obtain ⟨r, hr⟩ := h3 x hx
      exact ⟨r, List.mem_cons_of_mem _ hr⟩
end
section
variable {P : Program} {w : World} {A : Around} {E : Value → Shared → Prop} {s : Shared}
theorem strs_tx : ∀ {l : List Value}, (∀ v ∈ l, ∃ k u, v = Value.str k u) → StrsAre l (l.map txV)
  | [], _ => .nil
  | v :: l, h => by
    obtain ⟨k, u, rfl⟩ := h v List.mem_cons_self
    exact .cons k u (strs_tx fun x hx => h x (List.mem_cons_of_mem _ hx))
theorem tx_sorted {a : Addr} {ks : List Str} {Z : Value → Shared → Prop} (R : TxS w s.heap a ks) (calm : A.handled = none)
    (hZ : ∀ s' p (out : Array Value) (c : Nat) (ys : List Str), (∀ b o, s.heap.get? b = some o → s'.heap.get? b = some o) → s'.gens = s.gens → s'.os = s.os → s.heap.objs.size ≤ p → s'.heap.get? p = some (seqObj "list" out c) → StrsAre out.toList ys → ys.Perm ks → sortedS ys = true → Z (.ref p) s') :
    wpAny (model P w) A (call (.builtin "sorted") [.ref a]) Z E s := by
  obtain ⟨o, es, ep, t, ho, hx, hd, T⟩ := R
  refine Calls.call_function_entry kind_sorted plain_sorted entry_sorted (args_sorted1 _) ?_
  unfold Builtin.«sorted»
  refine wpAny_bind (m := checkCount "sorted" 1 1 _) (wpAny_pure (wpAny_bind (L2.collect_set (A := A.in1) calm ⟨o, ho, hx.1, hd⟩ T.fit T.few T.ris T.led fun s1 vs k1 z1 g1 o1 pm => ?_)))
  have hS : StrsAre vs (vs.map txV) := strs_tx fun v hv => by
    obtain ⟨e, he, rfl⟩ := List.mem_map.mp (pm.mem_iff.mp hv)
    obtain ⟨k, u, q, _⟩ := T.ent e he
    exact ⟨k, u, q⟩
  have p1 : (vs.map txV).Perm (es.toList.map txOf) := by
    have q := pm.map txV
    rw [List.map_map] at q
    exact q
  have len : vs.length ≤ sizeLine := by
    rw [pm.length_eq, List.length_map, Array.length_toList]
    exact fits_of_scanBound T.few
  refine wpAny_bind (wpAny_newList ?_ len)
  have at1 : (s1.heap.push (seqObj "list" vs.toArray 0)).get? s1.heap.objs.size = some (seqObj "list" vs.toArray 0) := Heap.get?_push_size _ rfl
  refine wpAny_bind (wpAny_holding (wpAny_call_entry slot_list_sort ⟨_, at1, rfl⟩ entry_list_sort (list_sort_treeKAny strKind_oneLt at1 hS.keysOf (fun v1 v2 rest e => keyKind_strs (by rw [← e]; exact hS)) len fun st' a1 a2 => ⟨_, rfl, ?_⟩) (args_list_sort _)))
  obtain ⟨ys, y1, y2, y3⟩ := sorted_out_str hS a1 a2
  obtain ⟨c, hc⟩ := sortedHeap_at (vs := vs) (out := (arrOf st').map (·.2)) at1
  refine wpAny_pure ⟨_, rfl, hZ _ s1.heap.objs.size _ c ys (fun b u e => ?_) g1 o1 z1 hc y1 (y2.trans (p1.trans T.mem)) y3⟩
  have q := k1 b u e
  have lt := Heap.lt_size q
  show (sortedHeap (s1.heap.push (seqObj "list" vs.toArray 0)) s1.heap.objs.size (vs) ((arrOf st').map (·.2))).get? b = some u
  rw [sortedHeap_old (Nat.ne_of_lt lt) (by rw [size_push']; exact Nat.lt_succ_of_lt lt)]
  exact Heap.get?_push_of_some _ q
end
/-! ### as rules -/
def TxO (w : World) (a : Addr) (ks : List Str) : HO := .ext fun h => TxS w h a ks
section
variable {X : Cx}
theorem txO_new {w : World} {P : Program} {H : Hp} {h : Heap} {a : Addr} {ks : List Str} (R : TxS w h a ks) : ObjOk P w H h a (TxO w a ks) := by
  have ⟨o, _, _, _, ho, _⟩ := R
  exact ⟨R, ⟨o, ho⟩, fun _ _ p k => p.keep k⟩
/-- set(a list of texts) -/
def rSetTx (w : World) (K : PySem.W.Frag) : List V → Hp → VK → Prop := fun xs H Q => ∃ (a : Addr) (ys : List Str), xs = [.ref a] ∧ SqL K H a (ys.map V.str) ∧ ys.length < 4000 ∧ ∀ (p : Addr) (ks : List Str), H p = none → ks.Nodup → (∀ x, x ∈ ks ↔ x ∈ ys) → ks.length ≤ ys.length → Q (.ref p) (upd H p (TxO w p ks))
theorem cr_setTx (calm : X.calm = true) : CallR X (.type "set") (rSetTx X.w X.K) := by
  intro pins s σ H xs us Q I r h
  obtain ⟨a, ys, rfl, hs, hl, q⟩ := h
  obtain ⟨its, rv, at1, _⟩ := I.list hs
  rw [Vals.ref1 r]
  refine tx_make ys (I.ok.hd calm) at1.isList (by rw [List.toList_toArray]; exact rv.strs) (by show ys.length + 1 < 4096; omega) fun h' tk ks R sub ln kp => ?_
  have hn : H s.heap.objs.size = none := I.hok.fresh (Nat.le_refl _)
  exact ⟨.ref s.heap.objs.size, _, I.laid (t' := tk) kp (Nat.le_refl _) (txO_new R), rfl, q _ ks hn (let ⟨_, _, _, _, _, _, _, T⟩ := R; T.nd) sub ln⟩
/-- sorted(a set of texts) -/
def rSortTx (w : World) : List V → Hp → VK → Prop := fun xs H Q => ∃ (a : Addr) (ks : List Str), xs = [.ref a] ∧ H a = some (TxO w a ks) ∧ ∀ (p : Addr) (ys : List Str), H p = none → ys.Perm ks → sortedS ys = true → Q (.ref p) (upd H p (.lst (ys.map V.str)))
theorem cr_sortTx (calm : X.calm = true) : CallR X (.builtin "sorted") (rSortTx X.w) := by
  intro pins s σ H xs us Q I r h
  obtain ⟨a, ks, rfl, ha, q⟩ := h
  have R : TxS X.w s.heap a ks := (I.hok a _ ha).1
  have few : ks.length < 4096 := by
    obtain ⟨_, es, _, _, _, _, _, T⟩ := R
    rw [← T.mem.length_eq, List.length_map, Array.length_toList]
    exact T.few
  rw [Vals.ref1 r]
  refine tx_sorted R (I.ok.hd calm) fun s' p out c ys k g o hp hg hy pm up => ?_
  have hn : H p = none := I.hok.fresh hp
  have hlen : (ys.map V.str).length ≤ sizeLine := by
    rw [List.length_map, pm.length_eq, sizeLine_eq]
    omega
  have J : Inv X pins σ (upd H p (.lst (ys.map V.str))) { s with heap := s'.heap, gens := s'.gens, drawn := s'.drawn, toks := s'.toks } :=
    I.call (ch := []) (Un.laid k hp hn) (I.hok.laid k hp ⟨hlen, out.toList, c, vals_of_strs hy, hg⟩) (by rw [g]; exact I.bare) (fun _ z => nomatch z)
  have e : s' = { s with heap := s'.heap, gens := s'.gens, drawn := s'.drawn, toks := s'.toks } := by
    obtain ⟨_, _, _, _, _⟩ := s'
    cases o
    rfl
  rw [e]
  exact ⟨.ref p, _, J, rfl, q p ys hn pm up⟩
end
/-! ### o.m(a, ..), m a staticmethod of the object's class; o.m(k = v) -/
structure SMeth (K : PySem.W.Frag) (C : Addr) (m : Str) (p g : Addr) : Prop where
  at_ : PySem.W.findIn K (.ref C) m = some (some (.ref p))
  ty : PySem.W.typeIn K (.ref p) = some (.type "staticmethod")
  get : PySem.W.specialIn K (.ref p) "__get__" = some (some (.builtin "staticmethod.__get__"))
  tk : PySem.W.takesIn K (.ref p) = some false
  cp : PySem.W.copiedNames.contains m = false
  rc : ∃ rest, PySem.W.recIn K p "staticmethod" = some (.ref g :: rest)
  kp : PySem.W.keepIn K (.ref g) = true
def tStat (C : Addr) (m : Str) (sp : Sp) (ta : TE) (t : TA) : TE := fun σ H Q => ta σ H fun x H1 => ∃ a dx fs, x = .ref a ∧ H1 a = some (.ins C dx fs) ∧ fs.lookup m = none ∧ t σ H1 fun ws H2 => sp ws H2 Q E0
def tMethK (C : Addr) (m : Str) (sp : Sp) (gV : List V → List V → List V) (ta : TE) (tk : TA) : TE := fun σ H Q => ta σ H fun x H1 => ∃ a dx fs, x = .ref a ∧ H1 a = some (.ins C dx fs) ∧ fs.lookup m = none ∧ tk σ H1 fun zs H2 => sp (gV [.ref a] zs) H2 Q E0
section
variable {X : Cx} {k : Nat} {C p g f : Addr} {sp : Sp} {o e : Expr} {es : List Expr} {kws : List Keyword} {m : Str} {pos apos : Pos} {ta : TE} {t tk : TA} {fd : FuncData} {ps ks : List Str}
theorem pe_stat {pl : Sem Bool} (he : PE X o ta) (c : Cls X.K C) (k1 : SMeth X.K C m p g) (F : FnOk X.prog X.w X.K X.mg X.base CX0 k g fd ps sp) (hr : Room k X.A) (hb : Binds X.K fd ps []) (ha : PA X (e :: es) t)
    (hst : starEach (e :: es) X.env = (false, eval e X.env) :: starEach es X.env := by rfl) (hpl : (backTo pos (starEach es X.env)).any (·.1) = false := by rfl)
    (ht : eval (.Call (.Attribute o m apos) (e :: es) [] pos) X.env = (eval o X.env >>= fun ov => standAt apos.atName >>= fun _ => holding [ov] (getMethod ov m pl) >>= fun q => callWith pos q.1 q.2 (backTo pos (starEach (e :: es) X.env)) (backToKw pos (keywordEach [] X.env))) := by rfl) :
    PE X (.Call (.Attribute o m apos) (e :: es) [] pos) (tStat C m sp ta t) := by
  refine ⟨fun pins s σ H Q I h => ?_⟩
  refine PySem.W.methodCall_KW (pl := pl) (thn (he.run pins s σ H _ I h) fun u s1 ⟨x, H1, I1, rx, a, dx, fs, ex, ea, l, q⟩ => ?_) ht
  subst ex
  obtain rfl : u = Value.ref a := rx
  obtain ⟨mA, O, rr, _, _, _⟩ := ins_get I1.hok ea
  have hn : mA m = none := RelO.none_of (by rw [← l]; exact rr m)
  obtain ⟨od, J, hl⟩ := O.look
  obtain ⟨rest, hrec⟩ := k1.rc
  have hc : PySem.W.isClsIn X.K C = true := by
    obtain ⟨cd, hc, _⟩ := PySem.W.any_some c.hd
    show (PySem.W.clsIn X.K C).isSome = true
    rw [hc]
    rfl
  have pg := PySem.W.plainGet_of (c.get m)
  refine PySem.W.method_usual (r := some (.ref p)) I1.kIn J pg.1 pg.2 k1.at_ ?_ ?_
  · show ((PySem.W.typeIn X.K (.ref p)).any fun t => t != .type "function" && t != .type "method_descriptor" && t != .type "wrapper_descriptor") = true
    rw [k1.ty]
    first | rfl | decide +kernel
  refine PySem.W.get_bind I1.kIn J pg.1 (ClX.find_cm hc k1.at_ k1.get k1.tk k1.cp (by rw [hl m, hn])) pg.2 (wpAny_call (PySem.W.sm_get (s := { s1 with toks := s1.toks + 1 }) I1.kIn hrec (PySem.W.handed_on (by rfl) ?_)))
  have I2 := I1.tok (s1.toks + 1)
  refine PySem.W.callWith_K (first := []) (h₀ := X.base) I2.ok.mod.kin k1.kp (thn (ha.run pos pins _ σ H1 _ I2 q) fun us s2 ⟨vs, H2, I3, r, q2⟩ => ⟨I3.kIn, ?_⟩) hst hpl
  exact run_fn F hr hb .nil pass0 I3 r (by rw [List.append_nil]; exact q2)
theorem pe_methK {pl : Sem Bool} {h : List Value → List Value → List Value} {hV : List V → List V → List V} (he : PE X o ta) (c : Cls X.K C) (hm : Meth X.K C m f) (F : FnOk X.prog X.w X.K X.mg X.base CX0 k f fd ps sp) (hr : Room k X.A) (hb : KBinds X.K fd ps ks h hV) (hkw : PK X kws tk)
    (hall : (backToKw pos (keywordEach kws X.env)).all (·.1.isSome) = true := by rfl) (hks : (backToKw pos (keywordEach kws X.env)).filterMap (·.1) = ks := by rfl) (hpl : ((backTo pos (starEach [] X.env)).any (·.1) || (backToKw pos (keywordEach kws X.env)).any (·.1.isNone)) = false := by rfl)
    (ht : eval (.Call (.Attribute o m apos) [] kws pos) X.env = (eval o X.env >>= fun ov => standAt apos.atName >>= fun _ => holding [ov] (getMethod ov m pl) >>= fun q => callWith pos q.1 q.2 (backTo pos (starEach [] X.env)) (backToKw pos (keywordEach kws X.env))) := by rfl) :
    PE X (.Call (.Attribute o m apos) [] kws pos) (tMethK C m sp hV ta tk) := by
  refine ⟨fun pins s σ H Q I h => ?_⟩
  refine PySem.W.methodCall_KW (pl := pl) (thn (he.run pins s σ H _ I h) fun u s1 ⟨x, H1, I1, rx, a, dx, fs, ex, ea, l, q⟩ => ?_) ht
  subst ex
  obtain rfl : u = Value.ref a := rx
  refine getmeth_ok I1 ea c hm l (PySem.W.callWith_KW0 (first := [.ref a]) (h₀ := X.base) I1.ok.mod.kin hm.kp hall (thn (hkw.run pos pins s1 σ H1 _ I1 q) fun ws s2 ⟨zs, H2, I2, rz, q2⟩ => ⟨I2.kIn, ?_⟩) hpl)
  rw [hks]
  exact run_fnk (us := [.ref a]) (vs := [.ref a]) F hr hb pass0 I2 (.cons rfl .nil) rz q2
end
/-- one value by position, one by keyword -/
def two1 {α : Type} : List α → List α → List α
  | [a], [b] => [a, b]
  | _, _ => []
theorem kb2 {K : PySem.W.Frag} {fd : FuncData} {p1 p2 : Str} (h : ∀ (s : Shared) (a b : Value), K.In s.heap → BindsTo s fd ⟨[a], [(p2, b)]⟩ [(p1, a), (p2, b)]) : KBinds K fd [p1, p2] [p2] two1 two1 := by
  refine ⟨fun s us ws X len => ?_, fun r1 r2 => ?_⟩
  · match us, ws, len with
    | [a], [b], _ => exact h s a b X
  · cases r1 with
    | nil => exact .nil
    | cons q1 r1 =>
      cases r1 with
      | cons _ _ => exact .nil
      | nil =>
        cases r2 with
        | nil => exact .nil
        | cons q2 r2 =>
          cases r2 with
          | cons _ _ => exact .nil
          | nil => exact .cons q1 (.cons q2 .nil)
/-! ### a list by the keys of a dict -/
theorem upd_free {H : Hp} {a e : Addr} {o : HO} (h : upd H a o e = none) : e ≠ a ∧ H e = none := by
  have n : e ≠ a := fun q => by
    rw [q, upd_same] at h
    cases h
  rw [upd_ne n] at h
  exact ⟨n, h⟩
theorem keys_strs {kvs : List (Key × V)} {xs : List Str} (h : kvs.map (·.1) = xs.map Sum.inr) : (kvs.map fun kv => kV kv.1) = xs.map V.str := by
  have e : (kvs.map fun kv => kV kv.1) = (kvs.map (·.1)).map kV := by rw [List.map_map]; rfl
  rw [e, h, List.map_map]
  rfl
theorem lock_keys {σ : L2.St} {H : Hp} {Q : VK} {td te : TE} {i : Nat} {d : Addr} {kvs : List (Key × V)} {xs : List Str} {f : Str → Str} (hd : H d = some (.dK kvs)) (hk : kvs.map (·.1) = xs.map Sum.inr) (hl : xs.length ≤ 900)
    (htd : ∀ (H' : Hp) (Q' : VK), Q' (.ref d) H' → td σ H' Q') (hte : ∀ x ∈ xs, ∀ (H' : Hp) (Q' : VK), Q' (.str (f x)) H' → te ((wipe σ [i]).set i (some (.str x))) H' Q')
    (q : ∀ (D : Addr) (H' : Hp), H D = none → Same H H' → H' D = some (.lst (xs.map fun x => .str (f x))) → Q (.ref D) H') : tLockE (tLc (iKeys td) (gName i) tYes te [i]) σ H Q := by
  refine ⟨d, .dK kvs, hd, trivial, fun od => ?_⟩
  refine htd _ _ ⟨d, od, rfl, .inl ⟨kvs, upd_same, fun D nD => ?_⟩⟩
  have hlen : kvs.length = xs.length := by
    have := congrArg List.length hk
    rw [List.length_map, List.length_map] at this
    exact this
  obtain ⟨nDd, nDH⟩ := upd_free nD
  refine lc_it walk_keys (fun j H' => H' D = some (.lst ((xs.take j).map fun x => .str (f x))) ∧ H' d = some (.frz od (.dK kvs)) ∧ ∀ b o, b ≠ d → H b = some o → H' b = some o) ⟨by rw [upd_same]; rfl, by rw [upd_ne nDd.symm, upd_same], fun b o nb e => by rw [upd_ne (ne_of_none e nDH), upd_ne nb]; exact e⟩ (fun _ _ _ h => h.2.1) ?_ ?_
  · rintro j v H1 H2 hj ⟨hD, hd1, keep⟩ ⟨rfl, k, v', hkv, rfl⟩
    obtain ⟨x, hx, rfl⟩ := key_at hk hkv
    refine ⟨?_, yes_if ?_⟩
    · show ((wipe σ [i]).set i (some (kV (.inr x)))).set i none = σ.set i none
      show ((σ.set i none).set i (some (V.str x))).set i none = σ.set i none
      rw [List.set_set, List.set_set]
    refine hte x (List.mem_of_getElem? hx) _ _ ⟨_, hD, big_lt (by rw [List.length_map, List.length_take]; omega), ?_, ?_, ?_⟩
    · rw [upd_same, List.take_add_one, hx, List.map_append]
      rfl
    · rw [upd_ne nDd.symm]
      exact hd1
    · intro b o nb e
      rw [upd_ne (ne_of_none e nDH)]
      exact keep b o nb e
  · rintro H1 ⟨hD, hd1, keep⟩
    refine ⟨hd1, q D _ nDH (fun b o e => ?_) ?_⟩
    · by_cases hb : b = d
      · rw [hb, upd_same, ← hd, ← hb, e]
      · rw [upd_ne hb]
        exact keep b o hb e
    · rw [upd_ne nDd, hD, List.take_of_length_le (by omega)]
theorem paired_app {α β : Type} {R : α → β → Prop} : ∀ {l1 l2 : List α} {k1 k2 : List β}, Paired R l1 k1 → Paired R l2 k2 → Paired R (l1 ++ l2) (k1 ++ k2)
  | _, _, _, _, .nil, h => h
  | _, _, _, _, .cons a t, h => .cons a (paired_app t h)
/-! ### comprehensions whose elements write nothing but new tuples -/
theorem prd_snoc {α β : Type} {R : α → β → Prop} : ∀ {as : List α} {bs : List β} {a : α} {b : β}, Paired R as bs → R a b → Paired R (as ++ [a]) (bs ++ [b])
  | _, _, _, _, .nil, h => .cons h .nil
  | _, _, _, _, .cons h t, h' => .cons h (prd_snoc t h')
theorem prd_len {α β : Type} {R : α → β → Prop} : ∀ {as : List α} {bs : List β}, Paired R as bs → as.length = bs.length
  | _, _, .nil => rfl
  | _, _, .cons _ t => by rw [List.length_cons, List.length_cons, prd_len t]
theorem filt_snoc {α : Type} {zs : List α} {i : Nat} {x : α} (b : α → Bool) (h : zs[i]? = some x) : (zs.take (i + 1)).filter b = (zs.take i).filter b ++ (if b x = true then [x] else []) := by
  rw [List.take_add_one, h, List.filter_append]
  congr 1
  show [x].filter b = _
  cases e : b x with
  | true => rw [List.filter_cons_of_pos e, List.filter_nil, if_pos rfl]
  | false => rw [List.filter_cons_of_neg (by rw [e]; decide), List.filter_nil, if_neg (by decide)]
theorem take_few {α : Type} (zs : List α) (b : α → Bool) (i : Nat) : ((zs.take i).filter b).length ≤ zs.length := Nat.le_trans (List.length_filter_le _ _) (by rw [List.length_take]; exact Nat.min_le_right _ _)
section
variable {J : It} {n : Nat} {G : Hp → Prop} {Y : Nat → Hp → V → Hp → Prop} {g : TG} {tt : TT} {te tk tv : TE} {vs : List Nat} {σ : L2.St} {H1 : Hp} {D : Addr} {Qd : Hp → Prop} {α : Type}
theorem lc_tups (w : Walk J n G Y) (zs : List α) (val : α → V) (st : α → L2.St) (b : α → Bool) (f1 f2 : α → V) (hn : zs.length = n) (nD : H1 D = none) (few : n ≤ 60000) (hG : ∀ H', Same H1 H' → G H')
    (hY : ∀ i H v H', Y i H v H' → H' = H ∧ ∃ x, zs[i]? = some x ∧ v = val x) (hg : ∀ x ∈ zs, ∀ H' (Q' : L2.St → Hp → Prop), Same H1 H' → Q' (st x) H' → g (val x) (wipe σ vs) H' Q')
    (hw : ∀ x ∈ zs, wipe (st x) vs = wipe σ vs) (ht : ∀ x ∈ zs, ∀ H' (Q' : Bool → Hp → Prop), Same H1 H' → Q' (b x) H' → tt (st x) H' Q')
    (he : ∀ x ∈ zs, b x = true → ∀ H' (Q' : VK), Same H1 H' → (∀ T, H' T = none → Q' (.ref T) (upd H' T (.tup [f1 x, f2 x]))) → te (st x) H' Q')
    (q : ∀ H' ts, Same H1 H' → H' D = some (.lst (ts.map V.ref)) → Paired (fun t x => H' t = some (.tup [f1 x, f2 x]) ∧ H1 t = none ∧ t ≠ D) ts (zs.filter b) → Qd H') :
    ∃ W : Nat → Nat → Hp → Prop, (∃ m, W 0 m (upd H1 D (.lst []))) ∧ ∀ i m H, W i m H →
      (J.stop i H ∧ Qd H) ∨ (J.go i H ∧ ∃ Nx : Hp → Prop, (∀ H', Nx H' → ∃ m', m' < m ∧ W (i + 1) m' H') ∧ ∀ x H', J.yld i H x H' → g x (wipe σ vs) H' fun σ2 H2 => wipe σ2 vs = wipe σ vs ∧ tt σ2 H2 fun b H3 =>
        if b = true then te σ2 H3 fun y H4 => ∃ acc, H4 D = some (.lst acc) ∧ acc.length < sizeLine ∧ Nx (upd H4 D (.lst (acc ++ [y]))) else Nx H3) := by
  refine lc_it w (fun i H => ∃ ts, Same H1 H ∧ H D = some (.lst (ts.map V.ref)) ∧ Paired (fun t x => H t = some (.tup [f1 x, f2 x]) ∧ H1 t = none ∧ t ≠ D) ts ((zs.take i).filter b)) ⟨[], same_upd nD, upd_same, .nil⟩ (fun i H _ h => by obtain ⟨_, h, _⟩ := h; exact hG H h) ?_ ?_
  · rintro i v H H' hi ⟨ts, s1, hD, hp⟩ hy
    obtain ⟨rfl, x, hx, rfl⟩ := hY _ _ _ _ hy
    have hxm := List.mem_of_getElem? hx
    refine hg x hxm _ _ s1 ⟨hw x hxm, ht x hxm _ _ s1 ?_⟩
    have fs := filt_snoc b hx
    cases eb : b x with
    | false =>
      rw [eb, if_neg (by decide), List.append_nil] at fs
      rw [if_neg (by decide)]
      exact ⟨ts, s1, hD, by rw [fs]; exact hp⟩
    | true =>
      rw [eb, if_pos rfl] at fs
      rw [if_pos rfl]
      refine he x hxm eb _ _ s1 fun T nT => ?_
      have nTD : T ≠ D := (ne_of_none hD nT).symm
      have tl : ts.length ≤ zs.length := by rw [prd_len hp]; exact take_few zs b i
      refine ⟨_, by rw [upd_ne nTD.symm]; exact hD, by rw [List.length_map]; exact Nat.lt_of_le_of_lt (show _ ≤ 60000 by omega) (by decide), ts ++ [T], fun c o e => ?_, by rw [upd_same, List.map_append]; rfl, ?_⟩
      · rw [upd_ne (ne_of_none e nD), upd_ne (ne_of_none (s1 _ _ e) nT)]
        exact s1 _ _ e
      · rw [fs]
        refine prd_snoc (hp.mono fun t y h => ⟨?_, h.2⟩) ⟨by rw [upd_ne nTD, upd_same], s1.free nT, nTD⟩
        rw [upd_ne h.2.2, upd_ne (ne_of_none h.1 nT)]
        exact h.1
  · rintro H' ⟨ts, s1, hD, hp⟩
    rw [← hn, List.take_length] at hp
    exact q H' ts s1 hD hp
theorem lc_vals (w : Walk J n G Y) (zs : List α) (val : α → V) (st : α → L2.St) (b : α → Bool) (f : α → V) (hn : zs.length = n) (nD : H1 D = none) (few : n ≤ 60000) (hG : ∀ H', Same H1 H' → G H')
    (hY : ∀ i H v H', Y i H v H' → H' = H ∧ ∃ x, zs[i]? = some x ∧ v = val x) (hg : ∀ x ∈ zs, ∀ H' (Q' : L2.St → Hp → Prop), Same H1 H' → Q' (st x) H' → g (val x) (wipe σ vs) H' Q')
    (hw : ∀ x ∈ zs, wipe (st x) vs = wipe σ vs) (ht : ∀ x ∈ zs, ∀ H' (Q' : Bool → Hp → Prop), Same H1 H' → Q' (b x) H' → tt (st x) H' Q')
    (he : ∀ x ∈ zs, b x = true → ∀ H' (Q' : VK), Same H1 H' → Q' (f x) H' → te (st x) H' Q')
    (q : ∀ H', Same H1 H' → H' D = some (.lst ((zs.filter b).map f)) → Qd H') :
    ∃ W : Nat → Nat → Hp → Prop, (∃ m, W 0 m (upd H1 D (.lst []))) ∧ ∀ i m H, W i m H →
      (J.stop i H ∧ Qd H) ∨ (J.go i H ∧ ∃ Nx : Hp → Prop, (∀ H', Nx H' → ∃ m', m' < m ∧ W (i + 1) m' H') ∧ ∀ x H', J.yld i H x H' → g x (wipe σ vs) H' fun σ2 H2 => wipe σ2 vs = wipe σ vs ∧ tt σ2 H2 fun b H3 =>
        if b = true then te σ2 H3 fun y H4 => ∃ acc, H4 D = some (.lst acc) ∧ acc.length < sizeLine ∧ Nx (upd H4 D (.lst (acc ++ [y]))) else Nx H3) := by
  refine lc_it w (fun i H => Same H1 H ∧ H D = some (.lst (((zs.take i).filter b).map f))) ⟨same_upd nD, upd_same⟩ (fun i H _ h => hG H h.1) ?_ ?_
  · rintro i v H H' hi ⟨s1, hD⟩ hy
    obtain ⟨rfl, x, hx, rfl⟩ := hY _ _ _ _ hy
    have hxm := List.mem_of_getElem? hx
    refine hg x hxm _ _ s1 ⟨hw x hxm, ht x hxm _ _ s1 ?_⟩
    have fs := filt_snoc b hx
    cases eb : b x with
    | false =>
      rw [eb, if_neg (by decide), List.append_nil] at fs
      rw [if_neg (by decide)]
      exact ⟨s1, by rw [fs]; exact hD⟩
    | true =>
      rw [eb, if_pos rfl] at fs
      rw [if_pos rfl]
      refine he x hxm eb _ _ s1 ⟨_, hD, by rw [List.length_map]; have := take_few zs b i; exact Nat.lt_of_le_of_lt (show _ ≤ 60000 by omega) (by decide), fun c o e => ?_, by rw [upd_same, fs, List.map_append]; rfl⟩
      rw [upd_ne (ne_of_none e nD)]
      exact s1 _ _ e
  · rintro H' ⟨s1, hD⟩
    rw [← hn, List.take_length] at hD
    exact q H' s1 hD
theorem dc_vals (w : Walk J n G Y) (zs : List Str) (val : Str → V) (st : Str → L2.St) (b : Str → Bool) (f : Str → V) (hn : zs.length = n) (nd : zs.Nodup) (nD : H1 D = none) (few : n ≤ 60000) (hG : ∀ H', Same H1 H' → G H')
    (hY : ∀ i H v H', Y i H v H' → H' = H ∧ ∃ x, zs[i]? = some x ∧ v = val x) (hg : ∀ x ∈ zs, ∀ H' (Q' : L2.St → Hp → Prop), Same H1 H' → Q' (st x) H' → g (val x) (wipe σ vs) H' Q')
    (hw : ∀ x ∈ zs, wipe (st x) vs = wipe σ vs) (ht : ∀ x ∈ zs, ∀ H' (Q' : Bool → Hp → Prop), Same H1 H' → Q' (b x) H' → tt (st x) H' Q')
    (hk : ∀ x ∈ zs, b x = true → ∀ H' (Q' : VK), Same H1 H' → Q' (.str x) H' → tk (st x) H' Q') (he : ∀ x ∈ zs, b x = true → ∀ H' (Q' : VK), Same H1 H' → Q' (f x) H' → tv (st x) H' Q')
    (q : ∀ H', Same H1 H' → H' D = some (.dK ((zs.filter b).map fun x => (.inr x, f x))) → Qd H') :
    ∃ W : Nat → Nat → Hp → Prop, (∃ m, W 0 m (upd H1 D (.dK []))) ∧ ∀ i m H, W i m H → (J.stop i H ∧ Qd H) ∨ (J.go i H ∧ ∃ Nx : Hp → Prop, (∀ H', Nx H' → ∃ m', m' < m ∧ W (i + 1) m' H') ∧
      ∀ x H', J.yld i H x H' → g x (wipe σ vs) H' fun σ2 H2 => wipe σ2 vs = wipe σ vs ∧ tt σ2 H2 fun b H3 =>
        if b = true then tk σ2 H3 fun y H4 => tv σ2 H4 fun z H5 => ∃ kvs k, y = kV k ∧ H5 D = some (.dK kvs) ∧ kvs.length < sizeLine ∧ Nx (upd H5 D (.dK (putK kvs k z))) else Nx H3) := by
  refine dc_it w (fun i H => Same H1 H ∧ H D = some (.dK (((zs.take i).filter b).map fun x => (.inr x, f x)))) ⟨same_upd nD, upd_same⟩ (fun i H _ h => hG H h.1) ?_ ?_
  · rintro i v H H' hi ⟨s1, hD⟩ hy
    obtain ⟨rfl, x, hx, rfl⟩ := hY _ _ _ _ hy
    have hxm := List.mem_of_getElem? hx
    refine hg x hxm _ _ s1 ⟨hw x hxm, ht x hxm _ _ s1 ?_⟩
    have fs := filt_snoc b hx
    cases eb : b x with
    | false =>
      rw [eb, if_neg (by decide), List.append_nil] at fs
      rw [if_neg (by decide)]
      exact ⟨s1, by rw [fs]; exact hD⟩
    | true =>
      rw [eb, if_pos rfl] at fs
      rw [if_pos rfl]
      refine hk x hxm eb _ _ s1 (he x hxm eb _ _ s1 ⟨_, .inr x, rfl, hD, by rw [List.length_map]; have := take_few zs b i; exact Nat.lt_of_le_of_lt (show _ ≤ 60000 by omega) (by decide), fun c o e => ?_, ?_⟩)
      · rw [upd_ne (ne_of_none e nD)]
        exact s1 _ _ e
      · rw [upd_same, fs, List.map_append, putK_end]
        · rfl
        · rw [List.map_map]
          intro hm
          obtain ⟨y, hy1, hy2⟩ := List.mem_map.mp hm
          have e : y = x := Sum.inr.inj hy2
          subst e
          have hy3 := (List.mem_filter.mp hy1).1
          obtain ⟨j, hj, ej⟩ := List.mem_take_iff_getElem.mp hy3
          have h1 : zs[j]? = some y := by rw [← ej]; exact List.getElem?_eq_getElem _
          have := (List.getElem?_inj (List.getElem?_eq_some_iff.mp h1).1 nd).mp (h1.trans hx.symm)
          omega
  · rintro H' ⟨s1, hD⟩
    rw [← hn, List.take_length] at hD
    exact q H' s1 hD
end
def rDictP (K : PySem.W.Frag) : List V → Hp → VK → Prop := fun xs H Q => ∃ (a : Addr) (ps : List Addr) (kvs : List (Key × V)), xs = [.ref a] ∧ SqL K H a (ps.map V.ref) ∧ Paired (fun p kv => SqT K H p [kV kv.1, kv.2]) ps kvs ∧ ∀ p, H p = none → Q (.ref p) (upd H p (.dK (mergeK [] kvs)))
theorem call_dictPn {X : Cx} (h : X.calm = true) : CallR X (.type "dict") (rDictP X.K) := call_dictP h
def top (i : Nat) : Stmt := PySem.Challenge.pw_keptroutes_k17_texts_that_are_none.main.body.getD i (.Pass ⟨0, 0, 0, 0⟩)
abbrev sCls : Stmt := top 14
abbrev sTab : Stmt := top 18
abbrev sWsh : Stmt := top 20
abbrev sPen : Stmt := top 31
abbrev sP : Stmt := sPen
abbrev sNext : Stmt := top 32
abbrev sN : Stmt := sNext
abbrev sDraw : Stmt := top 33
abbrev sDr : Stmt := sDraw
abbrev sBits : Stmt := top 34
abbrev sB : Stmt := sBits
abbrev sSize : Stmt := top 35
abbrev sS : Stmt := sSize
abbrev sPrefixes : Stmt := top 36
abbrev sX : Stmt := sPrefixes
abbrev sHas : Stmt := top 11
abbrev sH : Stmt := sHas
abbrev sPfx : Stmt := top 12
abbrev sI : Stmt := sPfx
abbrev sWhole : Stmt := top 9
abbrev sWo : Stmt := sWhole
abbrev sWidth : Stmt := top 10
abbrev sV : Stmt := sWidth
abbrev sLines : Stmt := top 37
abbrev sY : Stmt := sLines
/-! ### {**d, k: v} -/
section
variable {P : Program} {w : World} {K' : Type} [DecidableEq K'] {knd : KeyKind P w K'} {A : Around} {E : Value → Shared → Prop} {s : Shared}
theorem put_ok {d : Addr} {kvs : List (K' × Value)} {k : K'} {key v : Value} {Z : Unit → Shared → Prop} (ik : knd.is k key = true) (D : s.heap.DictOf knd d kvs) (few : kvs.length ≤ sizeLine)
    (hZ : ∀ h1, h1.DictOf knd d (stored kvs k v) → Heap.SameBut d s.heap h1 → Z () { s with heap := h1 }) : wpAny (model P w) A (dictPut d (knd.hash k) key v) Z E s := by
  obtain ⟨o, es, ep, at1, cl, da, ke, pr, nd⟩ := D
  have n1 : es.size ≤ sizeLine := by
    have q := pr.length
    rw [Array.length_toList] at q
    omega
  have fi : (es.findIdx? fun e => knd.is k e.key) = kvs.findIdx? fun x => decide (x.1 = k) := by
    rw [← pr.findIdx k]
    cases es
    simp
  unfold dictPut
  refine wpAny_bind (wpAny_dictFind_of ik at1 da ke ?_)
  cases q : es.findIdx? fun e => knd.is k e.key with
  | some j =>
    have st : stored kvs k v = _ := if_pos (any_of_findIdx_some (fi ▸ q))
    refine wpAny_updateDict at1 da (hZ _ ⟨_, _, ep, Heap.get?_update_self _ at1 (Obj.isFreed_of_dict (Obj.data_mapDict da _)), cl.mapDict _, Obj.data_mapDict da _, ke.modify _ _, ?_, ?_⟩ (Heap.SameBut.update ..))
    · rw [st]
      have ql : (es.toList.findIdx? fun e => knd.is k e.key) = some j := by
        rw [← q]
        cases es
        simp
      have z := pr.modify nd ql v
      cases es
      simpa using z
    · rw [st, keys_map_store]
      exact nd
  | none =>
    have no : k ∉ kvs.map (·.1) := not_mem_of_findIdx_none (fi ▸ q)
    have st : stored kvs k v = _ := if_neg (c := (kvs.any fun x => decide (x.1 = k)) = true) (by
      rintro z
      obtain ⟨x, hx, e⟩ := List.any_eq_true.mp z
      exact no (List.mem_map.mpr ⟨x, hx, of_decide_eq_true e⟩))
    refine wpAny_updateDictKeys (hz := n1) at1 da (hZ _ ⟨_, _, ep + 1, Heap.get?_update_self _ at1 (Obj.isFreed_of_dict (Obj.data_mapDictKeys da _)), cl.mapDictKeys _, Obj.data_mapDictKeys da _, ke.push ik _, ?_, ?_⟩ (Heap.SameBut.update ..))
    · rw [st]
      have z := pr.append ik (knd.hash k) v
      cases es
      simpa using z
    · rw [st, List.map_append, List.nodup_append]
      refine ⟨nd, by simp, fun a ha b hb => ?_⟩
      obtain rfl : b = k := by simpa using hb
      exact fun e => no (e ▸ ha)
theorem if_pre {α β γ : Type} {c : Prop} [Decidable c] {x : Sem α} {F : α → Sem β} {rest : Sem γ} {Z : γ → Shared → Prop} (hp : c → ∀ Q : β → Shared → Prop, (∀ b, Q b s) → wpAny (model P w) A (x >>= F) Q E s) (hr : wpAny (model P w) A rest Z E s) :
    wpAny (model P w) A (if c then x >>= fun a => F a >>= fun _ => rest else rest) Z E s := by
  split
  · rename_i hc
    have e : (x >>= fun a => F a >>= fun _ => rest) = (x >>= F) >>= fun _ => rest := by rw [bind_assoc]
    rw [e]
    exact wpAny_bind (hp hc _ fun _ => hr)
  · exact hr
theorem forIn_none {l : List DictEntry} {f : DictEntry → PUnit → Sem (ForInStep PUnit)} (hf : ∀ e ∈ l, ∀ u, f e u = pure (.yield u)) : forIn l PUnit.unit f = pure PUnit.unit := by
  induction l with
  | nil => rfl
  | cons e r ih => rw [List.forIn_cons, hf e List.mem_cons_self, pure_bind]; exact ih fun x hx => hf x (List.mem_cons_of_mem _ hx)
/-- a dict merged into another -/
theorem merge_ok {d o : Addr} {kvs more : List (K' × Value)} {Z : Unit → Shared → Prop} (ne : d ≠ o) (sy : (o == sysModules) = false) (D : s.heap.DictOf knd d kvs) (O : s.heap.DictOf knd o more) (few : kvs.length + more.length ≤ sizeLine)
    (nr : ∀ k v, knd.is k v = true → ∀ a, v ≠ .ref a)
    (hZ : ∀ h1, h1.DictOf knd d (merged kvs more) → Heap.SameBut d s.heap h1 → Z () { s with heap := h1 }) : wpAny (model P w) A (mergeMapping d (.ref o) false) Z E s := by
  obtain ⟨oo, es, ep, at1, cl, da, ke, pr, nd⟩ := id O
  obtain ⟨od, es2, ep2, at2, cl2, da2, ke2, pr2, nd2⟩ := id D
  have hlen : more.length = es.size := by
    rw [← pr.length, Array.length_toList]
  unfold mergeMapping
  refine wpAny_bind (wpAny_isInstance O.typeIs isSubtype_dict_dict ?_)
  rw [if_pos rfl]
  refine wpAny_bind (wpAny_specialOf O.typeIs PySem.F.slot_dict_iter.lookup ?_)
  refine wpAny_bind (wpAny_pure ?_)
  simp only [beq_self_eq_true]
  rw [if_neg (by rw [sy]; exact Bool.false_ne_true)]
  refine wpAny_bind (wpAny_dictEntries at2 da2 ?_)
  refine if_pre (fun _ Q q => ?_) ?_
  · refine wpAny_bind (wpAny_dictEntries at1 da ?_)
    rw [← Array.forIn_toList, forIn_none fun e he u => ?_]
    · exact wpAny_pure (q _)
    · obtain ⟨k', ik, _⟩ := ke e (by simpa using he)
      split
      · rename_i a ha
        exact absurd ha (nr _ _ ik a)
      · rfl
  refine wpAny_bind (wpAny_dictEntries at1 da (wpAny_bind (wpAny_dictEpoch at1 da (wpAny_bind ?_))))
  refine wpAny_forIn_list _ (fun rest _ r => ∃ h1 i, r = { s with heap := h1 } ∧ rest = List.range' i (es.size - i) ∧ i ≤ es.size ∧ h1.DictOf knd d (merged kvs (more.take i)) ∧ h1.get? o = some oo ∧ Heap.SameBut d s.heap h1) _ ?_ ?_ _ _ ⟨s.heap, 0, rfl, by rw [List.range_eq_range', Nat.sub_zero], Nat.zero_le _, by simpa [merged] using D, at1, Heap.SameBut.refl _ _⟩
  · rintro x rest u r ⟨h1, i, rfl, er, hi, D1, a1, sb⟩
    have lt : i < es.size := by
      rcases Nat.lt_or_ge i es.size with q | q
      · exact q
      · rw [Nat.sub_eq_zero_of_le q] at er
        cases er
    obtain ⟨rfl, er2⟩ : x = i ∧ rest = List.range' (i + 1) (es.size - (i + 1)) := by
      rw [show es.size - i = (es.size - (i + 1)) + 1 by omega, List.range'_succ] at er
      exact List.cons.inj er
    refine wpAny_bind (wpAny_dictEntries a1 da ?_)
    rw [Array.getElem?_eq_getElem lt]
    have lt2 : x < more.length := by rw [hlen]; exact lt
    obtain ⟨⟨k0, v0⟩, hkv⟩ : ∃ y, more[x]? = some y := ⟨_, List.getElem?_eq_getElem lt2⟩
    obtain ⟨ik, iv⟩ := pr.get? (e := es[x]) (by simp [lt]) hkv
    obtain ⟨k', ik2, hh⟩ := ke es[x] (Array.getElem_mem lt)
    obtain rfl : k' = k0 := knd.inj _ _ _ ik2 ik
    show wpAny _ _ (holding [es[x].key, es[x].val] (if false = true then _ else dictPut d es[x].hash es[x].key es[x].val) >>= _) _ _ _
    rw [if_neg Bool.false_ne_true, hh, iv]
    have few2 : (merged kvs (more.take x)).length ≤ sizeLine := by
      have e1 := merged_length_le kvs (more.take x)
      rw [List.length_take] at e1
      omega
    refine wpAny_bind (wpAny_holding (put_ok ik D1 few2 fun h2 D2 sb2 => ?_))
    have a2 : h2.get? o = some oo := (sb2.2 o (Ne.symm ne)).trans a1
    refine wpAny_bind (wpAny_dictEpoch a2 da ?_)
    rw [if_neg (by simp)]
    exact wpAny_pure ⟨h2, x + 1, rfl, er2, lt, by rw [merged_take_succ kvs more x (k', v0) hkv]; exact D2, a2, sb.trans sb2⟩
  · rintro u r ⟨h1, i, rfl, er, hi, D1, a1, sb⟩
    obtain rfl : i = es.size := by
      rcases Nat.lt_or_ge i es.size with q | q
      · rw [show es.size - i = (es.size - (i + 1)) + 1 by omega, List.range'_succ] at er
        cases er
      · omega
    rw [← hlen, List.take_length] at D1
    exact wpAny_pure (hZ h1 D1 sb)
end
section
variable {X : Cx} {o ke ve : Expr} {pos : Pos} {td tk tv : TE}
theorem key_noref {P : Program} {w : World} {k : Key} {v : Value} (h : (mixKind P w).is k v = true) (a : Addr) : v ≠ .ref a := by
  rcases keyIs_shape h with ⟨i, t, rfl, rfl⟩ | ⟨x, t, rfl, rfl⟩
  · exact fun e => nomatch e
  · exact fun e => nomatch e
/-- a dict of the heap merged into another -/
theorem mergeH {pins : List (Addr × Obj)} {σ : L2.St} {H : Hp} {s : Shared} {A : Around} {E : Value → Shared → Prop} {p a : Addr} {kvs more : List (Key × V)} {Z : Unit → Shared → Prop} (I : Inv X pins σ H s) (hp : H p = some (.dK kvs)) (ha : Rd H a (.dK more)) (ne : p ≠ a) (few : kvs.length + more.length ≤ 2000)
    (hZ : ∀ s', Inv X pins σ (upd H p (.dK (mergeK kvs more))) s' → Z () s') : wpAny (model X.prog X.w) A (mergeMapping p (.ref a) false) Z E s := by
  obtain ⟨z1, sy1, vs, rel, D⟩ := dk_of I.hok hp
  obtain ⟨z2, sy2, rs, rel2, O⟩ := dk_rd I.hok ha
  refine merge_ok ne sy2 D O (by rw [← rel.length, ← rel2.length]; exact Nat.le_trans few (by decide)) (fun k v h a => key_noref h a) fun h1 D1 sb => hZ _ ?_
  have he : ∃ q, h1.get? p = some q := let ⟨q, _, _, hq, _⟩ := D1; ⟨q, hq⟩
  have len := length_mergeK more kvs
  exact d_write (t' := s.toks) I (by rw [hp]; exact True.intro) sb he (dk_new (Nat.le_trans (show (mergeK kvs more).length ≤ 2000 by omega) (by decide)) sy1 (KV.merge rel2 rel) D1)
def tDSt (td tk tv : TE) : TE := fun σ H Q => ∀ p, H p = none → td σ (upd H p (.dK [])) fun x H1 => ∃ (a : Addr) (kvs : List (Key × V)), x = .ref a ∧ Rd H1 a (.dK kvs) ∧ a ≠ p ∧ H1 p = some (.dK []) ∧ (kvs.map (·.1)).Nodup ∧ kvs.length < 1000 ∧ ∀ q, (upd H1 p (.dK kvs)) q = none →
  tk σ (upd (upd H1 p (.dK kvs)) q (.dK [])) fun y H2 => tv σ H2 fun z H3 => ∃ k, y = kV k ∧ H3 p = some (.dK kvs) ∧ H3 q = some (.dK []) ∧ Q (.ref p) (upd (upd H3 q (.dK [(k, z)])) p (.dK (putK kvs k z)))
theorem pe_dst (ho : PE X o td) (hk : PE X ke tk) (hv : PE X ve tv) : PE X (.Dict [none, some ke] [o, ve] pos) (tDSt td tk tv) := by
  refine ⟨fun pins s σ H Q I h => ?_⟩
  rw [arm_eval_Dict]
  refine wpAny_bind (wpAny_standAt ?_)
  show wpAny _ _ (dictDisplay [(none, (eval o X.env >>= fun x => standAt pos >>= fun _ => pure x)), (some (eval ke X.env), (eval ve X.env >>= fun x => standAt pos >>= fun _ => pure x))]) _ _ _
  unfold dictDisplay
  simp only [List.forIn_cons, List.forIn_nil, List.isEmpty_nil, if_true, pure_bind, bind_assoc, List.nil_append, List.length_cons, List.length_nil, Nat.zero_add, Nat.reduceBEq, Bool.false_eq_true, if_false, List.isEmpty_cons]
  refine wpAny_bind (wpAny_alloc ?_)
  have hn : H s.heap.objs.size = none := I.hok.fresh (Nat.le_refl _)
  have I1 := I.laid (a := s.heap.objs.size) (o := .dK []) (h' := s.heap.push { cls := .type "dict", data := .dict #[] }) (t' := s.toks) (fun _ _ q => Heap.get?_push_of_some _ q) (Nat.le_refl _) (dk_empty s.heap I.big)
  refine wpAny_bind (wpAny_holding (wpAny_bind (thn (ho.run pins _ σ _ _ I1 (h _ hn)) fun u s2 ⟨x, H1, I2, rx, a, kvs, ex, ha, nap, hp, nd, few, q⟩ => wpAny_bind (wpAny_standAt (wpAny_pure ?_)))))
  subst ex
  obtain rfl : u = Value.ref a := rx
  refine wpAny_bind (wpAny_onRaise (wpAny_tryCatch (wpAny_onRaise (wpAny_holding (mergeH I2 hp ha nap.symm (by show 0 + kvs.length ≤ 2000; omega) fun s3 I3 => ?_)))))
  rw [mergeK_nd kvs [] (by rw [List.nil_append]; exact nd), List.nil_append] at I3
  have nq : (upd H1 s.heap.objs.size (.dK kvs)) s3.heap.objs.size = none := I3.hok.fresh (Nat.le_refl _)
  have npq : s.heap.objs.size ≠ s3.heap.objs.size := ne_of_none upd_same nq
  have I4 := I3.laid (a := s3.heap.objs.size) (o := .dK []) (h' := s3.heap.push { cls := .type "dict", data := .dict #[] }) (t' := s3.toks) (fun _ _ q => Heap.get?_push_of_some _ q) (Nat.le_refl _) (dk_empty s3.heap I3.big)
  refine wpAny_bind (wpAny_holding (wpAny_subDict (knd := mixKind X.prog X.w) (show 1 ≤ 15 by decide) (evalPairs_cons (thn (hk.run pins _ σ _ _ I4 (q _ nq)) fun ku s4 ⟨y, H2, I5, ry, q2⟩ => wpAny_bind (thn (hv.run pins _ σ H2 _ I5 q2) fun vu s5 ⟨z, H3, I6, rz, k, ey, hp3, hq3, q3⟩ => wpAny_bind (wpAny_standAt (wpAny_pure (evalPairs_nil ?_))))))))
  subst ey
  obtain ⟨zq, syq, vs, rel, D⟩ := dk_of I6.hok hq3
  obtain rfl : vs = [] := List.length_eq_zero_iff.mp (by rw [← rel.length]; rfl)
  refine ⟨[(k, vu)], ⟨kV_is ry, rfl, trivial⟩, D, fun h6 D6 sb6 => ?_⟩
  have he : ∃ q, h6.get? s3.heap.objs.size = some q := let ⟨q, _, _, hq, _⟩ := D6; ⟨q, hq⟩
  have I7 := d_write (t' := s5.toks + [(ku, vu)].length) (ob := .dK [(k, z)]) I6 (by rw [hq3]; exact True.intro) sb6 he (dk_new (by show 1 ≤ sizeLine; decide) syq (show KV (putK [] k z) (stored [] k vu) from rel.put k rz) D6)
  exact wpAny_bind (wpAny_onRaise (wpAny_holding (mergeH I7 (by rw [upd_ne npq]; exact hp3) (.inl upd_same) npq (by show kvs.length + 1 ≤ 2000; omega) fun s8 I8 => wpAny_pure ⟨.ref s.heap.objs.size, _, I8, rfl, q3⟩)))
end
/-! ### cls(a, ..): a class that a name of the def holds -/
def tMakeL (i : Nat) (C : Addr) (sp : Sp) (t : TA) : TE := fun σ H Q => σ[i]? = some (some (.ref C)) ∧ tMake C sp [] E0 t σ H Q
section
variable {X : Cx} {k i : Nat} {f C : Addr} {fd : FuncData} {ps : List Str} {sp : Sp} {x : Str} {p pos : Pos} {e : Expr} {es : List Expr} {t : TA}
theorem pe_makeL (M : Mk X.K C f) (F : FnOk X.prog X.w X.K X.mg X.base CX0 k f fd ps sp) (hr : Room (k + 1) X.A) (hN : X.N[i]? = some x) (hv : Vis X.env.scope x) (hb : Binds X.K fd ps []) (ha : PA X (e :: es) t)
    (hdb : (x == ("__debug__" : Str)) = false := by decide) (hcd : (x == ("__classdict__" : Str)) = false := by decide) (he : starEach (e :: es) X.env = (false, eval e X.env) :: starEach es X.env := by rfl) (hpl : (backTo pos (starEach es X.env)).any (·.1) = false := by rfl) :
    PE X (.Call (.Name x p) (e :: es) [] pos) (tMakeL i C sp t) := by
  refine ⟨fun pins s σ H Q I h => ?_⟩
  obtain ⟨hs, ht⟩ := h
  refine wpAny_Call_Name_kw (thn ((pe_var (pos := p) hN hv hdb hcd).run pins s σ H (fun v H1 => v = .ref C ∧ H1 = H) I ⟨.ref C, hs, rfl, rfl⟩) fun u s1 ⟨v, H1, I1, r1, q1⟩ => ?_)
  obtain ⟨rfl, rfl⟩ := q1
  cases r1
  exact PySem.W.callWith_K (h₀ := X.base) I1.ok.mod.kin M.kp (thn (ha.run pos pins s1 σ _ _ I1 ht) fun us s2 ⟨vs, H2, I2, r, q⟩ => ⟨I2.kIn, run_make M F hr hb .nil pass0 I2 r q⟩) he hpl
end
section
variable {P : Program} {w : World} {K : PySem.W.Frag} {mg : Str → Option Value} {base : Heap}
theorem scPen : FnScope ["script"] ["script"] (defScope sPen) := ⟨rfl, rfl, rfl, by decide +kernel, rfl, by decide +kernel, by decide +kernel⟩
theorem ok_pen {f : Addr} {fd : FuncData} {k : Nat} (F : Fun K "_law_pen" "_law_pen" sPen f fd) (ml : mg "list" = none) : FnOk P w K mg base CX0 (k + 1) f fd ["script"] (spPen K) := by
  refine F.ok scPen (fun vs H Q E h => ?_) (fun cdv A outer s H vs Q E hr h => ?_)
  · obtain ⟨a, ns, rfl, _⟩ := h
    rfl
  · obtain ⟨a, ns, rfl, hS, hlen, q⟩ := h
    refine ⟨_, pss_one (ps_ret (pe_lst (pa_cons (pe_callTy call_list_of (by rfl) ml (by decide +kernel) (pa_cons (pe_slice sl_list (pv 0) po_none (po_some pe_int)) pa_nil)) (pa_cons pe_int (pa_cons pe_int pa_nil))))), ?_⟩
    obtain ⟨ms, em, hm⟩ := cut60 ns
    refine ⟨.ref a, rfl, 60, rfl, a, ns.map V.int, rfl, hS, fun b nb => ?_⟩
    rw [em]
    refine ⟨b, _, rfl, .inl (.inl (.inl upd_same)), fun c nc => ?_⟩
    refine ⟨by show 3 ≤ sizeLine; decide, fun p np => ?_⟩
    have s1 : Same H (upd H b (.lst (ms.map V.int))) := same_upd nb
    have s2 := same_upd (o := .lst (ms.map V.int)) nc
    have s3 := same_upd (o := penL c 0 0 []) np
    have nf : H p = none := (s1.trans s2).free np
    refine q _ p c (s1.trans (s2.trans s3)) nf (s1.free nc) ⟨ms, 0, 0, upd_same, ?_, hm, Int.le_refl _, Int.le_refl _, Int.le_refl _⟩
    exact s3 _ _ upd_same
theorem scNext : FnScope ["pen", "index", "cell", "low", "mid", "top"] ["pen"] (defScope sNext) := ⟨rfl, rfl, rfl, by decide +kernel, rfl, by decide +kernel, by decide +kernel⟩
theorem ok_next {f : Addr} {fd : FuncData} {k : Nat} (F : Fun K "_law_next" "_law_next" sNext f fd) (ml : mg "len" = none) : FnOk P w K mg base CX0 (k + 1) f fd ["pen"] spNext := by
  refine F.ok scNext (fun vs H Q E h => ?_) (fun cdv A outer s H vs Q E hr h => ?_)
  · obtain ⟨p, n, m, c, ns, i, z, rfl, _⟩ := h
    rfl
  · obtain ⟨p, n, m, c, ns, i, z, rfl, hp, hn, q⟩ := h
    have nd := scNext.nd
    have hu := hr.units
    refine ⟨_, pss_cons (ps_set (i := 1) nd rfl (.inl rfl) (pe_ix ix_list (pv 0) pe_int (fun _ _ => rfl)))
      (pss_cons (ps_asg (pe_op op_add (pv 1) pe_int) (pg_sub (pv 0) pe_int set_list))
      (pss_cons (ps_set (i := 2) nd rfl (.inl rfl) (pe_op op_add (pe_op op_mul (pv 1) pe_int) pe_int))
      (C8.pss_cut (ps_if (pt_cmpR (op_neD hu) (pe_ix ix_list (pv 0) pe_int (fun _ _ => rfl)) (pe_lst pa_nil) (nomark _))
        (pss_one (ps_set (i := 2) nd rfl (.inl rfl) (pe_ix ix_list (pe_ix ix_list (pv 0) pe_int (fun _ _ => rfl))
          (pe_op op_mod (pv 1) (pe_callB call_len_seq (by rfl) ml PySem.boot_len (pa_cons (pe_ix ix_list (pv 0) pe_int (fun _ _ => rfl)) pa_nil))) (fun _ _ => rfl)))) pss_nil)
      (C8.pss_cut (ps_if (PW.pt (pw_and (pt_cmpR op_lt (pv 1) (pe_callB call_len_seq (by rfl) ml PySem.boot_len (pa_cons (pe_ix ix_list (pv 0) pe_int (fun _ _ => rfl)) pa_nil)) (nomark _))
          (pw_and1 (pt_cmpR op_ge (pv 2) (pe_op op_pow pe_int pe_int) (nomark _)))))
        (pss_one (ps_ret (pv 2))) pss_nil)
      (C8.pss_cut (ps_set (i := 3) nd rfl (.inl rfl) (pe_op op_mod (pe_op op_add (pe_op op_add (pe_op op_mod (pv 2) pe_int) (pe_op op_mul (pv 1) pe_int)) pe_int) pe_int))
      (C8.pss_cut (ps_set (i := 4) nd rfl (.inl rfl) (pe_op op_mod (pe_op op_add (pe_op op_add (pe_op op_mul (pv 3) (pv 3)) (pe_op op_mul (pv 1) pe_int)) pe_int) pe_int))
      (C8.pss_cut (ps_set (i := 5) nd rfl (.inl rfl) (pe_op op_mod (pe_op op_add (pe_op op_add (pe_op op_mul (pv 4) (pv 4)) (pv 3)) (pe_op op_mul (pe_op op_mul (pv 1) (pv 1)) pe_int)) pe_int))
      (pss_one (ps_ret (pe_op op_add (pe_op op_mul (pe_op op_add (pe_op op_mul (pv 5) pe_int) (pv 4)) pe_int) (pv 3)))))))))))  , ?_⟩
    have hpL : H p = some (.lst (.ref c :: .int i :: .int z :: m)) := hp.at_
    have ncp : c ≠ p := hp.ne
    -- index = pen[1]; pen[1] = index + 1
    refine ⟨.ref p, rfl, p, _, 1, .int i, rfl, rfl, SqL.of hpL, atI_nat (j := 1) rfl, ?_⟩
    refine ⟨.int i, rfl, i, 1, rfl, rfl, .ref p, rfl, p, _, 1, 1, rfl, rfl, hpL, ix1, ?_⟩
    have e1 : (V.ref c :: .int i :: .int z :: m).set 1 (.int (i + 1)) = .ref c :: .int (i + 1) :: .int z :: m := rfl
    rw [e1]
    generalize hH : upd H p (.lst (.ref c :: .int (i + 1) :: .int z :: m)) = H1
    have h1 : H1 p = some (.lst (.ref c :: .int (i + 1) :: .int z :: m)) := by rw [← hH, upd_same]
    have hc1 : H1 c = some (.lst (ns.map V.int)) := by rw [← hH, upd_ne ncp]; exact hp.cells
    have b1 : But p H H1 := by rw [← hH]; exact But.upd
    -- cell = index * 1049 + 29
    refine ⟨.int i, rfl, _, _, rfl, rfl, .inr ⟨by decide, by decide⟩, _, _, rfl, rfl, ?_⟩
    have hi0 := hp.i0
    have hi1 := hp.i1
    have hnB : n ≤ 1000000000000 := hn
    -- pen[0] != []
    refine ⟨fun σ H2 => ∃ cell : Int, σ = [some (.ref p), some (.int i), some (.int cell), none, none, none] ∧ H2 p = some (.lst (.ref c :: .int (i + 1) :: .int z :: m)) ∧ H2 c = some (.lst (ns.map V.int)) ∧ But p H H2, ?_, ?_⟩
    · refine ⟨.ref p, rfl, p, _, 0, .ref c, rfl, rfl, SqL.of h1, atI_nat (j := 0) rfl, Nat.zero_le _, fun e ne => ?_⟩
      have s2 : Same H1 (upd H1 e (.lst [])) := same_upd ne
      have hp2 : (upd H1 e (.lst [])) p = some (.lst (.ref c :: .int (i + 1) :: .int z :: m)) := s2 _ _ h1
      have hc2 : (upd H1 e (.lst [])) c = some (.lst (ns.map V.int)) := s2 _ _ hc1
      have b2 : But p H (upd H1 e (.lst [])) := b1.trans (.of_same s2)
      refine ⟨.list (ns.map PyData.int), .list [], .lst (SqL.of hc2) (dpAll_ints ns), .lst (SqL.of upd_same) .nil, PySem.W.ke_shaped_ints ns, rfl, _, rfl, ?_⟩
      rw [eqv_nil]
      by_cases hz : ns = []
      · rw [decide_eq_true hz]
        refine iteF ?_
        exact ⟨_, rfl, hp2, hc2, b2⟩
      · rw [decide_eq_false hz]
        refine iteT ?_
        have hl : 0 < ns.length := List.length_pos_iff.mpr hz
        have hlt : (i % (ns.length : Int)).toNat < ns.length := by
          have h1 := Int.emod_nonneg i (show (ns.length : Int) ≠ 0 by omega)
          have h2 := Int.emod_lt_of_pos i (show (0 : Int) < ns.length by omega)
          omega
        have hnn := Int.emod_nonneg i (show (ns.length : Int) ≠ 0 by omega)
        have g : atI (ns.map V.int) (i % (((ns.map V.int).length : Nat) : Int)) = some (.int ns[(i % (ns.length : Int)).toNat]) := by
          rw [List.length_map]
          refine at_of (j := (i % (ns.length : Int)).toNat) (by omega) ?_
          rw [List.getElem?_map, List.getElem?_eq_getElem hlt]
          rfl
        refine ⟨.ref p, rfl, p, _, 0, .ref c, rfl, rfl, SqL.of hp2, atI_nat (j := 0) rfl, .int i, rfl, .ref p, rfl, p, _, 0, .ref c, rfl, rfl, SqL.of hp2, atI_nat (j := 0) rfl,
          c, _, rfl, .inl (SqL.of hc2), _, _, rfl, rfl, by rw [List.length_map]; omega, c, _, _, _, rfl, rfl, SqL.of hc2, g, ?_⟩
        exact ⟨_, rfl, hp2, hc2, b2⟩
    · rintro σ H2 ⟨cell, rfl, hp2, hc2, b2⟩
      have fin : ∀ x : Int, 0 ≤ x → Q (.int x) H2 := fun x hx => q x H2 hx b2 (hp.but b2 hp2 (by omega) (by omega) hp.s0)
      have m1 := Int.emod_nonneg (cell % 2147483587 + i * 70061 + 53) (show (2147483587 : Int) ≠ 0 by decide)
      have m2 := Int.emod_lt_of_pos (cell % 2147483587 + i * 70061 + 53) (show (0 : Int) < 2147483587 by decide)
      have M0 : (2147483587 : Int) ≠ 0 := by decide
      have M1 : (0 : Int) < 2147483587 := by decide
      have M2 : (0 : Int) < 2147483563 := by decide
      have M3 : (0 : Int) < 2147483549 := by decide
      refine ⟨fun σ' H' => σ' = [some (.ref p), some (.int i), some (.int cell), none, none, none] ∧ H' = H2, ?_, ?_⟩
      · refine ⟨.int i, rfl, .ref p, rfl, p, _, 0, .ref c, rfl, rfl, SqL.of hp2, atI_nat (j := 0) rfl, c, _, rfl, .inl (SqL.of hc2), _, _, rfl, rfl, _, rfl, ?_⟩
        refine ite2 (fun _ => ?_) (fun _ => iteF ⟨rfl, rfl⟩)
        refine ⟨.int cell, rfl, _, _, rfl, rfl, ⟨by decide, by decide, by decide⟩, _, _, rfl, rfl, _, rfl, ?_⟩
        refine ite2 (fun hc => ?_) (fun _ => ⟨rfl, rfl⟩)
        have hc' : (10 : Int) ^ 18 ≤ cell := of_decide_eq_true hc
        exact ⟨.int cell, rfl, fin cell (by omega)⟩
      · rintro σ' H' ⟨rfl, rfl⟩
        refine ⟨fun σ' Ha => Ha = H' ∧ ∃ low : Int, 0 ≤ low ∧ low < 2147483587 ∧ σ' = [some (.ref p), some (.int i), some (.int cell), some (.int low), none, none], ?_, ?_⟩
        · refine ⟨.int cell, rfl, _, _, rfl, rfl, M1, .int i, rfl, _, _, rfl, rfl, .inr ⟨by decide, by decide⟩, _, _, rfl, rfl, _, _, rfl, rfl, _, _, rfl, rfl, M1, ?_⟩
          exact ⟨rfl, _, Int.emod_nonneg _ M0, Int.emod_lt_of_pos _ M1, rfl⟩
        rintro σ' Hb ⟨rfl, low, l1, l2, rfl⟩
        refine ⟨fun σ' Ha => Ha = Hb ∧ ∃ mid : Int, 0 ≤ mid ∧ mid < 2147483563 ∧ σ' = [some (.ref p), some (.int i), some (.int cell), some (.int low), some (.int mid), none], ?_, ?_⟩
        · refine ⟨.int low, rfl, .int low, rfl, _, _, rfl, rfl, .inl ⟨by omega, by omega⟩, .int i, rfl, _, _, rfl, rfl, .inr ⟨by decide, by decide⟩, _, _, rfl, rfl, _, _, rfl, rfl, _, _, rfl, rfl, M2, ?_⟩
          exact ⟨rfl, _, Int.emod_nonneg _ (by decide), Int.emod_lt_of_pos _ M2, rfl⟩
        rintro σ' Hc ⟨rfl, mid, d1, d2, rfl⟩
        refine ⟨fun σ' Ha => Ha = Hc ∧ ∃ tp : Int, 0 ≤ tp ∧ σ' = [some (.ref p), some (.int i), some (.int cell), some (.int low), some (.int mid), some (.int tp)], ?_, ?_⟩
        · refine ⟨.int mid, rfl, .int mid, rfl, _, _, rfl, rfl, .inl ⟨by omega, by omega⟩, .int low, rfl, _, _, rfl, rfl, .int i, rfl, .int i, rfl, _, _, rfl, rfl, .inl ⟨by omega, by omega⟩, _, _, rfl, rfl, .inr ⟨by decide, by decide⟩, _, _, rfl, rfl, _, _, rfl, rfl, M3, ?_⟩
          exact ⟨rfl, _, Int.emod_nonneg _ (by decide), rfl⟩
        rintro σ' H3 ⟨rfl, tp, t1, rfl⟩
        refine ⟨.int tp, rfl, _, _, rfl, rfl, .inr ⟨by decide, by decide⟩, .int mid, rfl, _, _, rfl, rfl, _, _, rfl, rfl, .inr ⟨by decide, by decide⟩, .int low, rfl, _, _, rfl, rfl, ?_⟩
        exact fin _ (by show 0 ≤ (tp * 2147483587 + mid) * 2147483563 + low; omega)
theorem scDraw : FnScope ["pen", "below", "digit"] ["pen", "below"] (defScope sDraw) := ⟨rfl, rfl, rfl, by decide +kernel, rfl, by decide +kernel, by decide +kernel⟩
theorem ok_draw {f fN : Addr} {fd fdN : FuncData} {k : Nat} (F : Fun K "_law_draw" "_law_draw" sDraw f fd) (FN : Fun K "_law_next" "_law_next" sNext fN fdN) (bN : Binds K fdN ["pen"] []) (gN : mg "_law_next" = some (.ref fN)) (ml : mg "len" = none) :
    FnOk P w K mg base CX0 (k + 2) f fd ["pen", "below"] spDraw := by
  have GN : FnOk P w K mg base CX0 (k + 1) fN fdN ["pen"] spNext := ok_next FN ml
  refine F.ok scDraw (fun vs H Q E h => ?_) (fun cdv A outer s H vs Q E hr h => ?_)
  · obtain ⟨p, c, n, m, below, rfl, _⟩ := h
    rfl
  · obtain ⟨p, c, n, m, below, rfl, ⟨ns, i, z, hp⟩, hn, hb0, hb1, q⟩ := h
    have nd := scDraw.nd
    refine ⟨_, C8.pss_cut (ps_if (pt_cmpR op_lt (pe_ix ix_list (pv 0) pe_int (fun _ _ => rfl)) (pv 1) (nomark _))
        (pss_one (ps_asg (pe_call GN hr (by rfl) gN FN.kp bN .nil pass0 (pa_cons (pv 0) pa_nil)) (pg_sub (pv 0) pe_int set_list))) pss_nil)
      (pss_cons (ps_set (i := 2) nd rfl (.inl rfl) (pe_op op_mod (pe_ix ix_list (pv 0) pe_int (fun _ _ => rfl)) (pv 1)))
      (pss_cons (ps_asg (pe_op op_fdiv (pe_ix ix_list (pv 0) pe_int (fun _ _ => rfl)) (pv 1)) (pg_sub (pv 0) pe_int set_list))
      (pss_one (ps_ret (pv 2))))), ?_⟩
    refine ⟨fun σ H2 => σ = [some (.ref p), some (.int below), none] ∧ But p H H2 ∧ ∃ i z, PenAt H2 p (n + 1) m c ns i z, ?_, ?_⟩
    · refine ⟨.ref p, rfl, p, _, 2, .int z, rfl, rfl, SqL.of hp.at_, atI_nat (j := 2) rfl, .int below, rfl, _, _, rfl, rfl, _, rfl, ?_⟩
      refine ite2 (fun _ => ?_) (fun _ => ⟨rfl, .refl _ _, i, z, hp.mono (Nat.le_succ _)⟩)
      refine ⟨.ref p, rfl, p, n, m, c, ns, i, z, rfl, hp, hn, fun x H1 hx b1 hp1 => ?_⟩
      refine ⟨.ref p, rfl, p, _, 2, 2, rfl, rfl, hp1.at_, ix2, ?_⟩
      exact ⟨rfl, b1.trans .upd, i + 1, x, hp1.next hp1.i0 hp1.i1 hx⟩
    · rintro σ H2 ⟨rfl, b2, i', z', hp2⟩
      refine ⟨.ref p, rfl, p, _, 2, .int z', rfl, rfl, SqL.of hp2.at_, atI_nat (j := 2) rfl, .int below, rfl, _, _, rfl, rfl, hb0, ?_⟩
      refine ⟨.ref p, rfl, p, _, 2, .int z', rfl, rfl, SqL.of hp2.at_, atI_nat (j := 2) rfl, .int below, rfl, _, _, rfl, rfl, ⟨hb0, hb1⟩, .ref p, rfl, p, _, 2, 2, rfl, rfl, hp2.at_, ix2, ?_⟩
      refine ⟨_, rfl, q _ _ (Int.emod_nonneg _ (by omega)) (Int.emod_lt_of_pos _ hb0) (b2.trans .upd) ⟨ns, i', z' / below, hp2.next hp2.i0 hp2.i1 (Int.ediv_nonneg hp2.s0 (by omega))⟩⟩
end
/-! ### has_only, is_prefix -/
def spHas : Sp := fun vs H Q _ => ∃ x y : Str, vs = [.str x, .str y] ∧ x.length ≤ sizeLine ∧ Q (.bl (onlyOf y x)) H
def spPfx (K : PySem.W.Frag) : Sp := fun vs H Q _ => ∃ (v : V) (w : Int), vs = [v, .int w] ∧ TyS K H v ∧ (∀ x, v = .str x → x.length ≤ sizeLine) ∧ Q (.bl (isPfx v w)) H
section
variable {P : Program} {w : World} {K : PySem.W.Frag} {mg : Str → Option Value} {base : Heap}
theorem scHas : FnScope ["text", "signs"] ["text", "signs"] (defScope sHas) := ⟨rfl, rfl, rfl, by decide +kernel, rfl, by decide +kernel, by decide +kernel⟩
theorem ok_has {f : Addr} {fd : FuncData} {k : Nat} (F : Fun K "has_only" "has_only" sHas f fd) : FnOk P w K mg base CX0 (k + 1) f fd ["text", "signs"] spHas := by
  refine F.ok scHas (fun vs H Q E h => ?_) (fun cdv A outer s H vs Q E hr h => ?_)
  · obtain ⟨x, y, rfl, _⟩ := h
    rfl
  · obtain ⟨x, y, rfl, hl, q⟩ := h
    refine ⟨_, pss_one (ps_ret (pe_cmpR op_eq (pe_bm PySem.F.plainAttrs_str PySem.F.slot_str_lstrip PySem.F.type_str_lstrip mt_lstripChars (pv 0) (pa_cons (pv 1) pa_nil)) pe_str (nomark _))), ?_⟩
    refine ⟨.str x, rfl, rfl, .str y, rfl, x, y, rfl, rfl, hl, rfl, ?_⟩
    show Q (.bl (decide (V.str (Txt.lstripChars x y) = V.str ""))) H
    rw [lstrip_empty]
    exact q
theorem scPfx : FnScope ["thing", "width"] ["thing", "width"] (defScope sPfx) := ⟨rfl, rfl, rfl, by decide +kernel, rfl, by decide +kernel, by decide +kernel⟩
theorem ok_pfx {f fH : Addr} {fd fdH : FuncData} {k : Nat} (F : Fun K "is_prefix" "is_prefix" sPfx f fd) (FH : Fun K "has_only" "has_only" sHas fH fdH) (bH : Binds K fdH ["text", "signs"] []) (gH : mg "has_only" = some (.ref fH))
    (mi : mg "isinstance" = none) (ms : mg "str" = none) (ml : mg "len" = none) : FnOk P w K mg base CX0 (k + 2) f fd ["thing", "width"] (spPfx K) := by
  have GH : FnOk P w K mg base CX0 (k + 1) fH fdH ["text", "signs"] spHas := ok_has FH
  refine F.ok scPfx (fun vs H Q E h => ?_) (fun cdv A outer s H vs Q E hr h => ?_)
  · obtain ⟨v, w, rfl, _⟩ := h
    rfl
  · obtain ⟨v, w, rfl, ⟨t, ty, kt⟩, hl, q⟩ := h
    refine ⟨_, pss_one (ps_ret (pe_and (pe_callB call_isi (by rfl) mi (by decide +kernel) (pa_cons (pv 0) (pa_cons (pe_bltn (v := .ty "str") (by rfl) ms (by decide +kernel) rfl) pa_nil)))
      (pe_and (pe_cmpR op_le (pe_callB call_len_str (by rfl) ml PySem.boot_len (pa_cons (pv 0) pa_nil)) (pv 1) (nomark _))
        (pe_one (pe_call GH hr (by rfl) gH FH.kp bH .nil pass0 (pa_cons (pv 0) (pa_cons pe_str pa_nil))))))), ?_⟩
    refine ⟨v, rfl, v, .ty "str", .type t, .type "str", _, rfl, .ty _, ty, kt, _, rfl, ?_⟩
    cases v with
    | str x =>
      refine iteT ?_
      have hx := hl x rfl
      refine ⟨.str x, rfl, x, rfl, hx, .int w, rfl, _, _, rfl, rfl, _, rfl, ?_⟩
      by_cases hw : (x.length : Int) ≤ w
      · rw [decide_eq_true hw]
        refine iteT ⟨.str x, rfl, x, _, rfl, hx, ?_⟩
        have e : isPfx (.str x) w = isBits x := by
          show (decide ((x.length : Int) ≤ w) && isBits x) = isBits x
          rw [decide_eq_true hw, Bool.true_and]
        rw [e] at q
        exact q
      · rw [decide_eq_false hw]
        refine iteF ?_
        have e : isPfx (.str x) w = false := by
          show (decide ((x.length : Int) ≤ w) && isBits x) = false
          rw [decide_eq_false hw, Bool.false_and]
        rw [e] at q
        exact q
    | _ => exact iteF q
end
section
variable {P : Program} {w : World} {K : PySem.W.Frag} {mg : Str → Option Value} {base : Heap}
theorem scBits : FnScope ["pen", "size", "turn"] ["pen", "size"] (defScope sBits) := ⟨rfl, rfl, rfl, by decide +kernel, rfl, by decide +kernel, by decide +kernel⟩
theorem ok_bits {f fD : Addr} {fd fdD : FuncData} {k : Nat} (F : Fun K "_law_bits" "_law_bits" sBits f fd) (GD : FnOk P w K mg base CX0 k fD fdD ["pen", "below"] spDraw) (FD : Fun K "_law_draw" "_law_draw" sDraw fD fdD) (bD : Binds K fdD ["pen", "below"] []) (gD : mg "_law_draw" = some (.ref fD))
    (mr : mg "range" = none) : FnOk P w K mg base CX0 (k + 1) f fd ["pen", "size"] spBits := by
  refine F.ok scBits (fun vs H Q E h => ?_) (fun cdv A outer s H vs Q E hr h => ?_)
  · obtain ⟨p, c, n, z, m, rfl, _⟩ := h
    rfl
  · obtain ⟨p, c, n, z, m, rfl, hp, hn, hz, q⟩ := h
    have nd := scBits.nd
    have hnB : n + 100 ≤ 1000000000000 := hn
    refine ⟨_, pss_one (ps_ret (pe_join pe_str (pe_lc (own := [("turn", 2)]) (g := gName 2) (tt := tYes) rfl nd
      (pi_range1 (by rfl) mr (pa_cons (pe_call GD hr (by rfl) gD FD.kp bD .nil pass0 (pa_cons (pv 0) (pa_cons (pe_op op_add (pv 1) pe_int) pa_nil))) pa_nil))
      (blkOk_by (N := ["pen", "size", "turn"]) (sc := defScope sBits) (by decide +kernel)) (fun _ _ _ _ _ => pg_name (i := 2) nd rfl (.inl rfl)) (fun _ _ _ _ _ => pts_nil)
      (fun _ _ _ _ _ => pe_ix (r := rIxS) ix_str pe_str (pe_call GD hr (by rfl) gD FD.kp bD .nil pass0 (pa_cons (pv 0) (pa_cons pe_int pa_nil))) (fun _ _ => rfl))))), ?_⟩
    refine ⟨⟨_, rfl⟩, .ref p, rfl, .int z, rfl, _, _, rfl, rfl, p, c, n, m, (z : Int) + 1, rfl, hp, by show n ≤ 1000000000000; omega, by omega, by omega, fun d H1 d0 d1 b1 p1 => ?_⟩
    refine ⟨d, rfl, by omega, by omega, fun D nD => lc_range (n := d.toNat) (fun j H' => ∃ ys : List Str, H' D = some (.lst (ys.map V.str)) ∧ ys.length = j ∧ (∀ y ∈ ys, y = "0" ∨ y = "1") ∧ But p H H' ∧ Pen H' p c (n + 1 + j) m) ?_ ?_ ?_⟩
    · exact ⟨[], upd_same, rfl, fun _ h => absurd h List.not_mem_nil, b1.trans (.of_same (same_upd nD)), p1.off (p1.ne_p nD) (p1.ne_c nD)⟩
    · rintro j H' hj ⟨ys, hD, hy, hys, bH, pj⟩
      refine ⟨rfl, yes_if ?_⟩
      refine ⟨.ref p, rfl, p, c, n + 1 + j, m, 2, rfl, pj, by show n + 1 + j ≤ 1000000000000; omega, by decide, by decide, fun e H'' e0 e1 b p' => ?_⟩
      have hb : ∃ ch, atI (sg "01") e = some ch ∧ ((⟨#[ch]⟩ : Str) = "0" ∨ (⟨#[ch]⟩ : Str) = "1") := by
        obtain rfl | rfl : e = 0 ∨ e = 1 := by omega
        · exact ⟨48, by decide +kernel, .inl (by decide +kernel)⟩
        · exact ⟨49, by decide +kernel, .inr (by decide +kernel)⟩
      obtain ⟨ch, hch, hc⟩ := hb
      refine ⟨"01", e, ch, rfl, rfl, by decide +kernel, hch, _, b D _ (p1.ne_p nD) hD, ?_, ys ++ [⟨#[ch]⟩], ?_, ?_, ?_, ?_, p'.off (p1.ne_p nD) (p1.ne_c nD)⟩
      · exact Nat.lt_of_le_of_lt (show (ys.map V.str).length ≤ 1000 by rw [List.length_map]; omega) (by decide)
      · rw [upd_same, List.map_append]
        rfl
      · rw [List.length_append, hy]
        rfl
      · intro y hy
        rcases List.mem_append.mp hy with hy | hy
        · exact hys y hy
        · rw [List.mem_singleton.mp hy]
          exact hc
      · intro a o na ha
        have naD : a ≠ D := fun e => by
          rw [e, b1.free (p1.ne_p nD) nD] at ha
          cases ha
        rw [upd_ne naD]
        exact b a o na (bH a o na ha)
    · rintro H' ⟨ys, hD, hy, hys, bH, pj⟩
      have s1 : ∀ y ∈ ys, Sm 1 y := fun y h => by
        rcases hys y h with e | e <;> (rw [e]; exact ⟨by decide +kernel, by decide +kernel⟩)
      refine ⟨"", D, ys, rfl, rfl, .inl (SqL.of hD), ?_, ?_⟩
      · have := sum_ones s1
        have e : ((("" : String) : Str)).length = 0 := by decide +kernel
        rw [e]
        omega
      refine q _ H' bH (pj.mono (by omega)) (bits_iff.mpr fun ch hc => ?_) (Nat.le_trans (Sm.join s1).ln (by omega))
      rw [sg_join] at hc
      obtain ⟨l, hl, hc⟩ := List.mem_flatten.mp hc
      obtain ⟨y, hy, rfl⟩ := List.mem_map.mp hl
      rcases hys y hy with e | e
      · rw [e, show sg "0" = [48] by decide +kernel] at hc
        exact .inl (List.mem_singleton.mp hc)
      · rw [e, show sg "1" = [49] by decide +kernel] at hc
        exact .inr (List.mem_singleton.mp hc)
theorem scSize : FnScope ["pen", "size"] ["pen"] (defScope sSize) := ⟨rfl, rfl, rfl, by decide +kernel, rfl, by decide +kernel, by decide +kernel⟩
theorem ok_size {f fD : Addr} {fd fdD : FuncData} {k : Nat} (F : Fun K "_law_size" "_law_size" sSize f fd) (GD : FnOk P w K mg base CX0 k fD fdD ["pen", "below"] spDraw) (FD : Fun K "_law_draw" "_law_draw" sDraw fD fdD) (bD : Binds K fdD ["pen", "below"] []) (gD : mg "_law_draw" = some (.ref fD))
    (ml : mg "len" = none) : FnOk P w K mg base CX0 (k + 1) f fd ["pen"] spSize := by
  refine F.ok scSize (fun vs H Q E h => ?_) (fun cdv A outer s H vs Q E hr h => ?_)
  · obtain ⟨p, c, n, m, rfl, _⟩ := h
    rfl
  · obtain ⟨p, c, n, m, rfl, hp, hn, hm, q⟩ := h
    have nd := scSize.nd
    have hnB : n + 100 ≤ 1000000000000 := hn
    refine ⟨_, pss_cons (ps_set (i := 1) nd rfl (.inl rfl) (pe_ix ix_list (pe_lst (pa_cons pe_int (pa_cons pe_int (pa_cons pe_int (pa_cons pe_int (pa_cons pe_int (pa_cons pe_int pa_nil)))))))
        (pe_call GD hr (by rfl) gD FD.kp bD .nil pass0 (pa_cons (pv 0) (pa_cons pe_int pa_nil))) (fun _ _ => rfl)))
      (pss_cons (ps_if (PW.pt (pw_and (pt_cmpR op_eq (pv 1) pe_int (nomark _)) (pw_and1 (pt_cmpR op_gt (pe_callB call_len_seq (by rfl) ml PySem.boot_len (pa_cons (pv 0) pa_nil)) pe_int (nomark _))))) (pss_one (ps_ret pe_int)) pss_nil)
      (pss_cons (ps_if (pt_cmpR op_eq (pv 1) pe_int (nomark _)) (pss_one (ps_expr (pe_bm PySem.F.plainAttrs_list PySem.F.slot_list_append PySem.F.type_list_append mt_append (pv 0) (pa_cons pe_int pa_nil)))) pss_nil)
      (pss_one (ps_ret (pv 1))))), ?_⟩
    refine ⟨by show 6 ≤ sizeLine; decide, fun l nl => ?_⟩
    refine ⟨.ref p, rfl, p, c, n, m, 6, rfl, hp.keep (same_upd nl), by show n ≤ 1000000000000; omega, by decide, by decide, fun d H1 d0 d1 b1 p1 => ?_⟩
    have b1' : But p H H1 := (But.of_same (same_upd nl)).trans b1
    have hz : ∃ z : Nat, atI ([.int 1, .int 2, .int 3, .int 3, .int 4, .int 32] : List V) d = some (.int z) ∧ 1 ≤ z ∧ z ≤ 32 := by
      obtain rfl | rfl | rfl | rfl | rfl | rfl : d = 0 ∨ d = 1 ∨ d = 2 ∨ d = 3 ∨ d = 4 ∨ d = 5 := by omega
      · exact ⟨1, rfl, by decide, by decide⟩
      · exact ⟨2, rfl, by decide, by decide⟩
      · exact ⟨3, rfl, by decide, by decide⟩
      · exact ⟨3, rfl, by decide, by decide⟩
      · exact ⟨4, rfl, by decide, by decide⟩
      · exact ⟨32, rfl, by decide, by decide⟩
    obtain ⟨z, ez, z1, z32⟩ := hz
    refine ⟨l, _, d, _, rfl, rfl, SqL.of (b1 l _ (hp.ne_p nl) upd_same), ez, ?_⟩
    obtain ⟨ns, i, st, P1⟩ := id p1
    have hP : H1 p = some (.lst (.ref c :: .int i :: .int st :: m)) := P1.at_
    refine ⟨.int z, rfl, rfl, _, rfl, ite2 (fun e => ?_) (fun e => ?_)⟩
    · refine ⟨.ref p, rfl, p, _, rfl, .inl (SqL.of hP), _, _, rfl, rfl, _, rfl, ite2 (fun _ => q 5 m H1 b1' p1 hm (by decide) (by decide)) (fun e2 => ?_)⟩
      have hm0 : m = [] := by
        cases m with
        | nil => rfl
        | cons x r =>
          refine absurd (decide_eq_true ?_) e2
          rw [List.length_cons, List.length_cons, List.length_cons, List.length_cons]
          omega
      subst hm0
      refine ⟨.int z, rfl, rfl, _, rfl, ite2 (fun _ => ?_) (fun e3 => absurd e e3)⟩
      refine ⟨.ref p, rfl, .inl ⟨rfl, _, SqL.of hP⟩, p, _, _, rfl, rfl, hP, by show 3 < sizeLine; decide, ?_⟩
      refine ⟨.int z, rfl, q z [.int 1] _ (b1'.trans .upd) ⟨ns, i, st, upd_same, ?_, P1.len, P1.i0, P1.i1, P1.s0⟩ (Nat.le_refl _) z1 z32⟩
      rw [upd_ne P1.ne]
      exact P1.cells
    · refine ⟨.int z, rfl, rfl, _, rfl, ite2 (fun e3 => absurd e3 e) (fun _ => ?_)⟩
      exact ⟨.int z, rfl, q z m H1 b1' p1 hm z1 z32⟩
end
section
variable {P : Program} {w : World} {K : PySem.W.Frag} {mg : Str → Option Value} {base : Heap}
theorem scPrefixes : FnScope ["pen", "size", "most", "found", "turn", "start", "prefix"] ["pen", "size", "most"] (defScope sPrefixes) := ⟨rfl, rfl, rfl, by decide +kernel, rfl, by decide +kernel, by decide +kernel⟩
theorem ok_prefixes {f fD fB : Addr} {fd fdD fdB : FuncData} {k : Nat} (F : Fun K "_law_prefixes" "_law_prefixes" sPrefixes f fd) (GD : FnOk P w K mg base CX0 k fD fdD ["pen", "below"] spDraw) (FD : Fun K "_law_draw" "_law_draw" sDraw fD fdD) (bD : Binds K fdD ["pen", "below"] []) (gD : mg "_law_draw" = some (.ref fD))
    (GB : FnOk P w K mg base CX0 k fB fdB ["pen", "size"] spBits) (FB : Fun K "_law_bits" "_law_bits" sBits fB fdB) (bB : Binds K fdB ["pen", "size"] []) (gB : mg "_law_bits" = some (.ref fB))
    (mr : mg "range" = none) (ml : mg "len" = none) (mm : mg "min" = none) : FnOk P w K mg base CX0 (k + 1) f fd ["pen", "size", "most"] spPrefixes := by
  refine F.ok scPrefixes (fun vs H Q E h => ?_) (fun cdv A outer s H vs Q E hr h => ?_)
  · obtain ⟨p, c, n, z, k, m, rfl, _⟩ := h
    rfl
  · obtain ⟨p, c, n, z, most, m, rfl, hp, hn, hz, hk, q⟩ := h
    have nd := scPrefixes.nd
    have hu := hr.units
    have hnB : n + 1000 ≤ 1000000000000 := hn
    refine ⟨_, pss_cons (ps_set (i := 3) nd rfl (.inl rfl) (pe_lst pa_nil))
      (pss_cons (ps_for PassesOwn.never rfl (pi_range1 (by rfl) mr (pa_cons (pe_call GD hr (by rfl) gD FD.kp bD .nil pass0 (pa_cons (pv 0) (pa_cons (pe_op op_add (pv 2) pe_int) pa_nil))) pa_nil)) (pg_name (i := 4) nd rfl (.inl rfl))
        (C8.pss_cut (ps_set (i := 5) nd rfl (.inl rfl) (pe_ifExp (PW.pt (pw_and (pt_cmpR (op_neD hu) (pv 3) (pe_lst pa_nil) (nomark _)) (pw_and1 (pt_cmpR op_eq (pe_call GD hr (by rfl) gD FD.kp bD .nil pass0 (pa_cons (pv 0) (pa_cons pe_int pa_nil))) pe_int (nomark _)))))
            (pe_ix ix_list (pv 3) (pe_call GD hr (by rfl) gD FD.kp bD .nil pass0 (pa_cons (pv 0) (pa_cons (pe_callB call_len_seq (by rfl) ml PySem.boot_len (pa_cons (pv 3) pa_nil)) pa_nil))) (fun _ _ => rfl)) pe_str))
        (pss_cons (ps_set (i := 6) nd rfl (.inl rfl) (pe_slice sl_str (pe_op op_add_str (pv 5) (pe_call GB hr (by rfl) gB FB.kp bB .nil pass0 (pa_cons (pv 0) (pa_cons (pe_callB (call_min2 rfl) (by rfl) mm (by decide +kernel) (pa_cons (pv 1) (pa_cons pe_int pa_nil))) pa_nil)))) po_none (po_some (pv 1))))
        (pss_one (ps_if (pt_cmpR op_notIn_seq (pv 6) (pv 3) (by rfl)) (pss_one (ps_expr (pe_bm PySem.F.plainAttrs_list PySem.F.slot_list_append PySem.F.type_list_append mt_append (pv 3) (pa_cons (pv 6) pa_nil)))) pss_nil)))))
      (pss_one (ps_ret (pv 3)))), ?_⟩
    refine ⟨Nat.zero_le _, fun l nl => ?_⟩
    have lp : l ≠ p := hp.ne_p nl
    have lc : l ≠ c := hp.ne_c nl
    refine ⟨.ref p, rfl, .int most, rfl, _, _, rfl, rfl, p, c, n, m, (most : Int) + 1, rfl, hp.keep (same_upd nl), by show n ≤ 1000000000000; omega, by omega, by omega, fun d H1 d0 d1 b1 p1 => ?_⟩
    refine ⟨d, rfl, by omega, by omega, for_range (n := d.toNat) (fun i σ H' => ∃ xs x4 x5 x6, σ = [some (.ref p), some (.int z), some (.int most), some (.ref l), x4, x5, x6] ∧ H' l = some (.lst (xs.map V.str)) ∧ PfxL z xs ∧ xs.length ≤ i ∧ But p H H' ∧ Pen H' p c (n + 1 + 8 * i) m) ?_ ?_ ?_⟩
    · exact ⟨[], _, _, _, rfl, b1 l _ lp upd_same, ⟨List.nodup_nil, fun _ h => absurd h List.not_mem_nil, fun _ h => absurd h List.not_mem_nil⟩, Nat.le_refl _, (But.of_same (same_upd nl)).trans b1, p1⟩
    · rintro i σ H' hi ⟨xs, x4, x5, x6, rfl, hl, hx, hxl, bH, pH⟩
      have hxz : xs.length ≤ 20 := by omega
      refine ⟨fun σ' H'' => ∃ x : Str, σ' = [some (.ref p), some (.int z), some (.int most), some (.ref l), some (.int (0 + i)), some (.str x), x6] ∧ isBits x = true ∧ x.length ≤ z ∧ H'' l = some (.lst (xs.map V.str)) ∧ But p H H'' ∧ Pen H'' p c (n + 1 + 8 * i + 2) m, ?_, ?_⟩
      · refine ⟨.ref l, rfl, Nat.zero_le _, fun e ne => ?_⟩
        have s1 := same_upd (o := .lst []) ne
        have hl1 := s1 _ _ hl
        refine ⟨.list (xs.map PyData.str), .list [], .lst (SqL.of hl1) (dpAll_strs xs), .lst (SqL.of upd_same) .nil, shaped_strs hx.bits, rfl, _, rfl, ?_⟩
        rw [eqv_nilS]
        have pH1 := pH.keep s1
        have bH1 := bH.trans (.of_same s1)
        revert hl1 pH1 bH1
        generalize upd H' e (.lst []) = H2
        intro hl1 pH1 bH1
        by_cases hz0 : xs = []
        · rw [decide_eq_true hz0]
          refine iteF (iteF ?_)
          exact ⟨"", rfl, bits_empty, Nat.zero_le _, hl1, bH1, pH1.mono (by omega)⟩
        · rw [decide_eq_false hz0]
          refine iteT ?_
          refine ⟨.ref p, rfl, p, c, _, m, 2, rfl, pH1, by show n + 1 + 8 * i ≤ 1000000000000; omega, by decide, by decide, fun e H3 e0 e1 b3 p3 => ?_⟩
          refine ⟨rfl, _, rfl, ite2 (fun _ => ?_) (fun _ => ?_)⟩
          · have hl3 := b3 _ _ lp hl1
            have hpos : 0 < xs.length := List.length_pos_iff.mpr hz0
            refine ⟨.ref l, rfl, .ref p, rfl, .ref l, rfl, l, _, rfl, .inl (SqL.of hl3), p, c, _, m, (((xs.map V.str).length : Nat) : Int), rfl, p3, by show n + 1 + 8 * i + 1 ≤ 1000000000000; omega, by rw [List.length_map]; omega, by rw [List.length_map]; omega, fun g H4 g0 g1 b4 p4 => ?_⟩
            rw [List.length_map] at g1
            have hg : g.toNat < xs.length := by omega
            refine ⟨l, _, g, .str xs[g.toNat], rfl, rfl, SqL.of (b4 _ _ lp hl3), at_of (j := g.toNat) (by omega) (by rw [List.getElem?_map, List.getElem?_eq_getElem hg]; rfl), ?_⟩
            exact ⟨xs[g.toNat], rfl, hx.bits _ (List.getElem_mem hg), hx.len _ (List.getElem_mem hg), b4 _ _ lp hl3, (bH1.trans b3).trans b4, p4⟩
          · exact ⟨"", rfl, bits_empty, Nat.zero_le _, b3 _ _ lp hl1, bH1.trans b3, p3.mono (by omega)⟩
      · rintro σ' H'' ⟨x, rfl, hxb, hxz2, hl2, bH2, pH2⟩
        have hmin : (if (5 : Int) < (z : Int) then (5 : Int) else (z : Int)) = ((min 5 z : Nat) : Int) := by
          by_cases h5 : (5 : Int) < (z : Int)
          · rw [if_pos h5]
            omega
          · rw [if_neg h5]
            omega
        refine ⟨.str x, rfl, .ref p, rfl, .int z, rfl, _, _, rfl, p, c, _, min 5 z, m, ?_, pH2, by show n + 1 + 8 * i + 2 + 100 ≤ 1000000000000; omega, by omega, fun y H3 b3 p3 hyb hyl => ?_⟩
        · show [V.ref p, V.int (if (5 : Int) < (z : Int) then 5 else z)] = _
          rw [hmin]
        refine ⟨_, _, rfl, rfl, Nat.le_trans (show x.length + y.length ≤ 1000 by omega) (by decide), .int z, rfl, z, rfl, _, rfl, ?_, ?_⟩
        · rw [strLen_append]
          exact Nat.le_trans (show x.length + y.length ≤ 1000 by omega) (by decide)
        have hb : isBits (cutS (x ++ y) none (some (z : Int))) = true := bits_cut (bits_app hxb hyb) _ _
        have hlz := take_len (x ++ y) z
        revert hb hlz
        generalize cutS (x ++ y) none (some (z : Int)) = pf
        intro hb hlz
        have hl3 := b3 _ _ lp hl2
        have bH3 := bH2.trans b3
        refine ⟨.str pf, rfl, .ref l, rfl, l, _, rfl, .inl (SqL.of hl3), rfl, flat_str xs, _, rfl, ?_⟩
        show if (if true = true then !inV (.str pf) (xs.map V.str) else inV (.str pf) (xs.map V.str)) = true then _ else _
        rw [if_pos rfl, inV_str]
        have hp3 : Pen H3 p c (n + 1 + 8 * (i + 1)) m := p3.mono (by omega)
        by_cases hmem : pf ∈ xs
        · rw [decide_eq_true hmem]
          refine iteF ?_
          exact ⟨xs, _, _, _, rfl, hl3, hx, by omega, bH3, hp3⟩
        · rw [decide_eq_false hmem]
          refine iteT ?_
          refine ⟨.ref l, rfl, .inl ⟨rfl, _, SqL.of hl3⟩, .str pf, rfl, l, _, _, rfl, rfl, hl3, ?_, ?_⟩
          · exact Nat.lt_of_le_of_lt (show (xs.map V.str).length ≤ 1000 by rw [List.length_map]; omega) (by decide)
          · refine ⟨xs ++ [pf], _, _, _, rfl, by rw [upd_same, List.map_append]; rfl, ⟨?_, ?_, ?_⟩, by rw [List.length_append, List.length_singleton]; omega, ?_, hp3.off lp lc⟩
            · rw [List.nodup_append]
              refine ⟨hx.nd, (List.nodup_cons.mpr ⟨List.not_mem_nil, List.nodup_nil⟩), fun a ha b hb e => hmem ?_⟩
              rw [List.mem_singleton.mp hb] at e
              rw [← e]
              exact ha
            · intro y hy
              rcases List.mem_append.mp hy with hy | hy
              · exact hx.bits y hy
              · rw [List.mem_singleton.mp hy]
                exact hb
            · intro y hy
              rcases List.mem_append.mp hy with hy | hy
              · exact hx.len y hy
              · rw [List.mem_singleton.mp hy]
                exact hlz
            · intro a o na ha
              have nal : a ≠ l := ne_of_none ha nl
              rw [upd_ne nal]
              exact bH3 a o na ha
    · rintro σ H' ⟨xs, x4, x5, x6, rfl, hl, hx, hxl, bH, pH⟩
      have hd : d.toNat ≤ most := by omega
      exact ⟨.ref l, rfl, q l xs H' bH (pH.mono (by omega)) nl hl hx (by omega)⟩
end
/-! ### is_whole, is_width -/
def spWhole (K : PySem.W.Frag) : Sp := fun vs H Q _ => ∃ v t, vs = [v] ∧ TyI K H v t ∧ Q (.bl (isWholeV v)) H
def spWidth (K : PySem.W.Frag) : Sp := fun vs H Q _ => ∃ v t, vs = [v] ∧ TyI K H v t ∧ Q (.bl (isWidthV v)) H
section
variable {P : Program} {w : World} {K : PySem.W.Frag} {mg : Str → Option Value} {base : Heap}
theorem scWhole : FnScope ["thing"] ["thing"] (defScope sWhole) := ⟨rfl, rfl, rfl, by decide +kernel, rfl, by decide +kernel, by decide +kernel⟩
theorem ok_whole {f : Addr} {fd : FuncData} {k : Nat} (F : Fun K "is_whole" "is_whole" sWhole f fd) (mi : mg "isinstance" = none) (mn : mg "int" = none) (mb : mg "bool" = none) : FnOk P w K mg base CX0 (k + 1) f fd ["thing"] (spWhole K) := by
  refine F.ok scWhole (fun vs H Q E h => ?_) (fun cdv A outer s H vs Q E hr h => ?_)
  · obtain ⟨v, t, rfl, _⟩ := h
    rfl
  · obtain ⟨v, t, rfl, ty, q⟩ := h
    refine ⟨_, pss_one (ps_ret (pe_and (pe_callB call_isi (by rfl) mi (by decide +kernel) (pa_cons (pv 0) (pa_cons (pe_bltn (v := .ty "int") (by rfl) mn (by decide +kernel) rfl) pa_nil)))
      (pe_one (pe_not (pe_callB call_isi (by rfl) mi (by decide +kernel) (pa_cons (pv 0) (pa_cons (pe_bltn (v := .ty "bool") (by rfl) mb (by decide +kernel) rfl) pa_nil))))))), ?_⟩
    refine ⟨v, rfl, v, .ty "int", .type t, .type "int", _, rfl, .ty _, ty.ty, ty.int, _, rfl, ?_⟩
    have two : Q (.bl (isWholeV v)) H → isIntish v = true → (!isBoolV v) = isWholeV v := fun _ h => by cases v <;> first | rfl | cases h
    cases e : isIntish v with
    | true =>
      refine iteT ⟨v, rfl, v, .ty "bool", .type t, .type "bool", _, rfl, .ty _, ty.ty, ty.bool, _, rfl, ?_⟩
      rw [two q e]
      exact q
    | false =>
      refine iteF ?_
      have e2 : isWholeV v = false := by cases v <;> first | rfl | cases e
      rw [e2] at q
      exact q
theorem scWidth : FnScope ["thing"] ["thing"] (defScope sWidth) := ⟨rfl, rfl, rfl, by decide +kernel, rfl, by decide +kernel, by decide +kernel⟩
theorem ok_width {f fW : Addr} {fd fdW : FuncData} {k : Nat} {tk : Tok} (F : Fun K "is_width" "is_width" sWidth f fd) (GW : FnOk P w K mg base CX0 k fW fdW ["thing"] (spWhole K)) (FW : Fun K "is_whole" "is_whole" sWhole fW fdW) (bW : Binds K fdW ["thing"] []) (gW : mg "is_whole" = some (.ref fW))
    (mW : mg "WIDEST" = some (.int 32 tk)) : FnOk P w K mg base CX0 (k + 1) f fd ["thing"] (spWidth K) := by
  refine F.ok scWidth (fun vs H Q E h => ?_) (fun cdv A outer s H vs Q E hr h => ?_)
  · obtain ⟨v, t, rfl, _⟩ := h
    rfl
  · obtain ⟨v, t, rfl, ty, q⟩ := h
    refine ⟨_, pss_one (ps_ret (pe_and (pe_call GW hr (by rfl) gW FW.kp bW .nil pass0 (pa_cons (pv 0) pa_nil)) (pe_one (pe_chain op_le op_le pe_int (pv 0) (pe_glob (v := .int 32) rfl mW ⟨_, rfl⟩))))), ?_⟩
    refine ⟨v, rfl, v, t, rfl, ty, _, rfl, ?_⟩
    cases v with
    | int z =>
      refine iteT ⟨.int z, rfl, _, _, rfl, rfl, _, rfl, ?_⟩
      have q' : Q (.bl (decide ((1 : Int) ≤ z) && decide (z ≤ 32))) H := q
      by_cases h1 : (1 : Int) ≤ z
      · rw [decide_eq_true h1] at q' ⊢
        rw [Bool.true_and] at q'
        exact iteT ⟨_, _, rfl, rfl, q'⟩
      · rw [decide_eq_false h1] at q' ⊢
        rw [Bool.false_and] at q'
        exact iteF q'
    | _ => exact iteF q
end
/-! ### the class of maps -/
abbrev sInit : Stmt := inClass sCls 0
abbrev sChk : Stmt := inClass sCls 2
abbrev sLongest : Stmt := inClass sCls 8
theorem wr_ : ¬ (("_width" : Str) = "_rows") := by decide +kernel
theorem rw_ : ¬ (("_rows" : Str) = "_width") := by decide +kernel
/-- the attributes of a map -/
def flds (w : Nat) (e : Addr) : List (Str × V) := putF "_rows" (.ref e) (putF "_width" (.int w) [])
theorem flds_w (w : Nat) (e : Addr) : (flds w e).lookup ("_width" : Str) = some (.int w) := by
  unfold flds
  rw [lookup_putF, if_neg wr_, lookup_putF, if_pos rfl]
theorem flds_r (w : Nat) (e : Addr) : (flds w e).lookup ("_rows" : Str) = some (.ref e) := by
  unfold flds
  rw [lookup_putF, if_pos rfl]
theorem flds_no (w : Nat) (e : Addr) {m : Str} (h1 : ¬ m = "_rows") (h2 : ¬ m = "_width") : (flds w e).lookup m = none := by
  unfold flds
  rw [lookup_putF, if_neg h1, lookup_putF, if_neg h2]
  rfl
/-- at x a map of the class at C, its rows at e -/
structure MapAt (C : Addr) (H : Hp) (x e : Addr) (w : Nat) (kvs : List (Key × V)) : Prop where
  ob : ∃ dx, H x = some (.ins C dx (flds w e))
  dc : H e = some (.dK kvs)
theorem MapAt.same {C : Addr} {H H' : Hp} {x e : Addr} {w : Nat} {kvs : List (Key × V)} (k : Same H H') (h : MapAt C H x e w kvs) : MapAt C H' x e w kvs := by
  obtain ⟨⟨dx, h1⟩, h2⟩ := h
  exact ⟨⟨dx, k _ _ h1⟩, k _ _ h2⟩
theorem MapAt.but {C : Addr} {H H' : Hp} {p x e : Addr} {w : Nat} {kvs : List (Key × V)} (k : But p H H') (n1 : x ≠ p) (n2 : e ≠ p) (h : MapAt C H x e w kvs) : MapAt C H' x e w kvs := by
  obtain ⟨⟨dx, h1⟩, h2⟩ := h
  exact ⟨⟨dx, k _ _ n1 h1⟩, k _ _ n2 h2⟩
/-- the same rows, in ascending order -/
structure Sorted (xs : List Str) (kvs kvs' : List (Key × V)) (ys : List Str) : Prop where
  keys : kvs'.map (·.1) = ys.map Sum.inr
  perm : ys.Perm xs
  up : sortedS ys = true
  val : ∀ y ∈ xs, valV kvs' (.inr y) = valV kvs (.inr y)
structure ClsF (K : PySem.W.Frag) (C : Addr) : Prop where
  cl : Cls K C
  nW : NoAttr K C "_width"
  nR : NoAttr K C "_rows"
/-- _checked of a value of the right kind: the value -/
def spChk (K : PySem.W.Frag) (C : Addr) (vok : V → Prop) : Sp := fun vs H Q _ => ∃ (x dx : Addr) (fs : List (Str × V)) (v : V), vs = [.ref x, v] ∧ H x = some (.ins C dx fs) ∧ (∀ m : Str, ¬ m = "_width" → fs.lookup m = none) ∧ vok v ∧ Q v H
def spInit (K : PySem.W.Frag) (C : Addr) (vok : V → Prop) : Sp := fun vs H Q _ => ∃ (x dx d : Addr) (w : Nat) (xs : List Str) (kvs : List (Key × V)), vs = [.ref x, .int w, .ref d] ∧ H x = some (.ins C dx []) ∧ 1 ≤ w ∧ w ≤ 32 ∧ H d = some (.dK kvs) ∧ RowsOk w vok xs kvs ∧ xs.length < 64 ∧
  ∀ (e : Addr) (ys : List Str) (kvs' : List (Key × V)) (H' : Hp), H e = none → Sorted xs kvs kvs' ys → MapAt C H' x e w kvs' → (∀ b o, H b = some o → b ≠ x → H' b = some o) → Q .non H'
def spLongest (K : PySem.W.Frag) (C : Addr) : Sp := fun vs H Q _ => ∃ (x e : Addr) (w : Nat) (xs : List Str) (kvs : List (Key × V)) (y : Str), vs = [.ref x, .str y] ∧ MapAt C H x e w kvs ∧ kvs.map (·.1) = xs.map Sum.inr ∧ isBits y = true ∧ y.length ≤ w ∧ w ≤ 32 ∧
  ∀ r : Option Str, IsLong xs y r → Q (optV r) H
section
variable {P : Program} {w : World} {K : PySem.W.Frag} {mg : Str → Option Value} {base : Heap}
theorem scChk : FnScope ["self", "value"] ["self", "value"] (defScope sChk) := ⟨rfl, rfl, rfl, by decide +kernel, rfl, by decide +kernel, by decide +kernel⟩
theorem ok_chk {f fW C : Addr} {fd fdW : FuncData} {k : Nat} (F : Fun K "_checked" "PrefixMap._checked" sChk f fd) (GW : FnOk P w K mg base CX0 k fW fdW ["thing"] (spWhole K)) (FW : Fun K "is_whole" "is_whole" sWhole fW fdW) (bW : Binds K fdW ["thing"] []) (gW : mg "is_whole" = some (.ref fW)) :
    FnOk P w K mg base CX0 (k + 1) f fd ["self", "value"] (spChk K C isIntV) := by
  refine F.ok scChk (fun vs H Q E h => ?_) (fun cdv A outer s H vs Q E hr h => ?_)
  · obtain ⟨x, dx, fs, v, rfl, _⟩ := h
    rfl
  · obtain ⟨x, dx, fs, v, rfl, hx, _, hv, q⟩ := h
    refine ⟨_, pss_cons (ps_if (pt_not (pt_val (pe_call GW hr (by rfl) gW FW.kp bW .nil pass0 (pa_cons (pv 1) pa_nil)))) (pss_one ps_never) pss_nil) (pss_one (ps_ret (pv 1))), ?_⟩
    cases v with
    | int i =>
      obtain ⟨t, ht⟩ := TyI.of (K := K) (H := H) (N := fun _ => True) (.int i)
      exact ⟨.int i, rfl, .int i, t, rfl, ht, _, rfl, iteF ⟨.int i, rfl, q⟩⟩
    | _ => exact hv.elim
theorem scInit : FnScope ["self", "width", "rows", "prefix"] ["self", "width", "rows"] (defScope sInit) := ⟨rfl, rfl, rfl, by decide +kernel, rfl, by decide +kernel, by decide +kernel⟩
theorem ok_init {f fW fP fC C : Addr} {fd fdW fdP fdC : FuncData} {k : Nat} {vok : V → Prop} (F : Fun K "__init__" "PrefixMap.__init__" sInit f fd) (T : ClsF K C) (GW : FnOk P w K mg base CX0 k fW fdW ["thing"] (spWidth K)) (FW : Fun K "is_width" "is_width" sWidth fW fdW) (bW : Binds K fdW ["thing"] []) (gW : mg "is_width" = some (.ref fW))
    (GP : FnOk P w K mg base CX0 k fP fdP ["thing", "width"] (spPfx K)) (FP : Fun K "is_prefix" "is_prefix" sPfx fP fdP) (bP : Binds K fdP ["thing", "width"] []) (gP : mg "is_prefix" = some (.ref fP))
    (GC : FnOk P w K mg base CX0 k fC fdC ["self", "value"] (spChk K C vok)) (mC : Meth K C "_checked" fC) (bC : Binds K fdC ["self", "value"] []) (mi : mg "isinstance" = none) (md : mg "dict" = none) (ms : mg "sorted" = none) :
    FnOk P w K mg base CX0 (k + 1) f fd ["self", "width", "rows"] (spInit K C vok) := by
  refine F.ok scInit (fun vs H Q E h => ?_) (fun cdv A outer s H vs Q E hr h => ?_)
  · obtain ⟨x, dx, d, w, xs, kvs, rfl, _⟩ := h
    rfl
  · obtain ⟨x, dx, d, w, xs, kvs, rfl, hx, w1, w32, hd, ok, h64, q⟩ := h
    have nd := scInit.nd
    have hu := hu_of hr
    refine ⟨_, pss_cons (ps_if (pt_not (pt_val (pe_call GW hr (by rfl) gW FW.kp bW .nil pass0 (pa_cons (pv 1) pa_nil)))) (pss_one ps_never) pss_nil)
      (pss_cons (ps_if (pt_not (pt_val (pe_callB call_isi (by rfl) mi (by decide +kernel) (pa_cons (pv 2) (pa_cons (pe_bltn (v := .ty "dict") (by rfl) md (by decide +kernel) rfl) pa_nil))))) (pss_one ps_never) pss_nil)
      (pss_cons (ps_lock (ps_for PassesOwn.never rfl (pi_keys (pv 2)) (pg_name (i := 3) nd rfl (.inl rfl))
        (pss_one (ps_if (pt_not (pt_val (pe_call GP hr (by rfl) gP FP.kp bP .nil pass0 (pa_cons (pv 3) (pa_cons (pv 1) pa_nil))))) (pss_one ps_never) pss_nil))))
      (pss_cons (ps_fld (pv 0) (pv 1) rfl)
      (pss_one (ps_fld (pv 0) (pe_dc (own := [("prefix", 3)]) (g := gName 3) (tt := tYes) rfl nd (pi_list (pe_callB (call_sortedD rfl) (by rfl) ms (by decide +kernel) (pa_cons (pv 2) pa_nil)))
        (blkOk_by (N := ["self", "width", "rows", "prefix"]) (sc := defScope sInit) (by decide +kernel)) (fun _ _ _ _ _ => pg_name (i := 3) nd rfl (.inl rfl)) (fun _ _ _ _ _ => pts_nil) (fun _ _ _ _ _ => pv 3)
        (fun _ _ _ _ _ => pe_meth (pv 0) T.cl mC GC hr bC .nil pass0 (pa_cons (pe_dget hu (pv 2) (pv 3) (fun _ _ => rfl)) pa_nil))) rfl))))), ?_⟩
    -- the width
    obtain ⟨t, ht⟩ := TyI.of (K := K) (H := H) (N := fun _ => True) (.int (w : Int))
    refine ⟨.int w, rfl, .int w, t, rfl, ht, _, rfl, ?_⟩
    have hw : isWidthV (.int (w : Int)) = true := by
      show (decide ((1 : Int) ≤ w) && decide ((w : Int) ≤ 32)) = true
      rw [decide_eq_true (by omega), decide_eq_true (by omega)]
      rfl
    rw [hw]
    refine iteF ?_
    -- a dict
    refine ⟨.ref d, rfl, .ref d, .ty "dict", .type "dict", .type "dict", _, rfl, .ty _, .base (.dK hd), kitv (b := true) (by decide +kernel), _, rfl, iteF ?_⟩
    -- its prefixes
    refine ⟨d, .dK kvs, hd, trivial, fun od => ?_⟩
    refine ⟨.ref d, rfl, d, od, rfl, .inl ⟨kvs, upd_same, ?_⟩⟩
    refine for_it walk_keys (fun _ σ H' => (∃ x3, σ = [some (.ref x), some (.int w), some (.ref d), x3]) ∧ H' = upd H d (.frz od (.dK kvs))) ⟨⟨_, rfl⟩, rfl⟩ (fun _ _ _ _ h => by rw [h.2, upd_same]) ?_ ?_
    · rintro i v σ H1 H2 hi ⟨⟨x3, rfl⟩, rfl⟩ ⟨rfl, k, v', hkv, rfl⟩
      obtain ⟨y, hy, rfl⟩ := key_at ok.keys hkv
      have hym := List.mem_of_getElem? hy
      refine ⟨.str y, rfl, .int w, rfl, .str y, w, rfl, TyS.of (N := fun _ => True) (.str y), fun z e => ?_, _, rfl, ?_⟩
      · rw [← V.str.inj e]
        exact Nat.le_trans (ok.pfx.len y hym) (Nat.le_trans w32 (by decide))
      have e : isPfx (.str y) (w : Int) = true := by
        show (decide ((y.length : Int) ≤ w) && isBits y) = true
        rw [decide_eq_true (by have := ok.pfx.len y hym; omega), ok.pfx.bits y hym]
        rfl
      rw [e]
      exact iteF ⟨⟨_, rfl⟩, rfl⟩
    · rintro σ H1 ⟨⟨x3, rfl⟩, rfl⟩
      refine ⟨upd_same, ?_⟩
      rw [upd_back hd]
      -- the attributes
      refine ⟨.int w, rfl, .ref x, rfl, x, C, dx, [], rfl, hx, T.cl, T.nW, (by show 0 < 1000; decide), ?_⟩
      have ndx : d ≠ x := ne_of hd hx (fun e => nomatch e)
      have hdW : (upd H x (.ins C dx (putF "_width" (.int w) []))) d = some (.dK kvs) := by rw [upd_ne ndx]; exact hd
      refine ⟨.ref d, rfl, d, kvs, xs, rfl, .inl hdW, ok.keys, h64, fun ys l hperm hup nl => ?_⟩
      have hll : (upd (upd H x (.ins C dx (putF "_width" (.int w) []))) l (.lst (ys.map V.str))) l = some (.lst (ys.map V.str)) := upd_same
      have s1 := same_upd (o := .lst (ys.map V.str)) nl
      have hx1 := s1 _ _ (upd_same (H := H) (a := x) (o := .ins C dx (putF "_width" (.int w) [])))
      have hd1 := s1 _ _ hdW
      have old1 : ∀ b o, H b = some o → b ≠ x → (upd (upd H x (.ins C dx (putF "_width" (.int w) []))) l (.lst (ys.map V.str))) b = some o := fun b o e nb => s1 b o (by rw [upd_ne nb]; exact e)
      revert hll hx1 hd1 old1
      generalize upd (upd H x (.ins C dx (putF "_width" (.int w) []))) l (.lst (ys.map V.str)) = H2
      intro hll hx1 hd1 old1
      refine ⟨l, rfl, ⟨_, SqL.of hll⟩, fun G nG => ?_⟩
      have nxG : x ≠ G := ne_of_none hx1 nG
      have ndG : d ≠ G := ne_of_none hd1 nG
      have kn : (kvs.map (·.1)).Nodup := by
        rw [ok.keys]
        exact ok.pfx.nd.map Sum.inr (fun a b h e => h (Sum.inr.inj e))
      refine dc_it walk_list (fun i H' => ∃ kvs', H' G = some (.dK kvs') ∧ kvs'.map (·.1) = (ys.take i).map Sum.inr ∧ (∀ y v, (Sum.inr y, v) ∈ kvs' → valV kvs (.inr y) = some v) ∧ ∀ b o, H2 b = some o → H' b = some o) ⟨[], upd_same, rfl, fun _ _ h => (List.not_mem_nil h).elim, fun b o e => by rw [upd_ne (ne_of_none e nG)]; exact e⟩
        (fun _ H' _ h => by obtain ⟨_, _, _, _, k⟩ := h; exact SqL.of (k _ _ hll)) ?_ ?_
      · rintro i v H3 H4 hi ⟨kvs', hG, hk, hv, keep⟩ ⟨rfl, hvi⟩
        rw [List.getElem?_map] at hvi
        have hil : i < ys.length := by
          rw [List.length_map] at hi
          exact hi
        rw [List.getElem?_eq_getElem hil] at hvi
        obtain rfl : V.str ys[i] = v := Option.some.inj hvi
        have hym : ys[i] ∈ xs := hperm.mem_iff.mp (List.getElem_mem hil)
        refine ⟨rfl, yes_if ?_⟩
        have hkm : (Sum.inr ys[i] : Key) ∈ kvs.map (·.1) := (inr_mem ok.keys _).mpr hym
        obtain ⟨v, hval⟩ := Option.isSome_iff_exists.mp (valV_mem.mpr hkm)
        have hmem : (Sum.inr ys[i], v) ∈ kvs := by
          unfold valV at hval
          obtain ⟨p, hp, e⟩ := Option.map_eq_some_iff.mp hval
          have h1 := List.mem_of_find?_eq_some hp
          have h2 : p.1 = Sum.inr ys[i] := by
            have z := List.find?_some hp
            exact of_decide_eq_true z
          rw [← h2, ← e]
          exact h1
        refine ⟨.str ys[i], rfl, .ref x, rfl, x, dx, _, rfl, keep _ _ hx1, ?_, .ref d, rfl, .str ys[i], rfl, d, v, rfl, by rw [← hval]; exact DGet.k (k := .inr ys[i]) (keep _ _ hd1), ?_⟩
        · rw [lookup_putF, if_neg (by decide +kernel)]
          rfl
        refine ⟨x, dx, _, v, rfl, keep _ _ hx1, fun m nm => by rw [lookup_putF, if_neg nm]; rfl, ok.val _ hmem, kvs', .inr ys[i], rfl, hG, ?_, ?_⟩
        · have : kvs'.length = ((ys.take i).map Sum.inr : List Key).length := by rw [← hk, List.length_map]
          rw [List.length_map, List.length_take] at this
          have hp := hperm.length_eq
          exact Nat.lt_of_le_of_lt (show kvs'.length ≤ 1000 by omega) (by decide)
        have hnew : (Sum.inr ys[i] : Key) ∉ kvs'.map (·.1) := by
          rw [hk, List.mem_map]
          rintro ⟨z, hz, e⟩
          have ynd : ys.Nodup := hperm.nodup_iff.mpr ok.pfx.nd
          obtain ⟨j, hj, ej⟩ := List.mem_take_iff_getElem.mp hz
          have e2 : ys[j]'(by omega) = ys[i] := by rw [ej]; exact Sum.inr.inj e
          have := (List.getElem_inj ynd).mp e2
          omega
        refine ⟨kvs' ++ [(.inr ys[i], v)], by rw [upd_same, putK_end hnew], ?_, ?_, ?_⟩
        · rw [List.map_append, hk, List.take_add_one, List.getElem?_eq_getElem hil, List.map_append]
          rfl
        · intro y v' hm
          rcases List.mem_append.mp hm with hm | hm
          · exact hv y v' hm
          · obtain e := List.mem_singleton.mp hm
            cases e
            exact hval
        · intro b o e
          rw [upd_ne (ne_of_none e nG)]
          exact keep b o e
      · rintro H3 ⟨kvs', hG, hk, hv, keep⟩
        have etake : ys.take (ys.map V.str).length = ys := List.take_of_length_le (by rw [List.length_map]; exact Nat.le_refl _)
        rw [etake] at hk
        refine ⟨.ref x, rfl, x, C, dx, _, rfl, keep _ _ hx1, T.cl, T.nR, (by show 1 < 1000; decide), ?_⟩
        have ynd : ys.Nodup := hperm.nodup_iff.mpr ok.pfx.nd
        have kn' : (kvs'.map (·.1)).Nodup := by
          rw [hk]
          exact ynd.map Sum.inr (fun a b h e => h (Sum.inr.inj e))
        have hH : ∀ b, H2 b = none → H b = none := fun b hb => by
          cases e : H b with
          | none => rfl
          | some o =>
            by_cases hbx : b = x
            · rw [hbx, hx1] at hb
              cases hb
            · rw [old1 b o e hbx] at hb
              cases hb
        refine q G ys kvs' _ (hH G nG) ⟨hk, hperm, hup, fun y hy => ?_⟩ ⟨⟨dx, upd_same⟩, by rw [upd_ne nxG.symm]; exact hG⟩ fun b o e nb => by rw [upd_ne nb]; exact keep b o (old1 b o e nb)
        have hm : (Sum.inr y : Key) ∈ kvs'.map (·.1) := (inr_mem hk _).mpr (hperm.mem_iff.mpr hy)
        obtain ⟨p, hp, e⟩ := List.mem_map.mp hm
        obtain ⟨k', v⟩ := p
        have e' : k' = Sum.inr y := e
        subst e'
        rw [valV_some kn' hp, hv y v hp]
end
/-! ### tables -/
abbrev sTInit : Stmt := inClass sTab 0
abbrev sTgt : Stmt := inClass sTab 2
abbrev sTChk : Stmt := inClass sTab 3
abbrev sLook : Stmt := inClass sTab 5
abbrev sRows : Stmt := inClass sCls 4
abbrev letters : Str := "abcdefghijklmnopqrstuvwxyz"
/-- is_target -/
def isTgt (v : V) : Bool := match v with
  | .str x => decide ((1 : Int) ≤ x.length) && decide ((x.length : Int) ≤ 8) && onlyOf letters x
  | _ => false
def isTgtV (v : V) : Prop := isTgt v = true
def spTgt (K : PySem.W.Frag) : Sp := fun vs H Q _ => ∃ v : V, vs = [v] ∧ TyS K H v ∧ (∀ x, v = .str x → x.length ≤ sizeLine) ∧ Q (.bl (isTgt v)) H
def spAdr (K : PySem.W.Frag) : Sp := fun vs H Q _ => ∃ (x : Str) (w : Int), vs = [.str x, .int w] ∧ TyS K H (.str x) ∧ x.length ≤ sizeLine ∧ Q (.bl (isPfx (.str x) w && decide ((x.length : Int) = w))) H
/-- where a longest prefix leads -/
def leadV (kvs : List (Key × V)) (r : Option Str) : V := match r with
  | none => .non
  | some z => (valV kvs (.inr z)).getD .non
def spLook (K : PySem.W.Frag) (C : Addr) : Sp := fun vs H Q _ => ∃ (x e : Addr) (w : Nat) (xs : List Str) (kvs : List (Key × V)) (y : Str), vs = [.ref x, .str y] ∧ MapAt C H x e w kvs ∧ kvs.map (·.1) = xs.map Sum.inr ∧ isBits y = true ∧ y.length = w ∧ w ≤ 32 ∧
  ∀ r : Option Str, IsLong xs y r → Q (leadV kvs r) H
def spRows (C : Addr) : Sp := fun vs H Q _ => ∃ (x e : Addr) (w : Nat) (kvs : List (Key × V)), vs = [.ref x] ∧ MapAt C H x e w kvs ∧ ∀ d, H d = none → Q (.ref d) (upd H d (.dK kvs))
section
variable {P : Program} {w : World} {K : PySem.W.Frag} {mg : Str → Option Value} {base : Heap}
theorem scTgt : FnScope ["thing"] ["thing"] (defScope sTgt) := ⟨rfl, rfl, rfl, by decide +kernel, rfl, by decide +kernel, by decide +kernel⟩
theorem ok_tgt {f fH : Addr} {fd fdH : FuncData} {k : Nat} {t1 t2 : Tok} (F : Fun K "is_target" "Table.is_target" sTgt f fd) (FH : Fun K "has_only" "has_only" sHas fH fdH) (bH : Binds K fdH ["text", "signs"] []) (gH : mg "has_only" = some (.ref fH))
    (mi : mg "isinstance" = none) (ms : mg "str" = none) (ml : mg "len" = none) (m8 : mg "LONGEST_TARGET" = some (.int 8 t1)) (mL : mg "LETTERS" = some (.str letters t2)) : FnOk P w K mg base CX0 (k + 2) f fd ["thing"] (spTgt K) := by
  have GH : FnOk P w K mg base CX0 (k + 1) fH fdH ["text", "signs"] spHas := ok_has FH
  refine F.ok scTgt (fun vs H Q E h => ?_) (fun cdv A outer s H vs Q E hr h => ?_)
  · obtain ⟨v, rfl, _⟩ := h
    rfl
  · obtain ⟨v, rfl, ⟨t, ty, kt⟩, hl, q⟩ := h
    refine ⟨_, pss_one (ps_ret (pe_and (pe_callB call_isi (by rfl) mi (by decide +kernel) (pa_cons (pv 0) (pa_cons (pe_bltn (v := .ty "str") (by rfl) ms (by decide +kernel) rfl) pa_nil)))
      (pe_and (pe_chain op_le op_le pe_int (pe_callB call_len_str (by rfl) ml PySem.boot_len (pa_cons (pv 0) pa_nil)) (pe_glob (v := .int 8) rfl m8 ⟨_, rfl⟩))
        (pe_one (pe_call GH hr (by rfl) gH FH.kp bH .nil pass0 (pa_cons (pv 0) (pa_cons (pe_glob (v := .str letters) rfl mL ⟨_, rfl⟩) pa_nil))))))), ?_⟩
    refine ⟨v, rfl, v, .ty "str", .type t, .type "str", _, rfl, .ty _, ty, kt, _, rfl, ?_⟩
    cases v with
    | str x =>
      have hx := hl x rfl
      have q' : Q (.bl (decide ((1 : Int) ≤ x.length) && decide ((x.length : Int) ≤ 8) && onlyOf letters x)) H := q
      refine iteT ⟨.str x, rfl, x, rfl, hx, _, _, rfl, rfl, _, rfl, ?_⟩
      by_cases h1 : (1 : Int) ≤ x.length
      · rw [decide_eq_true h1] at q' ⊢
        refine iteT ⟨_, _, rfl, rfl, _, rfl, ?_⟩
        by_cases h2 : (x.length : Int) ≤ 8
        · rw [decide_eq_true h2] at q' ⊢
          exact iteT ⟨.str x, rfl, x, _, rfl, hx, q'⟩
        · rw [decide_eq_false h2] at q' ⊢
          exact iteF q'
      · rw [decide_eq_false h1] at q' ⊢
        exact iteF (by first | exact q' | exact ⟨_, rfl, iteF q'⟩)
    | _ => exact iteF q
theorem scTChk : FnScope ["self", "value"] ["self", "value"] (defScope sTChk) := ⟨rfl, rfl, rfl, by decide +kernel, rfl, by decide +kernel, by decide +kernel⟩
theorem tgt_str {v : V} (h : isTgtV v) : ∃ x, v = .str x ∧ x.length ≤ 8 ∧ 1 ≤ x.length ∧ onlyOf letters x = true := by
  unfold isTgtV isTgt at h
  cases v with
  | str x =>
    dsimp only at h
    rw [Bool.and_eq_true, Bool.and_eq_true, decide_eq_true_iff, decide_eq_true_iff] at h
    exact ⟨x, rfl, by omega, by omega, h.2⟩
  | _ => cases h
theorem ok_tchk {f p g C : Addr} {fd fdT : FuncData} {k : Nat} (F : Fun K "_checked" "Table._checked" sTChk f fd) (T : ClsF K C) (ST : SMeth K C "is_target" p g) (GT : FnOk P w K mg base CX0 k g fdT ["thing"] (spTgt K)) (bT : Binds K fdT ["thing"] []) :
    FnOk P w K mg base CX0 (k + 1) f fd ["self", "value"] (spChk K C isTgtV) := by
  refine F.ok scTChk (fun vs H Q E h => ?_) (fun cdv A outer s H vs Q E hr h => ?_)
  · obtain ⟨x, dx, fs, v, rfl, _⟩ := h
    rfl
  · obtain ⟨x, dx, fs, v, rfl, hx, hfs, hv, q⟩ := h
    refine ⟨_, pss_cons (ps_if (pt_not (pt_val (pe_stat (pv 0) T.cl ST GT hr bT (pa_cons (pv 1) pa_nil)))) (pss_one ps_never) pss_nil) (pss_one (ps_ret (pv 1))), ?_⟩
    obtain ⟨y, rfl, hy, _⟩ := tgt_str hv
    refine ⟨.ref x, rfl, x, dx, fs, rfl, hx, hfs _ (by decide +kernel), .str y, rfl, .str y, rfl, TyS.of (N := fun _ => True) (.str y), fun z e => by rw [← V.str.inj e]; exact big_of (by omega), _, rfl, ?_⟩
    rw [show isTgt (.str y) = true from hv]
    exact iteF ⟨.str y, rfl, q⟩
theorem scTInit : ScS ["self", "width", "rows"] (defScope sTInit) := ⟨rfl, rfl, rfl, by decide +kernel, by decide +kernel, by decide +kernel, by decide +kernel, by decide +kernel, by decide +kernel⟩
/-- __init__ of a table is that of its base -/
theorem ok_tinit {f f2 C D : Addr} {fd fd2 : FuncData} {k : Nat} {file : Str} (F : FunS K file "__init__" "Table.__init__" sTInit f D fd) (G2 : FnOk P w K mg base CX0 k f2 fd2 ["self", "width", "rows"] (spInit K C isTgtV)) (b2 : Binds K fd2 ["self", "width", "rows"] []) (fi : PySem.W.fnIn K f2 = true)
    (ty : PySem.W.typeIn K (.ref f2) = some (.type "function")) (hcd : ∃ cdD, PySem.W.clsIn K D = some cdD) (hsub : PySem.W.mroIn K C (.ref D) = some true) (hm : PySem.W.ks_superIn K C D "__init__" = some (some (.ref f2))) (hop : PySem.W.nsIn K cStatics "thirdparty.any" = some none) (hsu : mg "super" = none)
    (hfile : ((P.main.file : Str) == file) = true) (htop : (P.main.scope.names.lookup ("super" : Str)).isSome = false) : FnOk P w K mg base CX0 (k + 1) f fd ["self", "width", "rows"] (spInit K C isTgtV) := by
  refine ok_super (self := "self") F scTInit ((G2.raw b2 .nil).imp fun vs H Q E h => by rw [List.append_nil]; exact h) fi ty hcd hsub hm hop hsu hfile htop rfl ⟨_, rfl, rfl⟩ rfl (by decide +kernel) (fun _ => ⟨_, rfl⟩) (fun _ => rfl) (fun _ => rfl) (fun _ => rfl) (fun vs H Q E h => ?_) (fun h => h) (fun A cda cc outer s H vs Q hr h => ?_)
  · obtain ⟨x, dx, d, w, xs, kvs, rfl, _⟩ := h
    rfl
  · obtain ⟨x, dx, d, w, xs, kvs, rfl, hx, w1, w32, hd, ok, h64, q⟩ := h
    refine ⟨x, dx, _, _, _, rfl, hx, pa_cons (pv 1) (pa_cons (pv 2) pa_nil), pss_nil, ?_⟩
    exact ⟨.int w, rfl, .ref d, rfl, x, dx, d, w, xs, kvs, rfl, hx, w1, w32, hd, ok, h64, q⟩
theorem scRows : FnScope ["self"] ["self"] (defScope sRows) := ⟨rfl, rfl, rfl, by decide +kernel, rfl, by decide +kernel, by decide +kernel⟩
theorem ok_rows {f C : Addr} {fd : FuncData} {k : Nat} (F : Fun K "rows" "PrefixMap.rows" sRows f fd) (T : ClsF K C) (md : mg "dict" = none) : FnOk P w K mg base CX0 (k + 1) f fd ["self"] (spRows C) := by
  refine F.ok scRows (fun vs H Q E h => ?_) (fun cdv A outer s H vs Q E hr h => ?_)
  · obtain ⟨x, e, w, kvs, rfl, _⟩ := h
    rfl
  · obtain ⟨x, e, w, kvs, rfl, ⟨⟨dx, hx⟩, he⟩, q⟩ := h
    refine ⟨_, pss_one (ps_ret (pe_callTy call_dictD (by rfl) md (by decide +kernel) (pa_cons (pe_fld (pv 0) rfl) pa_nil))), ?_⟩
    exact ⟨.ref x, rfl, x, C, dx, _, _, rfl, hx, T.cl, T.nR, flds_r _ _, e, kvs, rfl, .inl he, q⟩
end
theorem same_free {H H' : Hp} {a : Addr} (s : Same H H') (h : H' a = none) : H a = none := by
  cases e : H a with
  | none => rfl
  | some o =>
    rw [s _ _ e] at h
    cases h
/-! ### _law_lines, _law_lead -/
abbrev used : List V := [.str "a", .str "ab", .str "b", .str "any"]
theorem used_tgt {i : Nat} (h : i < 4) : ∃ x, used[i]? = some (.str x) ∧ isTgtV (.str x) ∧ Sm 100 x := by
  have h4 : i = 0 ∨ i = 1 ∨ i = 2 ∨ i = 3 := by omega
  rcases h4 with rfl | rfl | rfl | rfl
  · exact ⟨"a", rfl, show isTgt (.str "a") = true by decide +kernel, ⟨by decide +kernel, by decide +kernel⟩⟩
  · exact ⟨"ab", rfl, show isTgt (.str "ab") = true by decide +kernel, ⟨by decide +kernel, by decide +kernel⟩⟩
  · exact ⟨"b", rfl, show isTgt (.str "b") = true by decide +kernel, ⟨by decide +kernel, by decide +kernel⟩⟩
  · exact ⟨"any", rfl, show isTgt (.str "any") = true by decide +kernel, ⟨by decide +kernel, by decide +kernel⟩⟩
def spLinesM (vok : V → Prop) : Sp := fun vs H Q _ => ∃ (p c : Addr) (n z most : Nat) (m : List V), vs = [.ref p, .int z, .int most] ∧ Pen H p c n m ∧ n + 1000 ≤ PB ∧ z ≤ 32 ∧ most ≤ 20 ∧
  ∀ (d : Addr) (xs : List Str) (kvs : List (Key × V)) (H' : Hp), But p H H' → H d = none → H' d = some (.dK kvs) → RowsOk z vok xs kvs → xs.length ≤ most → Pen H' p c (n + 200) m → Q (.ref d) H'
section
variable {P : Program} {w : World} {K : PySem.W.Frag} {mg : Str → Option Value} {base : Heap}
theorem scLines : FnScope ["pen", "size", "most", "names_used", "prefix"] ["pen", "size", "most"] (defScope sLines) := ⟨rfl, rfl, rfl, by decide +kernel, rfl, by decide +kernel, by decide +kernel⟩
theorem ok_lines {f fD fX : Addr} {fd fdD fdX : FuncData} {k : Nat} (F : Fun K "_law_lines" "_law_lines" sLines f fd) (GD : FnOk P w K mg base CX0 k fD fdD ["pen", "below"] spDraw) (FD : Fun K "_law_draw" "_law_draw" sDraw fD fdD) (bD : Binds K fdD ["pen", "below"] []) (gD : mg "_law_draw" = some (.ref fD))
    (GX : FnOk P w K mg base CX0 k fX fdX ["pen", "size", "most"] spPrefixes) (FX : Fun K "_law_prefixes" "_law_prefixes" sPrefixes fX fdX) (bX : Binds K fdX ["pen", "size", "most"] []) (gX : mg "_law_prefixes" = some (.ref fX)) (md : mg "dict" = none) :
    FnOk P w K mg base CX0 (k + 1) f fd ["pen", "size", "most"] (spLinesM isTgtV) := by
  refine F.ok scLines (fun vs H Q E h => ?_) (fun cdv A outer s H vs Q E hr h => ?_)
  · obtain ⟨p, c, n, z, most, m, rfl, _⟩ := h
    rfl
  · obtain ⟨p, c, n, z, most, m, rfl, hp, hn, hz, hk, q⟩ := h
    have nd := scLines.nd
    have hnB : n + 1000 ≤ 1000000000000 := hn
    refine ⟨_, pss_cons (ps_set (i := 3) nd rfl (.inr rfl) (pe_lst (pa_cons pe_str (pa_cons pe_str (pa_cons pe_str (pa_cons pe_str pa_nil))))))
      (pss_one (ps_ret (pe_callTy (call_dictP rfl) (by rfl) md (by decide +kernel) (pa_cons
      (pe_lc (own := [("prefix", 4)]) (g := gName 4) (tt := tYes) rfl nd (pi_list (pe_call GX hr (by rfl) gX FX.kp bX .nil pass0 (pa_cons (pv 0) (pa_cons (pv 1) (pa_cons (pv 2) pa_nil)))))
        (blkOk_by (N := ["pen", "size", "most", "names_used", "prefix"]) (sc := defScope sLines) (by decide +kernel)) (fun _ _ _ _ _ => pg_name (i := 4) nd rfl (.inl rfl)) (fun _ _ _ _ _ => pts_nil)
        (fun _ _ _ _ _ => pe_tup (pa_cons (pv 4) (pa_cons (pe_ix (r := rIxL K) ix_list (pv 3) (pe_call GD hr (by rfl) gD FD.kp bD .nil pass0 (pa_cons (pv 0) (pa_cons pe_int pa_nil))) (fun _ _ => rfl)) pa_nil)))) pa_nil)))), ?_⟩
    refine ⟨by show 4 ≤ sizeLine; decide, fun u nu => ?_⟩
    have s0 := same_upd (o := .lst used) nu
    have hp0 := hp.keep s0
    have up : u ≠ p := hp.ne_p nu
    have hu0 : (upd H u (.lst used)) u = some (.lst used) := upd_same
    refine ⟨.ref p, rfl, .int z, rfl, .int most, rfl, p, c, n, z, most, m, rfl, hp0, by show n + 1000 ≤ 1000000000000; omega, hz, hk, fun l xs H1 b1 p1 nl hl hx hx7 => ?_⟩
    have b1' : But p H H1 := (But.of_same s0).trans b1
    have hu1 := b1 _ _ up hu0
    have nl0 : H l = none := (upd_free nl).2
    refine ⟨l, rfl, ⟨_, SqL.of hl⟩, fun D nD => ?_⟩
    have nDl : D ≠ l := fun e => by rw [e, hl] at nD; cases nD
    have nDu : D ≠ u := fun e => by rw [e, hu1] at nD; cases nD
    have nDp := p1.ne_p nD
    refine lc_it walk_list (fun i H' => ∃ ps kvs, PairsAt K H' D isTgtV (xs.take i) ps kvs ∧ ps.length = i ∧ H' l = some (.lst (xs.map V.str)) ∧ H' u = some (.lst used) ∧ But p H H' ∧ Pen H' p c (n + 161 + i) m) ⟨[], [], ⟨upd_same, .nil, by rw [List.take_zero]; rfl, fun _ h => absurd h List.not_mem_nil⟩, rfl, by rw [upd_ne nDl.symm]; exact hl, by rw [upd_ne nDu.symm]; exact hu1, b1'.trans (.of_same (same_upd nD)), (p1.mono (by omega)).off nDp (p1.ne_c nD)⟩
      (fun i H' hi h => by obtain ⟨_, _, _, _, h, _⟩ := h; exact SqL.of h) ?_ ?_
    · rintro i v H' H'' hi ⟨ps, kvs, hps, hpl, hl', hu', bH, pH⟩ ⟨rfl, hv⟩
      have hi' : i < xs.length := by rw [List.length_map] at hi; exact hi
      rw [List.getElem?_map, List.getElem?_eq_getElem hi'] at hv
      obtain rfl : V.str xs[i] = v := Option.some.inj hv
      refine ⟨rfl, yes_if ?_⟩
      refine ⟨.str xs[i], rfl, .ref u, rfl, .ref p, rfl, p, c, _, m, 4, rfl, pH, by show n + 161 + i ≤ 1000000000000; omega, by decide, by decide, fun d H3 d0 d1 b3 p3 => ?_⟩
      obtain ⟨y, hy, ty, _⟩ := used_tgt (i := d.toNat) (by omega)
      refine ⟨u, used, d, .str y, rfl, rfl, SqL.of (b3 _ _ up hu'), at_of (j := d.toNat) (by omega) hy, by show 2 ≤ sizeLine; decide, fun t nt => ?_⟩
      obtain ⟨o, hpo⟩ := pH.lst
      have h3 := hps.but b3 hpo nDp
      have s2 := same_upd (o := .tup [.str xs[i], .str y]) nt
      have et : xs.take (i + 1) = xs.take i ++ [xs[i]] := by rw [List.take_add_one, List.getElem?_eq_getElem hi']; rfl
      refine ⟨_, s2 _ _ h3.at_, ?_, ps ++ [t], kvs ++ [(.inr xs[i], .str y)], ?_, by rw [List.length_append, hpl]; rfl, ?_, ?_, ?_, ?_⟩
      · exact Nat.lt_of_le_of_lt (show (ps.map V.ref).length ≤ 1000 by rw [List.length_map]; omega) (by decide)
      · rw [et]
        exact h3.snoc (v := .str y) ty nt
      · rw [upd_ne nDl.symm]
        exact s2 _ _ (b3 _ _ (hp0.ne_p nl) hl')
      · rw [upd_ne nDu.symm]
        exact s2 _ _ (b3 _ _ up hu')
      · exact pairs_old (b1'.free nDp nD) bH b3 nt
      · exact ((p3.keep s2).mono (by omega)).off nDp (p1.ne_c nD)
    · rintro H' ⟨ps, kvs, hps, hpl, hl', hu', bH, pH⟩
      rw [List.length_map, List.take_of_length_le (Nat.le_refl _)] at hps
      rw [List.length_map] at hpl pH
      refine ⟨D, ps, kvs, rfl, SqL.of hps.at_, hps.prs, fun d nd' => ?_⟩
      rw [pair_merge hps hx.nd]
      exact q d xs kvs _ (bH.trans (.of_same (same_upd nd'))) (bH.free (pH.ne_p nd') nd') upd_same ⟨hps.keys, hx, hps.val⟩ hx7 ((pH.keep (same_upd nd')).mono (by omega))
end
/-! ### ascending texts: one order alone -/
def LeS (a b : Str) : Prop := sg a ≤ sg b
theorem leS_trans {a b c : Str} (h : LeS a b) (h' : LeS b c) : LeS a c := List.le_trans h h'
theorem leS_anti {a b : Str} (h : LeS a b) (h' : LeS b a) : a = b := str_ext (List.le_antisymm h h')
theorem rise_pw : ∀ (l : List Str) (p : Str), risingS p l = true → (p :: l).Pairwise LeS
  | [], p, _ => List.pairwise_cons.mpr ⟨fun _ h => absurd h List.not_mem_nil, List.Pairwise.nil⟩
  | x :: r, p, h => by
    have h2 : (!ltCps (sg x) (sg p) && risingS x r) = true := h
    rw [Bool.and_eq_true, ltCps_eq] at h2
    have ih := rise_pw r x h2.2
    have hx : LeS p x := by
      have z : ¬ (sg x < sg p) := by
        have := h2.1
        simpa using this
      exact List.not_lt.mp z
    refine List.pairwise_cons.mpr ⟨fun y hy => ?_, ih⟩
    rcases List.mem_cons.mp hy with rfl | hy
    · exact hx
    · exact leS_trans hx ((List.pairwise_cons.mp ih).1 y hy)
theorem up_pw {l : List Str} (h : sortedS l = true) : l.Pairwise LeS := by
  cases l with
  | nil => exact List.Pairwise.nil
  | cons x r => exact rise_pw r x h
theorem up_uniq {l l' : List Str} (p : l.Perm l') (h : sortedS l = true) (h' : sortedS l' = true) : l = l' :=
  List.Perm.eq_of_pairwise (le := LeS) (fun a b _ _ q q' => leS_anti q q') (up_pw h) (up_pw h') p
theorem kv_ext {k1 k2 : List (Key × V)} (e : k1.map (·.1) = k2.map (·.1)) (nd : (k1.map (·.1)).Nodup) (v : ∀ k ∈ k1.map (·.1), valV k1 k = valV k2 k) : k1 = k2 := by
  have el : k1.length = k2.length := by
    have := congrArg List.length e
    rw [List.length_map, List.length_map] at this
    exact this
  refine List.ext_getElem el fun i h1 h2 => ?_
  have e1 : (k1[i]).1 = (k2[i]).1 := by
    have a1 : (k1.map (·.1))[i]? = some (k1[i]).1 := by rw [List.getElem?_map, List.getElem?_eq_getElem h1]; rfl
    have a2 : (k2.map (·.1))[i]? = some (k2[i]).1 := by rw [List.getElem?_map, List.getElem?_eq_getElem h2]; rfl
    rw [e, a2] at a1
    exact (Option.some.inj a1).symm
  have v1 := valV_some nd (k := (k1[i]).1) (v := (k1[i]).2) (List.getElem_mem h1)
  have v2 := valV_some (e ▸ nd) (k := (k2[i]).1) (v := (k2[i]).2) (List.getElem_mem h2)
  have v3 := v _ (List.mem_map.mpr ⟨_, List.getElem_mem h1, rfl⟩)
  have e2 : (k1[i]).2 = (k2[i]).2 := by
    rw [v1, e1, v2] at v3
    exact Option.some.inj v3
  exact Prod.ext e1 e2
theorem Sorted.uniq {xs ys1 ys2 : List Str} {kvs k1 k2 : List (Key × V)} (nd : xs.Nodup) (h1 : Sorted xs kvs k1 ys1) (h2 : Sorted xs kvs k2 ys2) : k1 = k2 := by
  have e : ys1 = ys2 := up_uniq (h1.perm.trans h2.perm.symm) h1.up h2.up
  refine kv_ext (by rw [h1.keys, h2.keys, e]) ?_ fun k hk => ?_
  · rw [h1.keys]
    exact (h1.perm.nodup_iff.mpr nd).map Sum.inr (fun a b h e => h (Sum.inr.inj e))
  · rw [h1.keys] at hk
    obtain ⟨y, hy, rfl⟩ := List.mem_map.mp hk
    have hx := h1.perm.mem_iff.mp hy
    rw [h1.val y hx, h2.val y hx]
/-! ### how tables show -/
theorem tgt_sm {v : V} (h : isTgtV v) : ∃ x, v = .str x ∧ Sm 8 x := by
  obtain ⟨x, rfl, h8, _, hx⟩ := tgt_str h
  refine ⟨x, rfl, h8, fun c hc => ?_⟩
  have h1 := List.all_eq_true.mp hx c hc
  have all : letters.cps.toList.all (fun c => decide (c < 128)) = true := by decide +kernel
  exact of_decide_eq_true (List.all_eq_true.mp all c (Array.mem_toList_iff.mpr (Array.contains_iff.mp h1)))
theorem dr_rows {K : PySem.W.Frag} {H : Hp} {N : Addr → Prop} : ∀ (kvs : List (Key × V)), (∀ kv ∈ kvs, (∃ y, kv.1 = .inr y ∧ Sm 32 y) ∧ isTgtV kv.2) → ∃ ds, DrKv K H N kvs ds ∧ ds.length = kvs.length ∧ ∀ d ∈ ds, OkD 0 322 d.1 ∧ OkD 0 82 d.2
  | [], _ => ⟨[], .nil, rfl, fun _ h => absurd h List.not_mem_nil⟩
  | (k, v) :: r, h => by
    obtain ⟨⟨y, e, sy⟩, hv⟩ := h (k, v) List.mem_cons_self
    have e' : k = .inr y := e
    subst e'
    obtain ⟨x, ex, sx⟩ := tgt_sm hv
    have ex' : v = .str x := ex
    subst ex'
    obtain ⟨ds, h1, h2, h3⟩ := dr_rows r fun kv hk => h kv (List.mem_cons_of_mem _ hk)
    refine ⟨(.str y, .str x) :: ds, .cons (k := .inr y) (.str x) h1, by rw [List.length_cons, List.length_cons, h2], fun d hd => ?_⟩
    rcases List.mem_cons.mp hd with rfl | hd
    · exact ⟨sy.ok (by decide), sx.ok (by decide)⟩
    · exact h3 d hd
abbrev sMade : Stmt := inClass sCls 1
abbrev sWith : Stmt := inClass sCls 9
/-- a new map of this class with these rows -/
def Made (C : Addr) (w : Nat) (xs : List Str) (kvs : List (Key × V)) (H : Hp) (Q : VK) : Prop := ∀ (x e : Addr) (ys : List Str) (kvs' : List (Key × V)) (H' : Hp), H x = none → Same H H' → Sorted xs kvs kvs' ys → MapAt C H' x e w kvs' → Q (.ref x) H'
def spMade (C : Addr) (vok : V → Prop) : Sp := fun vs H Q _ => ∃ (d : Addr) (w : Nat) (xs : List Str) (kvs : List (Key × V)), vs = [.ref C, .int w, .ref d] ∧ 1 ≤ w ∧ w ≤ 32 ∧ H d = some (.dK kvs) ∧ RowsOk w vok xs kvs ∧ xs.length < 64 ∧ Made C w xs kvs H Q
/-- a map with one row more, or replaced -/
def spWith (C : Addr) (vok : V → Prop) : Sp := fun vs H Q _ => ∃ (x e : Addr) (w : Nat) (xs : List Str) (kvs : List (Key × V)) (y : Str) (v : V), vs = [.ref x, .str y, v] ∧ MapAt C H x e w kvs ∧ RowsOk w vok xs kvs ∧ 1 ≤ w ∧ w ≤ 32 ∧ isBits y = true ∧ y.length ≤ w ∧ vok v ∧ xs.length < 60 ∧
  ∀ xs2, RowsOk w vok xs2 (putK kvs (.inr y) v) → (∀ z, z ∈ xs2 ↔ z = y ∨ z ∈ xs) → xs2.length ≤ xs.length + 1 → Made C w xs2 (putK kvs (.inr y) v) H Q
theorem Made.later {C : Addr} {w : Nat} {xs : List Str} {kvs : List (Key × V)} {H H1 : Hp} {Q : VK} (s : Same H H1) (h : Made C w xs kvs H Q) : Made C w xs kvs H1 Q := fun x e ys kvs' H' nx s' hs hm => h x e ys kvs' H' (same_free s nx) (s.trans s') hs hm
theorem keys_put {kvs : List (Key × V)} {k0 : Key} {v : V} (k : Key) : k ∈ (putK kvs k0 v).map (·.1) ↔ k = k0 ∨ k ∈ kvs.map (·.1) := by
  by_cases hm : k0 ∈ kvs.map (·.1)
  · have e : (putK kvs k0 v).map (·.1) = kvs.map (·.1) := by
      unfold putK
      rw [if_pos (by obtain ⟨p, hp, e⟩ := List.mem_map.mp hm; exact List.any_eq_true.mpr ⟨p, hp, decide_eq_true e⟩), List.map_map]
      refine List.map_congr_left fun p _ => ?_
      show (if p.1 = k0 then (p.1, v) else p).1 = p.1
      split <;> rfl
    rw [e]
    exact ⟨.inr, fun h => h.elim (fun q => q ▸ hm) id⟩
  · rw [putK_end hm, List.map_append, List.mem_append]
    exact ⟨fun h => h.elim .inr fun q => .inl (List.mem_singleton.mp q), fun h => h.elim (fun q => .inr (List.mem_singleton.mpr q)) .inl⟩
theorem RowsOk.acc {w : Nat} {vok : V → Prop} {xs : List Str} {kvs : List (Key × V)} (h : RowsOk w vok xs kvs) : RowsAcc w vok kvs := by
  refine ⟨by rw [h.keys]; exact h.pfx.nd.map Sum.inr (fun a b h e => h (Sum.inr.inj e)), fun kv hk => ?_⟩
  have hkey : kv.1 ∈ xs.map Sum.inr := by
    rw [← h.keys]
    exact List.mem_map.mpr ⟨kv, hk, rfl⟩
  obtain ⟨y, hy, ey⟩ := List.mem_map.mp hkey
  exact ⟨y, ey.symm, h.pfx.bits y hy, h.pfx.len y hy, h.val kv hk⟩
theorem RowsOk.put {w : Nat} {vok : V → Prop} {xs : List Str} {kvs : List (Key × V)} (h : RowsOk w vok xs kvs) {y : Str} {v : V} (hb : isBits y = true) (hl : y.length ≤ w) (hv : vok v) :
    ∃ xs2, RowsOk w vok xs2 (putK kvs (.inr y) v) ∧ (∀ z, z ∈ xs2 ↔ z = y ∨ z ∈ xs) ∧ xs2.length ≤ xs.length + 1 := by
  obtain ⟨xs2, ok2, l2⟩ := (h.acc.put hb hl hv).ok
  refine ⟨xs2, ok2, fun z => ?_, ?_⟩
  · rw [← inr_mem ok2.keys z, keys_put, inr_mem h.keys z]
    exact ⟨fun q => q.imp Sum.inr.inj id, fun q => q.imp (congrArg Sum.inr) id⟩
  · have a := length_putK kvs (.inr y) v
    have b : kvs.length = xs.length := by
      have := congrArg List.length h.keys
      rw [List.length_map, List.length_map] at this
      exact this
    omega
section
variable {P : Program} {w : World} {K : PySem.W.Frag} {mg : Str → Option Value} {base : Heap}
end
/-! ### == and != of maps -/
abbrev sEq : Stmt := inClass sCls 6
/-- __eq__ of two maps of one class with the same rows -/
def spEqM (C : Addr) : Sp := fun vs H Q _ => ∃ (x y e e2 : Addr) (w : Nat) (kvs : List (Key × V)), vs = [.ref x, .ref y] ∧ MapAt C H x e w kvs ∧ MapAt C H y e2 w kvs ∧ (kvs.map (·.1)).Nodup ∧ (∀ kv ∈ kvs, flatB kv.2 = true) ∧ Q (.bl true) H
/-- what isinstance and != ask of a class of one's own -/
structure ObjC (K : PySem.W.Frag) (C : Addr) : Prop where
  ca : PySem.W.findIn K (.ref C) "__class__" = some (some (.builtin "object.__class__"))
  cg : PySem.W.specialIn K (.builtin "object.__class__") "__get__" = some (some (.builtin "getset_descriptor.__get__"))
  ct : PySem.W.takesIn K (.builtin "object.__class__") = some true
  ob : PySem.W.mroIn K C (.type "object") = some true
  ne : PySem.W.findIn K (.ref C) "__ne__" = some (some (.builtin "object.__ne__"))
section
variable {P : Program} {w : World} {K : PySem.W.Frag} {mg : Str → Option Value} {base : Heap}
theorem scEq : FnScope ["self", "other"] ["self", "other"] (defScope sEq) := ⟨rfl, rfl, rfl, by decide +kernel, rfl, by decide +kernel, by decide +kernel⟩
theorem ok_eqm {f C D : Addr} {fd : FuncData} {k : Nat} (F : Fun K "__eq__" "PrefixMap.__eq__" sEq f fd) (T : ClsF K C) (mi : mg "isinstance" = none) (mt : mg "type" = none) (mD : mg "PrefixMap" = some (.ref D)) (hk : PySem.W.kitOne K (.ref C) (.ref D) = some true) (hmk : PySem.W.makesIn K C = true) (OC : ObjC K C) :
    FnOk P w K mg base CX0 (k + 1) f fd ["self", "other"] (spEqM C) := by
  refine F.ok scEq (fun vs H Q E h => ?_) (fun cdv A outer s H vs Q E hr h => ?_)
  · obtain ⟨x, y, e, e2, w, kvs, rfl, _⟩ := h
    rfl
  · obtain ⟨x, y, e, e2, w, kvs, rfl, ⟨⟨dx, hx⟩, he⟩, ⟨⟨dy, hy⟩, he2⟩, nd, fl, q⟩ := h
    have hu := hu_of hr
    refine ⟨_, pss_cons (ps_if (pt_not (pt_val (pe_callB call_isi (by rfl) mi (by decide +kernel) (pa_cons (pv 1) (pa_cons (pe_glob (v := .ref D) rfl mD rfl) pa_nil))))) (pss_one (ps_ret pe_bl)) pss_nil)
      (pss_one (ps_ret (pe_and (pe_cmpR op_is_cls (pe_callTy cr_type (by rfl) mt (by decide +kernel) (pa_cons (pv 0) pa_nil)) (pe_callTy cr_type (by rfl) mt (by decide +kernel) (pa_cons (pv 1) pa_nil)) (nomark _))
        (pe_and (pe_cmpR op_eq (pe_fld (pv 0) rfl) (pe_fld (pv 1) rfl) (nomark _)) (pe_one (pe_cmpR (op_eq_dictA (Nat.lt_of_succ_lt hu)) (pe_fld (pv 0) rfl) (pe_fld (pv 1) rfl) (nomark _))))))), ?_⟩
    refine ⟨.ref y, rfl, .ref y, .ref D, .ref C, .ref D, _, rfl, .own _, .base (.ins hy T.cl OC.ca OC.cg OC.ct OC.ob), hk, _, rfl, iteF ?_⟩
    refine ⟨.ref x, rfl, x, C, dx, _, rfl, hx, .ref y, rfl, y, C, dy, _, rfl, hy, C, C, rfl, rfl, .inl rfl, _, rfl, ?_⟩
    rw [decide_eq_true rfl]
    refine iteT ⟨.ref x, rfl, x, C, dx, _, _, rfl, hx, T.cl, T.nW, flds_w _ _, .ref y, rfl, y, C, dy, _, _, rfl, hy, T.cl, T.nW, flds_w _ _, rfl, _, rfl, ?_⟩
    rw [decide_eq_true rfl]
    refine iteT ⟨.ref x, rfl, x, C, dx, _, _, rfl, hx, T.cl, T.nR, flds_r _ _, .ref y, rfl, y, C, dy, _, _, rfl, hy, T.cl, T.nR, flds_r _ _, e, e2, kvs, kvs, rfl, rfl, he, he2, rfl, fun p hp => ⟨valV_some nd (k := p.1) (v := p.2) hp, fl p hp⟩, q⟩
end
section
open PySem.W
variable {M : Model} {P : Program} {w : World} {K : Frag} {A : Around} {E : Value → Shared → Prop} {s : Shared} {x C : Addr} {ox : Obj} {od : Option Obj}
/-- a special method that is a built-in's -/
theorem special_b {name : Str} {id : String} {args : List Value} {Z : Option Value → Shared → Prop} (X : K.In s.heap) (J : InstAt s.heap x ox C od) (hs : findIn K (.ref C) name = some (some (.builtin id))) (S : Slot "object" name id)
    (h : wpAny M A (call (.builtin id) (.ref x :: args)) (fun v => Z (some v)) E s) : wpAny M A (callSpecialIfBound? (.ref x) name args) Z E s := by
  simp only [callSpecialIfBound?, bindSpecialIfBound?]
  refine wpAny_holding (wpAny_bind (wpAny_bind (wpAny_bind (J.type.here ((looks_findIn X hs).here ?_)))))
  simp only [S.bind]
  refine wpAny_bind (wpAny_askSetting (wpAny_ite ?_))
  have done : wpAny M A (call (.builtin id) ([.ref x] ++ args) >>= fun v => pure (some v)) Z E s := wpAny_bind (thn h fun v s' q => wpAny_pure q)
  split
  · exact wpAny_bind (wpAny_pure (wpAny_pure done))
  · exact wpAny_tryCatch (wpAny_bind (wpAny_pure (wpAny_pure done)))
theorem ne_inst {y f : Addr} {oy : Obj} {od' : Option Obj} {Z : Value → Shared → Prop} (X : K.In s.heap) (OC : Kt.ObjC K C) (J : InstAt s.heap x ox C od) (J' : InstAt s.heap y oy C od') (hu : A.units + 1 < cLine) (he : findIn K (.ref C) "__eq__" = some (some (.ref f))) (hf : isFn K (.ref f) = true)
    (h : wpAny (model P w) A.in1 (call (.ref f) [.ref x, .ref y]) (fun v s' => ∃ b, v = .bool b ∧ Z (.bool (!b)) s') E s) : wpAny (model P w) A (richCompare .NotEq (.ref x) (.ref y)) Z E s := by
  have S := PySem.F.cmp_object.ne
  unfold richCompare
  simp only [oneThing_ref]
  refine wpAny_holding (wpAny_bind (wpAny_cRoomFor (Nat.lt_of_succ_lt hu) ?_))
  rw [cmpInfo_NotEq]
  dsimp only
  refine wpAny_bind (J.type.here (wpAny_bind (J'.type.here ?_)))
  simp only [bne_self_eq_false, Bool.false_eq_true, if_false]
  refine wpAny_bind (wpAny_pure ?_)
  simp only [Bool.false_eq_true, if_false]
  refine wpAny_bind ?_
  unfold tryCompare
  have sub : Looks (model P w) s.heap (isInstance (.ref x) (.type "object")) true := J.type.andThen (looks_mroIn X OC.ob)
  refine wpAny_bind (special_b X J OC.ne S (wpAny_call (codeAny_call_builtin S.plain PySem.F.cmpEntry_ne (check_slot PySem.F.cmpKind_ne PySem.F.cmpSplit_ne sub (PySem.F.cmpArgs_ne _ _) ?_))))
  unfold Builtin.«object.__ne__»
  refine wpAny_bind (m := slotArgs "__ne__" 1 _) (wpAny_pure ?_)
  refine wpAny_bind (wpAny_cRoomFor hu ?_)
  refine wpAny_bind (ifBound_K X J he hf (thn h fun v s' q => ?_))
  obtain ⟨b, rfl, q⟩ := q
  refine wpAny_bind (m := truthy (.bool b)) (wpAny_truthy_bool ?_)
  exact wpAny_pure (wpAny_pure (wpAny_pure q))
end
/-- a != b, two instances of a class whose own == promises -/
def rNeI (C : Addr) (sp : Sp) : R2 := fun x y H Q => ∃ a b dx dy fs gs, x = .ref a ∧ y = .ref b ∧ H a = some (.ins C dx fs) ∧ H b = some (.ins C dy gs) ∧ sp [.ref a, .ref b] H (fun v H' => ∃ k, v = .bl k ∧ Q (.bl (!k)) H') E0
theorem op_neI {X : Cx} {C f : Addr} {fd : FuncData} {k : Nat} {ps : List Str} {sp : Sp} (F : FnOk X.prog X.w X.K X.mg X.base CX0 k f fd ps sp) (hr : Room (k + 1) X.A) (OC : ObjC X.K C) (he : PySem.W.findIn X.K (.ref C) "__eq__" = some (some (.ref f))) (hf : PySem.W.isFn X.K (.ref f) = true) (hb : Binds X.K fd ps []) :
    OpR X (compareOp .NotEq) (rNeI C sp) := by
  intro pins s σ H x y v u Q I rx ry h
  obtain ⟨a, b, dx, dy, fs, gs, rfl, rfl, ha, hb', q⟩ := h
  cases rx
  cases ry
  obtain ⟨_, O1, _⟩ := ins_get I.hok ha
  obtain ⟨_, O2, _⟩ := ins_get I.hok hb'
  obtain ⟨_, J1, _⟩ := O1.look
  obtain ⟨_, J2, _⟩ := O2.look
  have hl := F.len _ _ _ _ q
  show wpAny (model X.prog X.w) X.A (richCompare .NotEq (.ref a) (.ref b)) (EP X pins σ Q) X.xe s
  refine ne_inst I.kIn OC J1 J2 (by have := hr.units; omega) he hf (wpAny_call (codeAny_mono (F.run X.A.in1 X.stack s H ⟨[.ref a, .ref b], []⟩ [.ref a, .ref b] [.ref a, .ref b] _ _ hr.in1 I.env0.in1 (by
    have z := hb s [.ref a, .ref b] I.kIn (by simpa using hl)
    simpa using z) (.cons rfl (.cons rfl .nil)) q) fun res s' hq => ?_))
  match res, hq with
  | .ok (.ret r), hq =>
    obtain ⟨z, H', I', rz, k, ez, q'⟩ := I.after hq
    subst ez
    obtain rfl : r = Value.bool k := rz
    exact ⟨k, rfl, .bl (!k), H', I', rfl, q'⟩
theorem kit_own {K : PySem.W.Frag} {C D : Addr} (h1 : PySem.W.isClsIn K D = true) (h2 : PySem.W.typeIn K (.ref D) = some (.type "type")) (h3 : PySem.W.mroIn K C (.ref D) = some true) : PySem.W.kitOne K (.ref C) (.ref D) = some true := by
  unfold PySem.W.kitOne
  split
  · rfl
  · show (if ((PySem.W.clsIn K D).isSome && PySem.W.typeIn K (.ref D) == some (.type "type")) = true then PySem.W.mroIn K C (.ref D) else none) = some true
    rw [if_pos (by rw [show (PySem.W.clsIn K D).isSome = true from h1, h2]; exact beq_self_eq_true _)]
    exact h3
section
open PySem.W
variable {M : Model} {P : Program} {w : World} {K : Frag} {A : Around} {E : Value → Shared → Prop} {s : Shared} {x C : Addr} {ox : Obj} {od : Option Obj}
theorem eq_inst {y f : Addr} {oy : Obj} {od' : Option Obj} {Z : Value → Shared → Prop} (X : K.In s.heap) (J : InstAt s.heap x ox C od) (J' : InstAt s.heap y oy C od') (hu : A.units < cLine) (he : findIn K (.ref C) "__eq__" = some (some (.ref f))) (hf : isFn K (.ref f) = true)
    (h : wpAny (model P w) A (call (.ref f) [.ref x, .ref y]) (fun v s' => ∃ b, v = .bool b ∧ Z (.bool b) s') E s) : wpAny (model P w) A (richCompare .Eq (.ref x) (.ref y)) Z E s := by
  unfold richCompare
  simp only [oneThing_ref]
  refine wpAny_holding (wpAny_bind (wpAny_cRoomFor hu ?_))
  rw [cmpInfo_Eq]
  dsimp only
  refine wpAny_bind (J.type.here (wpAny_bind (J'.type.here ?_)))
  simp only [bne_self_eq_false, Bool.false_eq_true, if_false]
  refine wpAny_bind (wpAny_pure ?_)
  simp only [Bool.false_eq_true, if_false]
  refine wpAny_bind ?_
  unfold tryCompare
  refine wpAny_bind (ifBound_K X J he hf (thn h fun v s' q => ?_))
  obtain ⟨b, rfl, q⟩ := q
  exact wpAny_pure (wpAny_pure q)
end
/-- a == b, two instances of a class whose own == promises -/
def rEqI (C : Addr) (sp : Sp) : R2 := fun x y H Q => ∃ a b dx dy fs gs, x = .ref a ∧ y = .ref b ∧ H a = some (.ins C dx fs) ∧ H b = some (.ins C dy gs) ∧ sp [.ref a, .ref b] H (fun v H' => ∃ k, v = .bl k ∧ Q (.bl k) H') E0
theorem op_eqI {X : Cx} {C f : Addr} {fd : FuncData} {k : Nat} {ps : List Str} {sp : Sp} (F : FnOk X.prog X.w X.K X.mg X.base CX0 k f fd ps sp) (hr : Room k X.A) (he : PySem.W.findIn X.K (.ref C) "__eq__" = some (some (.ref f))) (hf : PySem.W.isFn X.K (.ref f) = true) (hb : Binds X.K fd ps []) :
    OpR X (compareOp .Eq) (rEqI C sp) := by
  intro pins s σ H x y v u Q I rx ry h
  obtain ⟨a, b, dx, dy, fs, gs, rfl, rfl, ha, hb', q⟩ := h
  cases rx
  cases ry
  obtain ⟨_, O1, _⟩ := ins_get I.hok ha
  obtain ⟨_, O2, _⟩ := ins_get I.hok hb'
  obtain ⟨_, J1, _⟩ := O1.look
  obtain ⟨_, J2, _⟩ := O2.look
  show wpAny (model X.prog X.w) X.A (richCompare .Eq (.ref a) (.ref b)) (EP X pins σ Q) X.xe s
  refine eq_inst I.kIn J1 J2 (by have := hr.units; omega) he hf (wpAny_mono (run_fn (us := [.ref a, .ref b]) (vs := [V.ref a, V.ref b]) (dvs := []) (ds := []) (Q := fun v H' => ∃ k, v = .bl k ∧ Q (.bl k) H') F hr hb .nil pass0 I (.cons rfl (.cons rfl .nil)) q) (fun r s' hq => ?_) fun _ _ z => z)
  obtain ⟨z, H', I', rz, k, ez, q'⟩ := hq
  subst ez
  obtain rfl : r = Value.bool k := rz
  exact ⟨k, rfl, .bl k, H', I', rfl, q'⟩
/-! ### the rows put into ascending order, one by one -/
structure KeptAt (kvs : List (Key × V)) (ys : List Str) (i : Nat) (kvs' : List (Key × V)) : Prop where
  keys : kvs'.map (·.1) = (ys.take i).map Sum.inr
  val : ∀ y v, (Sum.inr y, v) ∈ kvs' → valV kvs (.inr y) = some v
theorem KeptAt.nil {kvs : List (Key × V)} {ys : List Str} : KeptAt kvs ys 0 [] := ⟨rfl, fun _ _ h => (List.not_mem_nil h).elim⟩
theorem KeptAt.len {kvs kvs' : List (Key × V)} {ys : List Str} {i : Nat} (h : KeptAt kvs ys i kvs') : kvs'.length ≤ ys.length := by
  have : kvs'.length = ((ys.take i).map Sum.inr : List Key).length := by rw [← h.keys, List.length_map]
  rw [List.length_map, List.length_take] at this
  omega
theorem KeptAt.new {kvs kvs' : List (Key × V)} {ys : List Str} {i : Nat} (h : KeptAt kvs ys i kvs') (nd : ys.Nodup) (hi : i < ys.length) : (Sum.inr ys[i] : Key) ∉ kvs'.map (·.1) := by
  rw [h.keys, List.mem_map]
  rintro ⟨z, hz, e⟩
  obtain ⟨j, hj, ej⟩ := List.mem_take_iff_getElem.mp hz
  have e2 : ys[j]'(by omega) = ys[i] := by rw [ej]; exact Sum.inr.inj e
  have := (List.getElem_inj nd).mp e2
  omega
theorem KeptAt.snoc {kvs kvs' : List (Key × V)} {ys : List Str} {i : Nat} {v : V} (h : KeptAt kvs ys i kvs') (hi : i < ys.length) (hv : valV kvs (.inr ys[i]) = some v) : KeptAt kvs ys (i + 1) (kvs' ++ [(.inr ys[i], v)]) := by
  refine ⟨?_, fun y v' hm => ?_⟩
  · rw [List.map_append, h.keys, List.take_add_one, List.getElem?_eq_getElem hi, List.map_append]
    rfl
  · rcases List.mem_append.mp hm with hm | hm
    · exact h.val y v' hm
    · cases List.mem_singleton.mp hm
      exact hv
theorem KeptAt.put {kvs kvs' : List (Key × V)} {ys : List Str} {i : Nat} {v : V} (h : KeptAt kvs ys i kvs') (nd : ys.Nodup) (hi : i < ys.length) (hv : valV kvs (.inr ys[i]) = some v) : KeptAt kvs ys (i + 1) (putK kvs' (.inr ys[i]) v) := by
  rw [putK_end (h.new nd hi)]
  exact h.snoc hi hv
theorem KeptAt.done {kvs kvs' : List (Key × V)} {xs ys : List Str} {n : Nat} (h : KeptAt kvs ys n kvs') (hn : ys.length ≤ n) (perm : ys.Perm xs) (nd : xs.Nodup) (up : sortedS ys = true) : Sorted xs kvs kvs' ys := by
  have hk : kvs'.map (·.1) = ys.map Sum.inr := by rw [h.keys, List.take_of_length_le hn]
  have kn' : (kvs'.map (·.1)).Nodup := by
    rw [hk]
    exact (perm.nodup_iff.mpr nd).map Sum.inr (fun a b h e => h (Sum.inr.inj e))
  refine ⟨hk, perm, up, fun y hy => ?_⟩
  have hm : (Sum.inr y : Key) ∈ kvs'.map (·.1) := (inr_mem hk _).mpr (perm.mem_iff.mpr hy)
  obtain ⟨p, hp, e⟩ := List.mem_map.mp hm
  obtain ⟨k', v⟩ := p
  have e' : k' = Sum.inr y := e
  subst e'
  rw [valV_some kn' hp, h.val y v hp]
/-- the value of a row that is there -/
theorem val_at {kvs : List (Key × V)} {xs : List Str} (hk : kvs.map (·.1) = xs.map Sum.inr) {y : Str} (hy : y ∈ xs) : ∃ v, valV kvs (.inr y) = some v ∧ (Sum.inr y, v) ∈ kvs := by
  have hkm : (Sum.inr y : Key) ∈ kvs.map (·.1) := (inr_mem hk _).mpr hy
  obtain ⟨v, hval⟩ := Option.isSome_iff_exists.mp (valV_mem.mpr hkm)
  refine ⟨v, hval, ?_⟩
  unfold valV at hval
  obtain ⟨p, hp, e⟩ := Option.map_eq_some_iff.mp hval
  have h1 := List.mem_of_find?_eq_some hp
  have h2 : p.1 = Sum.inr y := by
    have z := List.find?_some hp
    exact of_decide_eq_true z
  rw [← h2, ← e]
  exact h1
theorem upd_free2 {H : Hp} {a b e : Addr} {o u : HO} (h : upd (upd H a o) b u e = none) : e ≠ b ∧ e ≠ a ∧ H e = none := by
  obtain ⟨h1, h2⟩ := upd_free h
  obtain ⟨h3, h4⟩ := upd_free h2
  exact ⟨h1, h3, h4⟩
/-! ### C.m(..), m a staticmethod of the class C -/
structure CSta (K : PySem.W.Frag) (C : Addr) (mc : Value) (m : Str) (p g : Addr) : Prop where
  at_ : PySem.W.findCls K (.ref C) mc m = some (.get (.builtin "staticmethod.__get__") (.ref p) .none (.ref C))
  rc : ∃ rest, PySem.W.recIn K p "staticmethod" = some (.ref g :: rest)
  kp : PySem.W.keepIn K (.ref g) = true
def tCStat (C : Addr) (sp : Sp) (ta : TE) (t : TA) : TE := fun σ H Q => ta σ H fun x H1 => x = .ref C ∧ t σ H1 fun ws H2 => sp ws H2 Q E0
section
variable {X : Cx} {k : Nat} {C p g f : Addr} {mc : Value} {sp : Sp} {o e : Expr} {es : List Expr} {m : Str} {pos apos : Pos} {ta : TE} {t : TA} {fd : FuncData} {ps : List Str}
theorem pe_cstat {pl : Sem Bool} (he : PE X o ta) (r : ClX.CRead X.K C mc) (c : CSta X.K C mc m p g) (F : FnOk X.prog X.w X.K X.mg X.base CX0 k g fd ps sp) (hr : Room k X.A) (hb : Binds X.K fd ps []) (ha : PA X (e :: es) t)
    (hst : starEach (e :: es) X.env = (false, eval e X.env) :: starEach es X.env := by rfl) (hpl : (backTo pos (starEach es X.env)).any (·.1) = false := by rfl)
    (ht : eval (.Call (.Attribute o m apos) (e :: es) [] pos) X.env = (eval o X.env >>= fun ov => standAt apos.atName >>= fun _ => holding [ov] (getMethod ov m pl) >>= fun q => callWith pos q.1 q.2 (backTo pos (starEach (e :: es) X.env)) (backToKw pos (keywordEach [] X.env))) := by rfl) :
    PE X (.Call (.Attribute o m apos) (e :: es) [] pos) (tCStat C sp ta t) := by
  refine ⟨fun pins s σ H Q I h => ?_⟩
  refine PySem.W.methodCall_KW (pl := pl) (thn (he.run pins s σ H _ I h) fun u s1 ⟨x, H1, I1, rx, ex, q⟩ => ?_) ht
  subst ex
  obtain rfl : u = Value.ref C := rx
  obtain ⟨rest, hrec⟩ := c.rc
  refine PySem.W.method_cls I1.kIn r.ga (PySem.W.cls_bind I1.kIn r.rd c.at_ ?_)
  refine wpAny_call (PySem.W.sm_get (s := { s1 with toks := s1.toks + 1 }) I1.kIn hrec (PySem.W.handed_on (by rfl) ?_))
  have I2 := I1.tok (s1.toks + 1)
  refine PySem.W.callWith_K (first := []) (h₀ := X.base) I2.ok.mod.kin c.kp (thn (ha.run pos pins _ σ H1 _ I2 q) fun us s2 ⟨vs, H2, I3, r, q2⟩ => ⟨I3.kIn, ?_⟩) hst hpl
  exact run_fn F hr hb .nil pass0 I3 r (by rw [List.append_nil]; exact q2)
end
/-! ### sets of texts -/
abbrev NK : Type := Option Key
/-- what an entry of a set's table holds: None, an int or a text -/
def nxV : Value → NK
  | .str k _ => some (.inr k)
  | .int i _ => some (.inl i)
  | _ => none
def nxOf (e : Int × Value) : NK := nxV e.2
def hashN (w : World) : NK → Int
  | none => reduceHash 0xFCA86420
  | some k => keyH w k
theorem nx_val {k : NK} {v : Value} (h : nkIs k v = true) : nxV v = k ∧ v.scannable = true := by
  cases k with
  | none =>
    have e := nk_none h
    subst e
    exact ⟨rfl, rfl⟩
  | some k =>
    rcases keyIs_shape (show keyIs k v = true from h) with ⟨i, t, rfl, rfl⟩ | ⟨x, t, rfl, rfl⟩
    · exact ⟨rfl, rfl⟩
    · exact ⟨rfl, rfl⟩
/-- an entry is such a value with its own hash -/
def NxE (w : World) (e : Int × Value) : Prop := ∃ k, nkIs k e.2 = true ∧ e.1 = hashN w k
theorem hashN_is (P : Program) (w : World) (k : NK) : (noneKind P w).hash k = hashN w k := by cases k <;> rfl
/-- the table of a set whose members are ks -/
structure NxT (w : World) (es : Array (Int × Value)) (t : SetTable) (ks : List NK) : Prop where
  ent : ∀ e ∈ es.toList, NxE w e
  mem : (es.toList.map nxOf).Perm ks
  nd : ks.Nodup
  few : es.size < scanBound
  fit : t.fits es.size = true
  ris : Ris t.place.toList
  led : w.params.followText "set-order" = true ∨ t.led = true
/-- at a the set of the texts ks -/
def NxS (w : World) (h : Heap) (a : Addr) (ks : List NK) : Prop := ∃ (o : Obj) (es : Array (Int × Value)) (ep : Nat) (t : SetTable), h.get? a = some o ∧ o.ExactSet ∧ o.data = .set es ep t ∧ NxT w es t ks
theorem NxS.keep {w : World} {h h' : Heap} {a : Addr} {ks : List NK} (R : NxS w h a ks) (k : ∀ o, h.get? a = some o → h'.get? a = some o) : NxS w h' a ks :=
  let ⟨o, es, ep, t, ho, r⟩ := R
  ⟨o, es, ep, t, k o ho, r⟩
theorem nx_is {P : Program} {w : World} {e : Int × Value} (g : NxE w e) (k : NK) : (noneKind P w).is k e.2 = true ↔ nxOf e = k := by
  obtain ⟨k0, h1, _⟩ := g
  have z : nxOf e = k0 := (nx_val h1).1
  rw [z]
  constructor
  · intro q
    exact (noneKind P w).inj _ _ _ h1 q
  · rintro rfl
    exact h1
section
variable {P : Program} {w : World} {A : Around} {E : Value → Shared → Prop} {s : Shared} {a : Addr}
theorem NxT.elems {es : Array (Int × Value)} {t : SetTable} {ks : List NK} (T : NxT w es t ks) : ElemsOf (noneKind P w) es.toList := fun e he => by
  obtain ⟨k, h1, h2⟩ := T.ent e he
  exact ⟨⟨k, h1, by rw [h2, hashN_is]⟩, (nx_val h1).2⟩
theorem NxT.relaid {es es' : Array (Int × Value)} {t t' : SetTable} {ks : List NK} (T : NxT w es t ks) (p : es'.toList.Perm es.toList) (hf : t'.fits es'.size = true) (hr : Ris t'.place.toList) (hl : t'.led = t.led) : NxT w es' t' ks := by
  have n : es'.size = es.size := by
    rw [← Array.length_toList, ← Array.length_toList]
    exact p.length_eq
  exact ⟨fun e he => T.ent e (p.mem_iff.mp he), (p.map nxOf).trans T.mem, T.nd, n ▸ T.few, hf, hr, by rw [hl]; exact T.led⟩
theorem nx_store {h : Heap} {o : Obj} {es es' : Array (Int × Value)} {ep : Nat} {t t' : SetTable} (ho : h.get? a = some o) (hd : o.data = .set es ep t) : (h.update a (Obj.putSet es' t')).get? a = some { o with data := .set es' (ep + 1) t' } :=
  L2.store_at ho hd
theorem nx_tail {g : Bool → Sem Unit} (free : ∀ (b : Bool) (r : Shared) (Z : Unit → Shared → Prop), Z () r → wpAny (model P w) A (g b) Z E r) {o : Obj} {es es1 : Array (Int × Value)} {ep : Nat} {t t2 : SetTable} {ks : List NK} (ho : s.heap.get? a = some o) (hx : o.ExactSet)
    (hd : o.data = .set es ep t) (T : NxT w es1 t2 ks) {wd : Bool} {Z : Option Bool → Shared → Prop} (hZ : ∀ h', Heap.SameBut a s.heap h' → NxS w h' a ks → Z (some true) { s with heap := h' }) :
    wpAny (model P w) A (storeSet a es1 t2 >>= fun _ => if (!wd && t2.tooFull) = true then g (relayAll t2 es1 (SetTable.grown es1.size)).2.2 >>= fun _ => storeSet a (relayAll t2 es1 (SetTable.grown es1.size)).1 (relayAll t2 es1 (SetTable.grown es1.size)).2.1 >>= fun _ => pure (some true) else pure (some true)) Z E s := by
  refine wpAny_bind (wpAny_storeSet_of ho hd ?_ (fits_of_scanBound T.few))
  have o1 := nx_store (es' := es1) (t' := t2) ho hd
  have b1 := Heap.SameBut.update s.heap a (Obj.putSet es1 t2)
  split
  · have T2 := T.relaid (relayAll_perm t2 es1 (SetTable.grown es1.size)) (relayAll_fits t2 es1 _) (L2.relayAll_ris t2 es1 _) (L2.relayAll_led t2 es1 _)
    revert T2
    generalize relayAll t2 es1 (SetTable.grown es1.size) = z
    intro T2
    refine wpAny_bind (free _ _ _ (wpAny_bind (wpAny_storeSet_of o1 rfl ?_ (fits_of_scanBound T2.few))))
    exact wpAny_pure (hZ _ (b1.trans (Heap.SameBut.update _ a _)) ⟨_, z.1, _, z.2.1, nx_store (es' := z.1) (t' := z.2.1) o1 rfl, hx, rfl, T2⟩)
  · exact wpAny_pure (hZ _ b1 ⟨_, es1, _, t2, o1, hx, rfl, T⟩)
theorem nx_add {ks : List NK} {k : NK} {v : Value} {Z : Bool → Shared → Prop} (kv : nkIs k v = true) (R : NxS w s.heap a ks) (room : ks.length + 1 < scanBound)
    (hZ : ∀ h' b ks', Heap.SameBut a s.heap h' → NxS w h' a ks' → (∀ x, x ∈ ks' ↔ x = k ∨ x ∈ ks) → ks'.length ≤ ks.length + 1 → Z b { s with heap := h' }) : wpAny (model P w) A (setAddHashed a v ((noneKind P w).hash k)) Z E s := by
  obtain ⟨o, es, ep, t, ho, hx, hd, T⟩ := R
  have hsc : v.scannable = true := (nx_val kv).2
  unfold setAddHashed setAddHashedIn
  refine wpAny_holding (wpAny_bind (wpAny_setState_of ho hd T.fit ?_))
  show wpAny _ _ (if byScan v es = true then _ else _) _ _ _
  rw [if_pos (byScan_of hsc T.few (T.elems (P := P)))]
  unfold setAddByScan
  refine wpAny_bind (wpAny_bind (wpAny_rule (wpAny_bind (wpAny_setScan_of (kv) ho hd T.fit T.elems ?_))))
  cases hf : es.toList.findIdx? (fun e => (noneKind P w).is k e.2) with
  | some j =>
    obtain ⟨hj, pj, _⟩ := List.findIdx?_eq_some_iff_getElem.mp hf
    have hk : k ∈ ks := T.mem.mem_iff.mp (List.mem_map.mpr ⟨_, List.getElem_mem hj, (nx_is (T.ent _ (List.getElem_mem hj)) k).mp pj⟩)
    refine wpAny_pure (wpAny_pure (hZ s.heap _ ks (Heap.SameBut.refl a s.heap) ⟨o, es, ep, t, ho, hx, hd, T⟩ (fun x => ⟨.inr, fun q => q.elim (fun e => e ▸ hk) id⟩) (Nat.le_succ _)))
  | none =>
    have hk : k ∉ ks := fun q => by
      obtain ⟨e, he, ee⟩ := List.mem_map.mp (T.mem.mem_iff.mpr q)
      have c := List.findIdx?_eq_none_iff.mp hf e he
      rw [(nx_is (T.ent e he) k).mpr ee] at c
      cases c
    have gw : ∀ (b : Bool) {r : Shared} {Y : Unit → Shared → Prop}, Y () r → wpAny (model P w) A (match b with | true => rule "set.scan.the-table-gave-way" | false => pure ()) Y E r := fun b r Y q => by
      cases b
      · exact wpAny_pure q
      · exact wpAny_rule q
    have pm := layNew_perm t es ((noneKind P w).hash k) v
    have f1 := layNew_fits t es ((noneKind P w).hash k) v
    have r1 := L2.layNew_ris t es ((noneKind P w).hash k) v T.ris
    have l1 := L2.layNew_led t es ((noneKind P w).hash k) v
    dsimp only
    revert pm f1 r1 l1
    generalize layNew t es ((noneKind P w).hash k) v = z
    obtain ⟨es1, t1, wd, gave⟩ := z
    dsimp only
    intro pm f1 r1 l1
    rw [Array.toList_push] at pm
    have pc : es1.toList.Perm (((noneKind P w).hash k, v) :: es.toList) := pm.trans (List.perm_append_singleton _ _)
    have n1 : es1.size = es.size + 1 := by
      rw [← Array.length_toList, pc.length_eq, List.length_cons, Array.length_toList]
    have n2 : ks.length = es.size := by
      rw [← T.mem.length_eq, List.length_map, Array.length_toList]
    have mk : ∀ t2 : SetTable, t2.fits es1.size = true → Ris t2.place.toList → t2.led = t1.led → NxT w es1 t2 (k :: ks) := fun t2 q1 q2 q3 =>
      ⟨fun e he => (List.mem_cons.mp (pc.mem_iff.mp he)).elim (fun q => by rw [q]; exact ⟨k, kv, by rw [hashN_is]⟩) (T.ent e), (pc.map nxOf).trans (by rw [List.map_cons, show nxOf (_, v) = k from (nx_val kv).1]; exact T.mem.cons k), List.nodup_cons.mpr ⟨hk, T.nd⟩, by rw [n1, ← n2]; exact room, q1, q2, by rw [q3, l1]; exact T.led⟩
    have fin : ∀ h', Heap.SameBut a s.heap h' → NxS w h' a (k :: ks) → Z true { s with heap := h' } := fun h' sb r => hZ h' true (k :: ks) sb r (fun x => List.mem_cons) (Nat.le_refl _)
    refine wpAny_bind (gw _ ?_)
    split
    · refine wpAny_bind ?_
      rw [hashByValue_scannable 8 hsc]
      refine wpAny_pure (nx_tail (fun b r Y q => gw b q) ho hx hd (mk _ ?_ ?_ ?_) fun h' sb r => wpAny_pure (fin h' sb r))
      · first | (split <;> first | exact f1 | exact SetTable.fits_plain_off f1) | exact f1
      · first | (split <;> exact r1) | exact r1
      · first | (split <;> rfl) | rfl
    · refine wpAny_bind (wpAny_pure ?_)
      simp only [↓reduceIte]
      exact nx_tail (fun b r Y q => gw b q) ho hx hd (mk t1 f1 r1 rfl) fun h' sb r => wpAny_pure (fin h' sb r)
end
/-! ### set(a list of texts), sorted(a set of texts) -/
abbrev newSetN (w : World) : Obj := { cls := .type "set", dict := none, data := .set #[] 0 (.fresh 0 0 (!w.params.followText "set-order")) }
theorem nx_new {w : World} {h : Heap} {a : Addr} (e : h.get? a = some (newSetN w)) : NxS w h a [] := by
  refine ⟨_, #[], 0, _, e, ⟨rfl, rfl, rfl⟩, rfl, fun e he => ?_, .nil, List.nodup_nil, by decide, by rfl, List.Pairwise.nil, ?_⟩
  · simp at he
  · show _ ∨ (!w.params.followText "set-order") = true
    cases w.params.followText "set-order"
    · exact .inr rfl
    · exact .inl rfl
section
variable {P : Program} {w : World} {A : Around} {E : Value → Shared → Prop} {s : Shared}
theorem nx_fill {I S : Addr} {fp wr : List Addr} {G : Array GenState → Array GenState → Prop} {n : Nat} {Pv : Nat → Value → Prop} {St : Nat → Shared → Prop} {Z : Result → Shared → Prop} (W : WalksS P w A.in1 I fp wr G n Pv St) (nS : S ∉ fp) (xs : List NK) (en : n = xs.length) (room : xs.length + 1 < scanBound)
    (txt : ∀ i v, Pv i v → ∃ k, xs[i]? = some k ∧ nkIs k v = true) : ∀ (m i : Nat) (s : Shared), n - i = m → i ≤ n → St i s → (∃ ks, NxS w s.heap S ks ∧ (∀ x, x ∈ ks ↔ x ∈ xs.take i) ∧ ks.length ≤ i) →
      (∀ s' ks, Moved (S :: wr) G s s' → NxS w s'.heap S ks → (∀ x, x ∈ ks ↔ x ∈ xs) → ks.length ≤ n → Z (.ok (.ret .none)) s') → codeAny (model P w) A (.builtin "set.update.loop" ⟨[.ref S, .ref I], []⟩) Z s := by
  have nW : S ∉ wr := fun q => nS (W.sub _ q)
  have up : ∀ b ∈ wr, b ∈ S :: wr := fun b q => List.mem_cons_of_mem _ q
  intro m
  induction m with
  | zero =>
    rintro i s hm hi st ⟨ks, R, sub, len⟩ fin
    obtain rfl : i = n := by omega
    rw [List.take_of_length_le (by omega)] at sub
    refine codeAny_builtin PyProof.Rows.F.entry_set_update_loop ?_
    rw [Around.under_plainId PyProof.Rows.F.plain_set_update_loop _]
    show wpAny _ A.in1 (pyNext (.ref I) >>= _) _ _ _
    refine wpAny_bind (W.done s _ _ st fun s' mv => ?_)
    exact wpAny_pure (fin s' ks (mv.mono up) (R.keep fun o e => mv.heap S o nW e) sub len)
  | succ m ih =>
    rintro i s hm hi st ⟨ks, R, sub, len⟩ fin
    have lt : i < n := by omega
    refine codeAny_builtin PyProof.Rows.F.entry_set_update_loop ?_
    rw [Around.under_plainId PyProof.Rows.F.plain_set_update_loop _]
    show wpAny _ A.in1 (pyNext (.ref I) >>= _) _ _ _
    refine wpAny_bind (W.item i s _ _ lt st fun v s' pv st' mv => ?_)
    obtain ⟨k, hk, kv⟩ := txt i v pv
    have R1 : NxS w s'.heap S ks := R.keep fun o e => mv.heap S o nW e
    show wpAny _ A.in1 (holding [v] (setAdd S v) >>= _) _ _ _
    refine wpAny_bind (wpAny_holding ?_)
    unfold setAdd
    refine wpAny_holding (wpAny_bind ((noneKind P w).pyHash (k := k) kv ?_))
    refine nx_add (s := { s' with toks := s'.toks + 1 }) kv R1 (by omega) fun h' b ks' sb R2 mem ln => ?_
    refine wpAny_pure ⟨plainId_quiet PyProof.Rows.F.plain_set_update_loop _, ih (i + 1) _ (by omega) lt (W.frame _ s' _ _ st' (Nat.le_succ _) fun c hc o e => ?_) ⟨ks', R2, fun x => ?_, by omega⟩ fun s'' ks'' mv2 R3 sub3 ln3 => ?_⟩
    · rw [sb.2 c (fun q : c = S => nS (q ▸ hc))]
      exact e
    · rw [mem x, List.take_add_one, hk, List.mem_append, sub x]
      exact ⟨fun q => q.elim (fun e => .inr (by rw [e]; exact List.mem_singleton.mpr rfl)) .inl, fun q => q.elim .inr fun e => .inl (List.mem_singleton.mp e)⟩
    · refine fin s'' ks'' (Moved.trans W.gtrans ((mv.mono up).then_heap (Nat.le_succ _) fun c o hc e => ?_) mv2) R3 sub3 ln3
      rw [sb.2 c (fun q : c = S => hc (by rw [q]; exact List.mem_cons_self))]
      exact e
set_option maxHeartbeats 8000000 in
theorem nx_make {l : Addr} {its : Array Value} (xs : List NK) {Z : Value → Shared → Prop} (calm : A.handled = none) (hl : s.heap.IsList l its) (many : its.size = xs.length) (hx : ∀ (i : Nat) (v : Value), its[i]? = some v → ∃ k, xs[i]? = some k ∧ nkIs k v = true) (room : xs.length + 1 < scanBound)
    (hZ : ∀ (h' : Heap) (tk : Nat) (ks : List NK), NxS w h' s.heap.objs.size ks → (∀ x, x ∈ ks ↔ x ∈ xs) → ks.length ≤ xs.length → (∀ b o, s.heap.get? b = some o → h'.get? b = some o) → Z (.ref s.heap.objs.size) { s with heap := h', toks := tk }) :
    wpAny (model P w) A (call (.type "set") [.ref l]) Z E s := by
  obtain ⟨_, _, m1⟩ := PySem.F.called_set.mro; have m2 := PySem.F.called_set.made; have m3 := PySem.F.called_set.sub
  refine wpAny_call (codeAny_of_tree ?_)
  show wpAny _ _ (callAny (.type "set") ⟨[.ref l], []⟩) _ _ _
  refine wpAny_pure ⟨Code.quiet_builtin _ (by decide +kernel), codeAny_builtin PySem.F.entry_type_call ?_⟩
  rw [Around.under_plain (weight_type_call_type "set" [.ref l] []) rfl]
  have c1 := PySem.F.called_set.notType; have c2 := PySem.F.called_set.canCreate; have c3 := PySem.F.typeCall_set_1 (.ref l)
  repeat (any_goals (first | assumption | wp_step))
  refine codeAny_mono (L2.code_set_led1 (.ref l) (E := E) (Q₁ := fun v r => v = .ref s.heap.objs.size ∧ r = { s with heap := s.heap.push (newSetN w) }) ⟨rfl, rfl⟩) fun res r1 hr => ?_
  match res, hr with
  | .error e, hr => exact hr
  | .ok (.ret v), hr =>
    obtain ⟨rfl, rfl⟩ := hr
    have at0 : (s.heap.push (newSetN w)).get? s.heap.objs.size = some (newSetN w) := Heap.get?_push_size _ rfl
    have ty0 : Shared.TypeIs { s with heap := s.heap.push (newSetN w) } (.ref s.heap.objs.size) "set" := ⟨_, at0, rfl⟩
    have i1 := PySem.F.called_set.init.lookup; have i2 := PySem.F.called_set.init.bind (.ref s.heap.objs.size)
    repeat (any_goals (first | assumption | wp_step))
    refine codeAny_mono (codeAny_call_builtin (R := wants (fun v r => v = .none ∧ ∃ h' tk ks, r = { s with heap := h', toks := tk } ∧ NxS w h' s.heap.objs.size ks ∧ (∀ x, x ∈ ks ↔ x ∈ xs) ∧ ks.length ≤ xs.length ∧ ∀ b o, s.heap.get? b = some o → h'.get? b = some o) E) PySem.F.called_set.init.plain
      PySem.F.entry_set_init (check_set_init_1 ty0 ?_)) fun res2 r2 hr2 => ?_
    · obtain ⟨⟨ocls, od, odt, osl⟩, e0, e1, nn, e2⟩ := hl
      simp only at e1 e2
      subst e1; subst e2
      have lS : l < s.heap.objs.size := Heap.lt_size e0
      have e3 := Heap.get?_push_of_some (newSetN w) e0
      have d1 := PySem.F.sub_list_set; have d2 := PySem.F.sub_list_frozenset; have d3 : (Value.type "list" == Value.type "dict") = false := by decide
      have l1 : (s.heap.push (newSetN w)).IsList l its := ⟨_, e3, rfl, nn, rfl⟩
      unfold Builtin.«set.__init__» noKeywords Builtin.Frozenset.updateFrom
      generalize hPI : pyIter = PI
      wp_walk
      subst hPI
      refine wpAny_pyIter_list l1 (wpAny_bind (wpAny_runValue ?_))
      have z1 : (s.heap.push (newSetN w)).objs.size = s.heap.objs.size + 1 := Heap.size_push ..
      have far : l ≠ (s.heap.push (newSetN w)).objs.size := by
        rw [z1]
        exact Nat.ne_of_lt (Nat.lt_succ_of_lt lS)
      have out : s.heap.objs.size ∉ [(s.heap.push (newSetN w)).objs.size, l] := by
        rw [z1, List.mem_cons, List.mem_singleton]
        exact fun q => q.elim (Nat.ne_of_lt (Nat.lt_succ_self _)) (Nat.ne_of_gt lS)
      refine nx_fill ((Walks.list (show A.in1.in1.in1.handled = none by simp [calm]) _ l far its).toS) out xs many room (fun i v hv => ?_) (its.size - 0) 0 _ rfl (Nat.zero_le _) ⟨⟨_, Heap.get?_push_size _ rfl, rfl, rfl⟩, l1.push _⟩ ⟨[], nx_new (Heap.get?_push_of_some _ at0), fun _ => Iff.rfl, Nat.le_refl _⟩ fun r ks mv R sub ln => ?_
      · exact hx i v hv
      · obtain ⟨h', g', d', tk', os'⟩ := r
        obtain rfl : g' = s.gens := mv.gens
        obtain rfl : d' = s.drawn := mv.drawn
        obtain rfl : os' = s.os := mv.os
        show wpAny _ _ _ _ _ _
        refine wpAny_pure ?_
        show wpAny _ _ (ret Value.none) _ _ _
        refine wpAny_pure ⟨rfl, h', tk', ks, rfl, R, sub, by omega, fun b o e => ?_⟩
        have b0 : b < s.heap.objs.size := Heap.lt_size e
        refine mv.heap b o ?_ (Heap.get?_push_of_some _ (Heap.get?_push_of_some _ e))
        rw [List.mem_cons, List.mem_singleton, z1]
        exact fun q => q.elim (Nat.ne_of_lt b0) (Nat.ne_of_lt (Nat.lt_succ_of_lt b0))
    · match res2, hr2 with
      | .error e, hr2 => exact hr2
      | .ok (.ret v), hr2 =>
        obtain ⟨rfl, h', tk, ks, rfl, R, sub, ln, kp⟩ := hr2
        repeat (any_goals (first | assumption | wp_step))
        exact hZ _ _ _ R sub ln kp
set_option maxHeartbeats 8000000 in
theorem nx_makeT {l : Addr} {its : Array Value} (xs : List NK) {Z : Value → Shared → Prop} (calm : A.handled = none) (hl : s.heap.IsTuple l its) (many : its.size = xs.length) (hx : ∀ (i : Nat) (v : Value), its[i]? = some v → ∃ k, xs[i]? = some k ∧ nkIs k v = true) (room : xs.length + 1 < scanBound)
    (hZ : ∀ (h' : Heap) (tk : Nat) (ks : List NK), NxS w h' s.heap.objs.size ks → (∀ x, x ∈ ks ↔ x ∈ xs) → ks.length ≤ xs.length → (∀ b o, s.heap.get? b = some o → h'.get? b = some o) → Z (.ref s.heap.objs.size) { s with heap := h', toks := tk }) :
    wpAny (model P w) A (call (.type "set") [.ref l]) Z E s := by
  obtain ⟨_, _, m1⟩ := PySem.F.called_set.mro; have m2 := PySem.F.called_set.made; have m3 := PySem.F.called_set.sub
  refine wpAny_call (codeAny_of_tree ?_)
  show wpAny _ _ (callAny (.type "set") ⟨[.ref l], []⟩) _ _ _
  refine wpAny_pure ⟨Code.quiet_builtin _ (by decide +kernel), codeAny_builtin PySem.F.entry_type_call ?_⟩
  rw [Around.under_plain (weight_type_call_type "set" [.ref l] []) rfl]
  have c1 := PySem.F.called_set.notType; have c2 := PySem.F.called_set.canCreate; have c3 := PySem.F.typeCall_set_1 (.ref l)
  repeat (any_goals (first | assumption | wp_step))
  refine codeAny_mono (L2.code_set_led1 (.ref l) (E := E) (Q₁ := fun v r => v = .ref s.heap.objs.size ∧ r = { s with heap := s.heap.push (newSetN w) }) ⟨rfl, rfl⟩) fun res r1 hr => ?_
  match res, hr with
  | .error e, hr => exact hr
  | .ok (.ret v), hr =>
    obtain ⟨rfl, rfl⟩ := hr
    have at0 : (s.heap.push (newSetN w)).get? s.heap.objs.size = some (newSetN w) := Heap.get?_push_size _ rfl
    have ty0 : Shared.TypeIs { s with heap := s.heap.push (newSetN w) } (.ref s.heap.objs.size) "set" := ⟨_, at0, rfl⟩
    have i1 := PySem.F.called_set.init.lookup; have i2 := PySem.F.called_set.init.bind (.ref s.heap.objs.size)
    repeat (any_goals (first | assumption | wp_step))
    refine codeAny_mono (codeAny_call_builtin (R := wants (fun v r => v = .none ∧ ∃ h' tk ks, r = { s with heap := h', toks := tk } ∧ NxS w h' s.heap.objs.size ks ∧ (∀ x, x ∈ ks ↔ x ∈ xs) ∧ ks.length ≤ xs.length ∧ ∀ b o, s.heap.get? b = some o → h'.get? b = some o) E) PySem.F.called_set.init.plain
      PySem.F.entry_set_init (check_set_init_1 ty0 ?_)) fun res2 r2 hr2 => ?_
    · obtain ⟨⟨ocls, od, odt, osl⟩, e0, e1, nn, e2⟩ := hl
      simp only at e1 e2
      subst e1; subst e2
      have lS : l < s.heap.objs.size := Heap.lt_size e0
      have e3 := Heap.get?_push_of_some (newSetN w) e0
      have d1 := PySem.F.sub_tuple_set; have d2 := PySem.F.sub_tuple_frozenset; have d3 : (Value.type "tuple" == Value.type "dict") = false := by decide
      have l1 : (s.heap.push (newSetN w)).IsTuple l its := ⟨_, e3, rfl, nn, rfl⟩
      unfold Builtin.«set.__init__» noKeywords Builtin.Frozenset.updateFrom
      generalize hPI : pyIter = PI
      wp_walk
      subst hPI
      refine wpAny_pyIter_tuple l1 (wpAny_bind (wpAny_runValue ?_))
      have z1 : (s.heap.push (newSetN w)).objs.size = s.heap.objs.size + 1 := Heap.size_push ..
      have far : l ≠ (s.heap.push (newSetN w)).objs.size := by
        rw [z1]
        exact Nat.ne_of_lt (Nat.lt_succ_of_lt lS)
      have out : s.heap.objs.size ∉ [(s.heap.push (newSetN w)).objs.size, l] := by
        rw [z1, List.mem_cons, List.mem_singleton]
        exact fun q => q.elim (Nat.ne_of_lt (Nat.lt_succ_self _)) (Nat.ne_of_gt lS)
      refine nx_fill ((Walks.tuple (show A.in1.in1.in1.handled = none by simp [calm]) _ l far its).toS) out xs many room (fun i v hv => ?_) (its.size - 0) 0 _ rfl (Nat.zero_le _) ⟨⟨_, Heap.get?_push_size _ rfl, rfl, rfl⟩, l1.push _⟩ ⟨[], nx_new (Heap.get?_push_of_some _ at0), fun _ => Iff.rfl, Nat.le_refl _⟩ fun r ks mv R sub ln => ?_
      · exact hx i v hv
      · obtain ⟨h', g', d', tk', os'⟩ := r
        obtain rfl : g' = s.gens := mv.gens
        obtain rfl : d' = s.drawn := mv.drawn
        obtain rfl : os' = s.os := mv.os
        show wpAny _ _ _ _ _ _
        refine wpAny_pure ?_
        show wpAny _ _ (ret Value.none) _ _ _
        refine wpAny_pure ⟨rfl, h', tk', ks, rfl, R, sub, by omega, fun b o e => ?_⟩
        have b0 : b < s.heap.objs.size := Heap.lt_size e
        refine mv.heap b o ?_ (Heap.get?_push_of_some _ (Heap.get?_push_of_some _ e))
        rw [List.mem_cons, List.mem_singleton, z1]
        exact fun q => q.elim (Nat.ne_of_lt b0) (Nat.ne_of_lt (Nat.lt_succ_of_lt b0))
    · match res2, hr2 with
      | .error e, hr2 => exact hr2
      | .ok (.ret v), hr2 =>
        obtain ⟨rfl, h', tk, ks, rfl, R, sub, ln, kp⟩ := hr2
        repeat (any_goals (first | assumption | wp_step))
        exact hZ _ _ _ R sub ln kp
end

/-! ### as rules -/
def NxO (w : World) (a : Addr) (ks : List NK) : HO := .ext fun h => NxS w h a ks
theorem nxO_new {w : World} {P : Program} {H : Hp} {h : Heap} {a : Addr} {ks : List NK} (R : NxS w h a ks) : ObjOk P w H h a (NxO w a ks) := by
  have ⟨o, _, _, _, ho, _⟩ := R
  exact ⟨R, ⟨o, ho⟩, fun _ _ p k => p.keep k⟩
def nkV : NK → V
  | none => .non
  | some k => kV k
theorem nk_rel {k : NK} {v : Value} (h : RelV (nkV k) v) : nkIs k v = true := by
  cases k with
  | none =>
    cases (show v = Value.none from h)
    rfl
  | some k =>
    cases k with
    | inl i =>
      obtain ⟨t, rfl⟩ := (show ∃ t, v = Value.int i t from h)
      exact beq_self_eq_true _
    | inr x =>
      obtain ⟨t, rfl⟩ := (show ∃ t, v = Value.str x t from h)
      exact beq_self_eq_true _
theorem nk_vals : ∀ {ks : List NK} {vs : List Value}, Vals (ks.map nkV) vs → vs.length = ks.length ∧ ∀ (i : Nat) (v : Value), vs[i]? = some v → ∃ k, ks[i]? = some k ∧ nkIs k v = true
  | [], _, r => by
    cases r
    exact ⟨rfl, fun i v h => by cases i <;> cases h⟩
  | k :: ks, _, r => by
    cases r with
    | cons r1 r2 =>
      obtain ⟨l, h⟩ := nk_vals r2
      refine ⟨congrArg (· + 1) l, fun i v hi => ?_⟩
      cases i with
      | zero =>
        cases hi
        exact ⟨k, rfl, nk_rel r1⟩
      | succ i => exact h i v hi
section
variable {X : Cx}
/-- set(a list or tuple of texts, ints, None) -/
def rSetN (w : World) (K : PySem.W.Frag) : List V → Hp → VK → Prop := fun xs H Q => ∃ (a : Addr) (ys : List NK), xs = [.ref a] ∧ (SqL K H a (ys.map nkV) ∨ SqT K H a (ys.map nkV)) ∧ ys.length < 4000 ∧ ∀ (p : Addr) (ks : List NK), H p = none → ks.Nodup → (∀ x, x ∈ ks ↔ x ∈ ys) → ks.length ≤ ys.length → Q (.ref p) (upd H p (NxO w p ks))
theorem cr_setN (calm : X.calm = true) : CallR X (.type "set") (rSetN X.w X.K) := by
  intro pins s σ H xs us Q I r h
  obtain ⟨a, ys, rfl, hs, hl, q⟩ := h
  rw [Vals.ref1 r]
  have hn : H s.heap.objs.size = none := I.hok.fresh (Nat.le_refl _)
  rcases hs with hs | hs
  · obtain ⟨its, rv, at1, _⟩ := I.list hs
    obtain ⟨l1, l2⟩ := nk_vals rv
    refine nx_make ys (I.ok.hd calm) at1.isList (by rw [List.size_toArray]; exact l1) (fun i v hi => l2 i v (by rw [List.getElem?_toArray] at hi; exact hi)) (by show ys.length + 1 < 4096; omega) fun h' tk ks R sub ln kp => ?_
    exact ⟨.ref s.heap.objs.size, _, I.laid (t' := tk) kp (Nat.le_refl _) (nxO_new R), rfl, q _ ks hn (let ⟨_, _, _, _, _, _, _, T⟩ := R; T.nd) sub ln⟩
  · obtain ⟨its, rv, at1, _⟩ := I.tuple hs
    obtain ⟨l1, l2⟩ := nk_vals rv
    refine nx_makeT ys (I.ok.hd calm) at1 (by rw [List.size_toArray]; exact l1) (fun i v hi => l2 i v (by rw [List.getElem?_toArray] at hi; exact hi)) (by show ys.length + 1 < 4096; omega) fun h' tk ks R sub ln kp => ?_
    exact ⟨.ref s.heap.objs.size, _, I.laid (t' := tk) kp (Nat.le_refl _) (nxO_new R), rfl, q _ ks hn (let ⟨_, _, _, _, _, _, _, T⟩ := R; T.nd) sub ln⟩
/-- len(such a set) -/
def rLenN (w : World) : List V → Hp → VK → Prop := fun xs H Q => ∃ (a : Addr) (ks : List NK), xs = [.ref a] ∧ H a = some (NxO w a ks) ∧ Q (.int ks.length) H
theorem cr_lenN : CallR X (.builtin "len") (rLenN X.w) := by
  intro pins s σ H xs us Q I r h
  obtain ⟨a, ks, rfl, ha, q⟩ := h
  have R : NxS X.w s.heap a ks := (I.hok a _ ha).1
  obtain ⟨o, es, ep, t, ho, hx, hd, T⟩ := R
  have n2 : ks.length = es.size := by
    rw [← T.mem.length_eq, List.length_map, Array.length_toList]
  have few : es.size < 4096 := T.few
  rw [Vals.ref1 r]
  exact call_len_set ho hx hd T.fit (by omega) ⟨.int ks.length, H, I.tok _, ⟨_, by rw [n2]⟩, q⟩
end
/-! ### ascending order as a function -/
instance (a b : Str) : Decidable (LeS a b) := inferInstanceAs (Decidable (sg a ≤ sg b))
def leB (a b : Str) : Bool := decide (LeS a b)
def sortS (xs : List Str) : List Str := xs.mergeSort leB
theorem sortS_perm (xs : List Str) : (sortS xs).Perm xs := List.mergeSort_perm _ _
theorem pw_rise : ∀ (l : List Str) (p : Str), (p :: l).Pairwise LeS → risingS p l = true
  | [], _, _ => rfl
  | x :: r, p, h => by
    obtain ⟨h1, h2⟩ := List.pairwise_cons.mp h
    show (!ltCps (sg x) (sg p) && risingS x r) = true
    rw [pw_rise r x h2, Bool.and_true, ltCps_eq]
    have z : ¬ (sg x < sg p) := List.not_lt.mpr (h1 x List.mem_cons_self)
    simpa using z
theorem pw_up {l : List Str} (h : l.Pairwise LeS) : sortedS l = true := by
  cases l with
  | nil => rfl
  | cons x r => exact pw_rise r x h
theorem sortS_up (xs : List Str) : sortedS (sortS xs) = true := by
  refine pw_up ?_
  have h := List.pairwise_mergeSort (le := leB) (fun a b c h1 h2 => decide_eq_true (leS_trans (of_decide_eq_true h1) (of_decide_eq_true h2))) (fun a b => by
    rcases List.le_total (sg a) (sg b) with h | h
    · rw [show leB a b = true from decide_eq_true h]; rfl
    · rw [show leB b a = true from decide_eq_true h, Bool.or_true]) xs
  exact h.imp fun h => of_decide_eq_true h
theorem sortS_of {xs ys : List Str} (p : ys.Perm xs) (up : sortedS ys = true) : ys = sortS xs := up_uniq (p.trans (sortS_perm xs).symm) up (sortS_up xs)
theorem sortS_idem (xs : List Str) : sortS (sortS xs) = sortS xs := (sortS_of (sortS_perm xs |>.trans (.refl _) |> fun p => by exact List.Perm.refl _) (sortS_up xs)).symm
theorem sortS_congr {xs ys : List Str} (p : xs.Perm ys) : sortS xs = sortS ys := sortS_of ((sortS_perm xs).trans p) (sortS_up xs)
theorem mem_sortS {xs : List Str} {x : Str} : x ∈ sortS xs ↔ x ∈ xs := (sortS_perm xs).mem_iff
/-! ### what a row of a wish allows -/
/-- None, then the targets in ascending order -/
def ascO (l : List (Option Str)) : List (Option Str) := (if none ∈ l then [none] else []) ++ (sortS (l.filterMap id)).map some
theorem filt_some (l : List Str) : (l.map some).filterMap id = l := by
  induction l with
  | nil => rfl
  | cons x r ih =>
    show x :: (r.map some).filterMap id = _
    rw [ih]
theorem ascO_mem {l : List (Option Str)} {o : Option Str} : o ∈ ascO l ↔ o ∈ l := by
  unfold ascO
  rw [List.mem_append]
  cases o with
  | none =>
    constructor
    · rintro (h | h)
      · split at h
        · assumption
        · exact absurd h List.not_mem_nil
      · obtain ⟨x, _, e⟩ := List.mem_map.mp h
        cases e
    · intro h
      rw [if_pos h]
      exact .inl List.mem_cons_self
  | some x =>
    constructor
    · rintro (h | h)
      · split at h
        · rcases List.mem_cons.mp h with e | h
          · cases e
          · exact absurd h List.not_mem_nil
        · exact absurd h List.not_mem_nil
      · obtain ⟨y, hy, e⟩ := List.mem_map.mp h
        cases e
        have := mem_sortS.mp hy
        rw [List.mem_filterMap] at this
        obtain ⟨o, ho, e⟩ := this
        rw [show o = some x from e] at ho
        exact ho
    · intro h
      refine .inr (List.mem_map.mpr ⟨x, mem_sortS.mpr ?_, rfl⟩)
      exact List.mem_filterMap.mpr ⟨some x, h, rfl⟩
theorem ascO_filt (l : List (Option Str)) : (ascO l).filterMap id = sortS (l.filterMap id) := by
  unfold ascO
  rw [List.filterMap_append, filt_some]
  split <;> rfl
theorem ascO_idem (l : List (Option Str)) : ascO (ascO l) = ascO l := by
  have e2 : ascO (ascO l) = (if none ∈ ascO l then [none] else []) ++ (sortS ((ascO l).filterMap id)).map some := rfl
  rw [e2, ascO_filt, sortS_idem]
  have e3 : ascO l = (if none ∈ l then [none] else []) ++ (sortS (l.filterMap id)).map some := rfl
  by_cases h : none ∈ l
  · rw [if_pos (ascO_mem.mpr h), e3, if_pos h]
  · rw [if_neg (fun q => h (ascO_mem.mp q)), e3, if_neg h]
theorem nodup_filt {l : List (Option Str)} (h : l.Nodup) : (l.filterMap id).Nodup := by
  induction l with
  | nil => exact List.nodup_nil
  | cons o r ih =>
    obtain ⟨h1, h2⟩ := List.nodup_cons.mp h
    cases o with
    | none => exact ih h2
    | some x =>
      show (x :: r.filterMap id).Nodup
      refine List.nodup_cons.mpr ⟨fun q => h1 ?_, ih h2⟩
      obtain ⟨o, ho, e⟩ := List.mem_filterMap.mp q
      rw [show o = some x from e] at ho
      exact ho
theorem ascO_nodup {l : List (Option Str)} (h : l.Nodup) : (ascO l).Nodup := by
  unfold ascO
  refine List.nodup_append.mpr ⟨by split; exact List.nodup_cons.mpr ⟨List.not_mem_nil, List.nodup_nil⟩; exact List.nodup_nil, (((sortS_perm _).nodup_iff.mpr (nodup_filt h)).map some fun a b h e => h (Option.some.inj e)), fun a ha b hb e => ?_⟩
  split at ha
  · rcases List.mem_cons.mp ha with rfl | ha
    · obtain ⟨x, _, ex⟩ := List.mem_map.mp hb
      rw [← e] at ex
      cases ex
    · exact absurd ha List.not_mem_nil
  · exact absurd ha List.not_mem_nil
theorem filt_len (l : List (Option Str)) : (l.filterMap id).length ≤ l.length := List.length_filterMap_le ..
theorem ascO_len {l : List (Option Str)} (h : l.Nodup) : (ascO l).length = l.length := by
  have p : (ascO l).Perm l := (List.perm_ext_iff_of_nodup (ascO_nodup h) h).mpr fun o => ascO_mem
  exact p.length_eq
/-- a target of a row: a target or None -/
def tgtO (t : Str → Bool) : Option Str → Prop
  | none => True
  | some x => t x = true
structure OkL (t : Str → Bool) (l : List (Option Str)) : Prop where
  nd : l.Nodup
  tg : ∀ o ∈ l, tgtO t o
  few : l.length ≤ 40
theorem OkL.asc {t : Str → Bool} {l : List (Option Str)} (h : OkL t l) : OkL t (ascO l) := ⟨ascO_nodup h.nd, fun o ho => h.tg o (ascO_mem.mp ho), by rw [ascO_len h.nd]; exact h.few⟩
/-! ### rows of a wish -/
abbrev WRows := List (Str × List (Option Str))
def look (rows : WRows) (y : Str) : List (Option Str) := ((rows.find? fun r => decide (r.1 = y)).map (·.2)).getD []
def sortW (rows : WRows) : WRows := (sortS (rows.map (·.1))).map fun y => (y, ascO (look rows y))
def putR (rows : WRows) (y : Str) (l : List (Option Str)) : WRows := if y ∈ rows.map (·.1) then rows.map (fun r => if r.1 = y then (y, l) else r) else rows ++ [(y, l)]
structure RowsW (t : Str → Bool) (w : Nat) (rows : WRows) : Prop where
  pfx : PfxL w (rows.map (·.1))
  ok : ∀ r ∈ rows, OkL t r.2
theorem look_cons (r : Str × List (Option Str)) (rows : WRows) (z : Str) : look (r :: rows) z = if r.1 = z then r.2 else look rows z := by
  unfold look
  rw [List.find?_cons]
  by_cases e : r.1 = z
  · rw [if_pos e, decide_eq_true e]
    rfl
  · rw [if_neg e, decide_eq_false e]
theorem look_mem {rows : WRows} (nd : (rows.map (·.1)).Nodup) {y : Str} {l : List (Option Str)} (h : (y, l) ∈ rows) : look rows y = l := by
  induction rows with
  | nil => cases h
  | cons r rows ih =>
    rw [List.map_cons, List.nodup_cons] at nd
    rw [look_cons]
    rcases List.mem_cons.mp h with rfl | h
    · rw [if_pos rfl]
    · rw [if_neg fun e => nd.1 (by rw [e]; exact List.mem_map.mpr ⟨_, h, rfl⟩)]
      exact ih nd.2 h
theorem look_at {rows : WRows} {y : Str} (h : y ∈ rows.map (·.1)) : (y, look rows y) ∈ rows := by
  induction rows with
  | nil => cases h
  | cons r rows ih =>
    rw [look_cons]
    by_cases e : r.1 = y
    · rw [if_pos e, ← e]
      exact List.mem_cons_self
    · rw [if_neg e]
      rw [List.map_cons] at h
      exact List.mem_cons_of_mem _ (ih ((List.mem_cons.mp h).resolve_left (fun q => e q.symm)))
theorem look_snoc {rows : WRows} {y z : Str} {l : List (Option Str)} (hm : y ∉ rows.map (·.1)) : look (rows ++ [(y, l)]) z = if z = y then l else look rows z := by
  induction rows with
  | nil =>
    rw [List.nil_append, look_cons]
    by_cases q : z = y
    · rw [if_pos q, if_pos q.symm]
    · rw [if_neg q, if_neg fun e => q e.symm]
  | cons r rows ih =>
    rw [List.map_cons, List.mem_cons, not_or] at hm
    rw [List.cons_append, look_cons, look_cons, ih hm.2]
    by_cases e : r.1 = z
    · rw [if_pos e, if_pos e, if_neg fun q => hm.1 (q.symm.trans e.symm)]
    · rw [if_neg e, if_neg e]
theorem look_repl {rows : WRows} {y z : Str} {l : List (Option Str)} (h : y ∈ rows.map (·.1)) : look (rows.map fun r => if r.1 = y then (y, l) else r) z = if z = y then l else look rows z := by
  have main : ∀ rows : WRows, look (rows.map fun r => if r.1 = y then (y, l) else r) z = if z = y then (if y ∈ rows.map (·.1) then l else []) else look rows z := by
    intro rows
    induction rows with
    | nil => split <;> rfl
    | cons r rows ih =>
      rw [List.map_cons, look_cons, ih, look_cons, List.map_cons]
      by_cases e : r.1 = y
      · rw [if_pos e]
        by_cases q : z = y
        · rw [if_pos q.symm, if_pos q, if_pos (List.mem_cons.mpr (.inl e.symm))]
        · rw [if_neg (fun e2 => q e2.symm), if_neg q, if_neg q, if_neg (fun e2 => q (e2.symm.trans e))]
      · rw [if_neg e]
        by_cases q : z = y
        · rw [if_neg (fun e2 => e (e2.trans q)), if_pos q, if_pos q]
          by_cases hm : y ∈ rows.map (·.1)
          · rw [if_pos hm, if_pos (List.mem_cons_of_mem _ hm)]
          · rw [if_neg hm, if_neg (fun q2 => (List.mem_cons.mp q2).elim (fun q3 => e q3.symm) hm)]
        · rw [if_neg q, if_neg q]
  rw [main, if_pos h]
theorem sortW_keys (rows : WRows) : (sortW rows).map (·.1) = sortS (rows.map (·.1)) := by
  unfold sortW
  rw [List.map_map]
  exact List.map_id' _
theorem look_sortW {rows : WRows} (nd : (rows.map (·.1)).Nodup) {y : Str} (h : y ∈ rows.map (·.1)) : look (sortW rows) y = ascO (look rows y) := by
  refine look_mem ?_ ?_
  · rw [sortW_keys]
    exact (sortS_perm _).nodup_iff.mpr nd
  · exact List.mem_map.mpr ⟨y, mem_sortS.mpr h, rfl⟩
theorem RowsW.sort {t : Str → Bool} {w : Nat} {rows : WRows} (h : RowsW t w rows) : RowsW t w (sortW rows) := by
  refine ⟨?_, fun r hr => ?_⟩
  · rw [sortW_keys]
    exact ⟨(sortS_perm _).nodup_iff.mpr h.pfx.nd, fun x hx => h.pfx.bits x (mem_sortS.mp hx), fun x hx => h.pfx.len x (mem_sortS.mp hx)⟩
  · obtain ⟨y, hy, rfl⟩ := List.mem_map.mp hr
    exact (h.ok _ (look_at (mem_sortS.mp hy))).asc
theorem sortW_len (rows : WRows) : (sortW rows).length = rows.length := by
  unfold sortW
  rw [List.length_map, (sortS_perm _).length_eq, List.length_map]
theorem putR_keys {rows : WRows} {y : Str} {l : List (Option Str)} (z : Str) : z ∈ (putR rows y l).map (·.1) ↔ z = y ∨ z ∈ rows.map (·.1) := by
  unfold putR
  split
  · rename_i h
    have e : (rows.map fun r => if r.1 = y then (y, l) else r).map (·.1) = rows.map (·.1) := by
      rw [List.map_map]
      refine List.map_congr_left fun r _ => ?_
      show (if r.1 = y then (y, l) else r).1 = r.1
      split
      · rename_i e; exact e.symm
      · rfl
    rw [e]
    exact ⟨.inr, fun q => q.elim (fun e => e ▸ h) id⟩
  · rw [List.map_append, List.mem_append]
    exact ⟨fun q => q.elim .inr fun q => .inl (List.mem_singleton.mp q), fun q => q.elim (fun e => .inr (List.mem_singleton.mpr e)) .inl⟩
theorem look_putR {rows : WRows} {y z : Str} {l : List (Option Str)} : look (putR rows y l) z = if z = y then l else look rows z := by
  unfold putR
  split
  · rename_i h
    exact look_repl h
  · rename_i h
    exact look_snoc h
theorem putR_len (rows : WRows) (y : Str) (l : List (Option Str)) : (putR rows y l).length ≤ rows.length + 1 := by
  unfold putR
  split
  · rw [List.length_map]; omega
  · rw [List.length_append]; exact Nat.le_refl _
theorem RowsW.put {t : Str → Bool} {w : Nat} {rows : WRows} (h : RowsW t w rows) {y : Str} {l : List (Option Str)} (hb : isBits y = true) (hl : y.length ≤ w) (ok : OkL t l) : RowsW t w (putR rows y l) := by
  have nd : ((putR rows y l).map (·.1)).Nodup := by
    unfold putR
    split
    · have e : (rows.map fun r => if r.1 = y then (y, l) else r).map (·.1) = rows.map (·.1) := by
        rw [List.map_map]
        refine List.map_congr_left fun r _ => ?_
        show (if r.1 = y then (y, l) else r).1 = r.1
        split
        · rename_i e; exact e.symm
        · rfl
      rw [e]
      exact h.pfx.nd
    · rename_i hm
      rw [List.map_append]
      refine List.nodup_append.mpr ⟨h.pfx.nd, List.nodup_cons.mpr ⟨List.not_mem_nil, List.nodup_nil⟩, fun a ha b hb e => hm ?_⟩
      have e : a = y := by rw [e, List.mem_singleton.mp hb]
      rw [← e]
      exact ha
  refine ⟨⟨nd, fun x hx => ?_, fun x hx => ?_⟩, fun r hr => ?_⟩
  · rcases (putR_keys x).mp hx with rfl | hx
    · exact hb
    · exact h.pfx.bits x hx
  · rcases (putR_keys x).mp hx with rfl | hx
    · exact hl
    · exact h.pfx.len x hx
  · have e := look_mem nd (y := r.1) (l := r.2) hr
    rw [look_putR] at e
    rw [← e]
    split
    · exact ok
    · rename_i q
      have hk : r.1 ∈ (putR rows y l).map (·.1) := List.mem_map.mpr ⟨r, hr, rfl⟩
      exact h.ok _ (look_at (((putR_keys r.1).mp hk).resolve_left q))
/-! ### the values of wishes in the heap -/
def isT (x : Str) : Bool := isTgt (.str x)
def InRow (K : PySem.W.Frag) (H : Hp) (kv : Key × V) (r : Str × List (Option Str)) : Prop := kv.1 = .inr r.1 ∧ ∃ a, kv.2 = .ref a ∧ (SqL K H a (r.2.map optV) ∨ SqT K H a (r.2.map optV))
def InVal (K : PySem.W.Frag) (H : Hp) (kvs : List (Key × V)) (rows : WRows) : Prop := Paired (InRow K H) kvs rows
/-- kept: new tuples -/
def WRow (H : Hp) (kv : Key × V) (r : Str × List (Option Str)) : Prop := kv.1 = .inr r.1 ∧ ∃ a, kv.2 = .ref a ∧ H a = some (.tup (r.2.map optV))
def WVal (H : Hp) (kvs : List (Key × V)) (rows : WRows) : Prop := Paired (WRow H) kvs rows
theorem WVal.in {K : PySem.W.Frag} {H : Hp} {kvs : List (Key × V)} {rows : WRows} (h : WVal H kvs rows) : InVal K H kvs rows := h.mono fun _ _ ⟨e, a, e2, ha⟩ => ⟨e, a, e2, .inr (SqT.of ha)⟩
theorem SqO.same {K : PySem.W.Frag} {H H' : Hp} {a : Addr} {vs : List V} (s : Same H H') (h : SqL K H a vs ∨ SqT K H a vs) : SqL K H' a vs ∨ SqT K H' a vs := h.imp s.seq (SqT.same s)
theorem InVal.same {K : PySem.W.Frag} {H H' : Hp} {kvs : List (Key × V)} {rows : WRows} (s : Same H H') (h : InVal K H kvs rows) : InVal K H' kvs rows := h.mono fun _ _ ⟨e, a, e2, ha⟩ => ⟨e, a, e2, SqO.same s ha⟩
theorem WVal.same {H H' : Hp} {kvs : List (Key × V)} {rows : WRows} (s : Same H H') (h : WVal H kvs rows) : WVal H' kvs rows := h.mono fun _ _ ⟨e, a, e2, ha⟩ => ⟨e, a, e2, s _ _ ha⟩
theorem paired_keys {R : Key × V → Str × List (Option Str) → Prop} (hR : ∀ kv r, R kv r → kv.1 = .inr r.1) : ∀ {kvs : List (Key × V)} {rows : WRows}, Paired R kvs rows → kvs.map (·.1) = (rows.map (·.1)).map Sum.inr
  | _, _, .nil => rfl
  | _, _, .cons h t => by
    rw [List.map_cons, List.map_cons, List.map_cons, hR _ _ h, paired_keys hR t]
theorem InVal.keys {K : PySem.W.Frag} {H : Hp} {kvs : List (Key × V)} {rows : WRows} (h : InVal K H kvs rows) : kvs.map (·.1) = (rows.map (·.1)).map Sum.inr := paired_keys (fun _ _ q => q.1) h
theorem WVal.keys {H : Hp} {kvs : List (Key × V)} {rows : WRows} (h : WVal H kvs rows) : kvs.map (·.1) = (rows.map (·.1)).map Sum.inr := paired_keys (fun _ _ q => q.1) h
theorem paired_at {R : Key × V → Str × List (Option Str) → Prop} (hR : ∀ kv r, R kv r → kv.1 = .inr r.1) {y : Str} : ∀ {kvs : List (Key × V)} {rows : WRows}, Paired R kvs rows → y ∈ rows.map (·.1) → ∃ v, valV kvs (.inr y) = some v ∧ R (.inr y, v) (y, look rows y)
  | _, _, .nil, h => by cases h
  | (k, v) :: kvs, r :: rows, .cons h t, hy => by
    have e1 : k = Sum.inr r.1 := hR _ _ h
    subst e1
    rw [look_cons]
    by_cases e : r.1 = y
    · rw [if_pos e]
      subst e
      exact ⟨v, valV_pos rfl, h⟩
    · rw [if_neg e]
      rw [List.map_cons] at hy
      obtain ⟨v', h1, h2⟩ := paired_at hR t ((List.mem_cons.mp hy).resolve_left fun q => e q.symm)
      refine ⟨v', ?_, h2⟩
      unfold valV at h1 ⊢
      rw [List.find?_cons_of_neg (by simpa using e)]
      exact h1
theorem InVal.at {K : PySem.W.Frag} {H : Hp} {kvs : List (Key × V)} {rows : WRows} (h : InVal K H kvs rows) {y : Str} (hy : y ∈ rows.map (·.1)) : ∃ a, valV kvs (.inr y) = some (.ref a) ∧ (SqL K H a ((look rows y).map optV) ∨ SqT K H a ((look rows y).map optV)) := by
  obtain ⟨v, h1, _, a, e, h2⟩ := paired_at (fun _ _ q => q.1) h hy
  have e' : v = .ref a := e
  exact ⟨a, by rw [h1, e'], h2⟩
theorem WVal.at {H : Hp} {kvs : List (Key × V)} {rows : WRows} (h : WVal H kvs rows) {y : Str} (hy : y ∈ rows.map (·.1)) : ∃ a, valV kvs (.inr y) = some (.ref a) ∧ H a = some (.tup ((look rows y).map optV)) := by
  obtain ⟨v, h1, _, a, e, h2⟩ := paired_at (fun _ _ q => q.1) h hy
  have e' : v = .ref a := e
  exact ⟨a, by rw [h1, e'], h2⟩
theorem paired_put {R : Key × V → Str × List (Option Str) → Prop} (hR : ∀ kv r, R kv r → kv.1 = .inr r.1) {y : Str} {v : V} {l : List (Option Str)} (hv : R (.inr y, v) (y, l)) {kvs : List (Key × V)} {rows : WRows} (h : Paired R kvs rows) : Paired R (putK kvs (.inr y) v) (putR rows y l) := by
  have hk := paired_keys hR h
  by_cases hm : y ∈ rows.map (·.1)
  · have hm2 : (kvs.any fun kv => decide (kv.1 = Sum.inr y)) = true := by
      have : (Sum.inr y : Key) ∈ kvs.map (·.1) := by rw [hk]; exact List.mem_map.mpr ⟨y, hm, rfl⟩
      obtain ⟨p, hp, e⟩ := List.mem_map.mp this
      exact List.any_eq_true.mpr ⟨p, hp, decide_eq_true e⟩
    unfold putK putR
    rw [if_pos hm2, if_pos hm]
    clear hm hm2 hk
    induction h with
    | nil => exact .nil
    | cons q t ih =>
      rename_i kv r kvs rows
      refine .cons ?_ ih
      have e1 := hR _ _ q
      show R (if kv.1 = Sum.inr y then (kv.1, v) else kv) (if r.1 = y then (y, l) else r)
      by_cases e : r.1 = y
      · rw [if_pos (by rw [e1, e]), if_pos e, e1, e]
        exact hv
      · rw [if_neg (by rw [e1]; exact fun z => e (Sum.inr.inj z)), if_neg e]
        exact q
  · have hm2 : (Sum.inr y : Key) ∉ kvs.map (·.1) := by
      rw [hk, List.mem_map]
      rintro ⟨z, hz, e⟩
      exact hm (by rw [← Sum.inr.inj e]; exact hz)
    rw [putK_end hm2]
    unfold putR
    rw [if_neg hm]
    exact paired_app h (.cons hv .nil)
theorem paired_filt {R : Key × V → Str × List (Option Str) → Prop} (hR : ∀ kv r, R kv r → kv.1 = .inr r.1) (y : Str) : ∀ {kvs : List (Key × V)} {rows : WRows}, Paired R kvs rows → Paired R (kvs.filter fun kv => decide (kv.1 ≠ .inr y)) (rows.filter fun r => decide (r.1 ≠ y))
  | _, _, .nil => .nil
  | kv :: kvs, r :: rows, .cons h t => by
    have e1 := hR _ _ h
    by_cases e : r.1 = y
    · rw [List.filter_cons_of_neg (by rw [e1, e]; simp), List.filter_cons_of_neg (by simpa using e)]
      exact paired_filt hR y t
    · rw [List.filter_cons_of_pos (by rw [e1]; simpa using fun q => e q), List.filter_cons_of_pos (by simpa using e)]
      exact .cons h (paired_filt hR y t)
theorem look_filt {rows : WRows} {y z : Str} : look (rows.filter fun r => decide (r.1 ≠ y)) z = if z = y then [] else look rows z := by
  induction rows with
  | nil => split <;> rfl
  | cons r rows ih =>
    by_cases e : r.1 = y
    · rw [List.filter_cons_of_neg (by simpa using e), ih, look_cons]
      by_cases q : z = y
      · rw [if_pos q, if_pos q]
      · rw [if_neg q, if_neg q, if_neg fun e2 => q (e2.symm.trans e)]
    · rw [List.filter_cons_of_pos (by simpa using e), look_cons, ih, look_cons]
      by_cases q : r.1 = z
      · rw [if_pos q, if_pos q, if_neg fun e2 => e (q.trans e2)]
      · rw [if_neg q, if_neg q]
theorem filtR_keys {rows : WRows} {y : Str} : (rows.filter fun r => decide (r.1 ≠ y)).map (·.1) = (rows.map (·.1)).filter fun z => decide (z ≠ y) := by
  induction rows with
  | nil => rfl
  | cons r rows ih =>
    by_cases e : r.1 = y
    · rw [List.filter_cons_of_neg (by simpa using e), List.map_cons, List.filter_cons_of_neg (by simpa using e), ih]
    · rw [List.filter_cons_of_pos (by simpa using e), List.map_cons, List.map_cons, List.filter_cons_of_pos (by simpa using e), ih]
theorem RowsW.filt {t : Str → Bool} {w : Nat} {rows : WRows} (h : RowsW t w rows) (y : Str) : RowsW t w (rows.filter fun r => decide (r.1 ≠ y)) := by
  refine ⟨?_, fun r hr => h.ok r (List.mem_filter.mp hr).1⟩
  rw [filtR_keys]
  exact ⟨h.pfx.nd.filter _, fun x hx => h.pfx.bits x (List.mem_filter.mp hx).1, fun x hx => h.pfx.len x (List.mem_filter.mp hx).1⟩
/-- at x a wish, its rows at e -/
structure WishAt (C : Addr) (H : Hp) (x e : Addr) (w : Nat) (rows : WRows) : Prop where
  ob : ∃ dx, H x = some (.ins C dx (flds w e))
  dc : ∃ kvs, H e = some (.dK kvs) ∧ WVal H kvs rows
theorem WishAt.same {C : Addr} {H H' : Hp} {x e : Addr} {w : Nat} {rows : WRows} (s : Same H H') (h : WishAt C H x e w rows) : WishAt C H' x e w rows := by
  obtain ⟨⟨dx, h1⟩, kvs, h2, h3⟩ := h
  exact ⟨⟨dx, s _ _ h1⟩, kvs, s _ _ h2, h3.same s⟩
theorem WishAt.but {C : Addr} {H H' : Hp} {p x e : Addr} {w : Nat} {rows : WRows} {o : List V} (k : But p H H') (hp : H p = some (.lst o)) (h : WishAt C H x e w rows) : WishAt C H' x e w rows := by
  obtain ⟨⟨dx, h1⟩, kvs, h2, h3⟩ := h
  exact ⟨⟨dx, k _ _ (ne_of h1 hp (fun z => nomatch z)) h1⟩, kvs, k _ _ (ne_of h2 hp (fun z => nomatch z)) h2, h3.mono fun _ _ ⟨e, a, e2, ha⟩ => ⟨e, a, e2, k _ _ (ne_of ha hp (fun z => nomatch z)) ha⟩⟩
theorem WishAt.map {C : Addr} {H : Hp} {x e : Addr} {w : Nat} {rows : WRows} (h : WishAt C H x e w rows) : ∃ kvs, MapAt C H x e w kvs ∧ WVal H kvs rows := by
  obtain ⟨h1, kvs, h2, h3⟩ := h
  exact ⟨kvs, ⟨h1, h2⟩, h3⟩
/-- _checked of a list or tuple of different targets and None: a new tuple, in order -/
def spChkW (K : PySem.W.Frag) : Sp := fun vs H Q _ => ∃ (x a : Addr) (l : List (Option Str)), vs = [.ref x, .ref a] ∧ (SqL K H a (l.map optV) ∨ SqT K H a (l.map optV)) ∧ OkL isT l ∧ ∀ (t : Addr) (H' : Hp), Same H H' → H t = none → H' t = some (.tup ((ascO l).map optV)) → Q (.ref t) H'
def spInitW (K : PySem.W.Frag) (C : Addr) : Sp := fun vs H Q _ => ∃ (x dx d : Addr) (w : Nat) (kvs : List (Key × V)) (rows : WRows), vs = [.ref x, .int w, .ref d] ∧ H x = some (.ins C dx []) ∧ 1 ≤ w ∧ w ≤ 32 ∧ H d = some (.dK kvs) ∧ InVal K H kvs rows ∧ RowsW isT w rows ∧ rows.length < 64 ∧
  ∀ (e : Addr) (H' : Hp), H e = none → WishAt C H' x e w (sortW rows) → (∀ b o, H b = some o → b ≠ x → H' b = some o) → Q .non H'
def MadeW (C : Addr) (w : Nat) (rows : WRows) (H : Hp) (Q : VK) : Prop := ∀ (x e : Addr) (H' : Hp), H x = none → H e = none → Same H H' → WishAt C H' x e w (sortW rows) → Q (.ref x) H'
theorem MadeW.later {C : Addr} {w : Nat} {rows : WRows} {H H1 : Hp} {Q : VK} (s : Same H H1) (h : MadeW C w rows H Q) : MadeW C w rows H1 Q := fun x e H' nx ne s' hw => h x e H' (s.free nx) (s.free ne) (s.trans s') hw
def spMadeW (K : PySem.W.Frag) (C : Addr) : Sp := fun vs H Q _ => ∃ (d : Addr) (w : Nat) (kvs : List (Key × V)) (rows : WRows), vs = [.ref C, .int w, .ref d] ∧ 1 ≤ w ∧ w ≤ 32 ∧ H d = some (.dK kvs) ∧ InVal K H kvs rows ∧ RowsW isT w rows ∧ rows.length < 64 ∧ MadeW C w rows H Q
def spWithW (K : PySem.W.Frag) (C : Addr) : Sp := fun vs H Q _ => ∃ (x e : Addr) (w : Nat) (rows : WRows) (y : Str) (a : Addr) (l : List (Option Str)), vs = [.ref x, .str y, .ref a] ∧ WishAt C H x e w rows ∧ RowsW isT w rows ∧ 1 ≤ w ∧ w ≤ 32 ∧ isBits y = true ∧ y.length ≤ w ∧ (SqL K H a (l.map optV) ∨ SqT K H a (l.map optV)) ∧ OkL isT l ∧ rows.length < 60 ∧ MadeW C w (putR rows y l) H Q
def spWithoutW (K : PySem.W.Frag) (C : Addr) : Sp := fun vs H Q _ => ∃ (x e : Addr) (w : Nat) (rows : WRows) (y : Str), vs = [.ref x, .str y] ∧ WishAt C H x e w rows ∧ RowsW isT w rows ∧ 1 ≤ w ∧ w ≤ 32 ∧ y ∈ rows.map (·.1) ∧ rows.length < 60 ∧ MadeW C w (rows.filter fun r => decide (r.1 ≠ y)) H Q
/-- what an address is allowed -/
def spAllowed (C : Addr) : Sp := fun vs H Q _ => ∃ (x e : Addr) (w : Nat) (rows : WRows) (y : Str), vs = [.ref x, .str y] ∧ WishAt C H x e w rows ∧ isBits y = true ∧ y.length = w ∧ w ≤ 32 ∧
  ∀ r : Option Str, IsLong (rows.map (·.1)) y r → (∀ z, r = some z → ∀ a, H a = some (.tup ((look rows z).map optV)) → Q (.ref a) H) ∧ (r = none → Q (.str "any") H)
/-- the set of what a row allows -/
def keyO (o : Option Str) : NK := o.map Sum.inr
theorem keyO_val (o : Option Str) : nkV (keyO o) = optV o := by cases o <;> rfl
theorem keyO_inj {a b : Option Str} (h : keyO a = keyO b) : a = b := by
  cases a <;> cases b
  · rfl
  · cases h
  · cases h
  · exact congrArg some (Sum.inr.inj (Option.some.inj h))
theorem map_keyO (l : List (Option Str)) : (l.map keyO).map nkV = l.map optV := by
  rw [List.map_map]
  exact List.map_congr_left fun o _ => keyO_val o
theorem none_in : ∀ l : List (Option Str), inV .non (l.map optV) = decide (none ∈ l)
  | [] => rfl
  | o :: l => by
    have e : inV .non ((o :: l).map optV) = (eqV (optV o) .non || inV .non (l.map optV)) := rfl
    rw [e, none_in l]
    cases o with
    | none =>
      rw [show eqV (optV none) .non = true from rfl, Bool.true_or]
      exact (decide_eq_true List.mem_cons_self).symm
    | some x =>
      rw [show eqV (optV (some x)) .non = false from rfl, Bool.false_or]
      refine decide_eq_decide.mpr ⟨List.mem_cons_of_mem _, fun h => (List.mem_cons.mp h).resolve_left fun e => nomatch e⟩
theorem flat_opt (l : List (Option Str)) : (l.map optV).all flatV = true := by
  rw [List.all_map]
  exact List.all_eq_true.mpr fun o _ => by cases o <;> rfl
abbrev sG : Stmt := sTgt
abbrev sK : Stmt := sTChk
abbrev sU : Stmt := sInit
abbrev sT : Stmt := sTInit

theorem ty_list {K : PySem.W.Frag} {H : Hp} {a : Addr} {xs : List V} (h : SqL K H a xs) : TyX K H (.ref a) (.type "list") := by
  rcases h with (h | ⟨o, h⟩) | ⟨o, _, _, h, hc, _⟩
  · exact .base (.lst h)
  · exact .base (.frz h)
  · exact .kList h hc
theorem ty_tuple {K : PySem.W.Frag} {H : Hp} {a : Addr} {xs : List V} (h : SqT K H a xs) : TyX K H (.ref a) (.type "tuple") := by
  rcases h with (h | ⟨o, h⟩) | ⟨o, _, _, h, hc, _⟩
  · exact .base (.tup h)
  · exact .fTuple h
  · exact .kTuple h hc
theorem kit2_list {K : PySem.W.Frag} : PySem.W.kitAny K (.type "list") [.type "list", .type "tuple"] = some true := by
  unfold PySem.W.kitAny
  rw [kitv (K := K) (t := "list") (c := "list") (b := true) (by decide +kernel)]
theorem kit2_tuple {K : PySem.W.Frag} : PySem.W.kitAny K (.type "tuple") [.type "list", .type "tuple"] = some true := by
  unfold PySem.W.kitAny
  rw [kitv (K := K) (t := "tuple") (c := "list") (b := false) (by decide +kernel)]
  show PySem.W.kitAny K (.type "tuple") [.type "tuple"] = some true
  unfold PySem.W.kitAny
  rw [kitv (K := K) (t := "tuple") (c := "tuple") (b := true) (by decide +kernel)]
theorem asc_map {l : List (Option Str)} {ys : List Str} (p : ys.Perm (l.filterMap id)) (up : sortedS ys = true) : (ascO l).map optV = (if none ∈ l then [V.non] else []) ++ ys.map V.str := by
  rw [sortS_of p up]
  unfold ascO
  rw [List.map_append, List.map_map]
  congr 1
  split <;> rfl
abbrev sWK : Stmt := inClass (top 20) 2
section
variable {P : Program} {w : World} {K : PySem.W.Frag} {mg : Str → Option Value} {base : Heap}
abbrev NWK : List Str := ["self", "value", "target", "named"]
theorem scWK : FnScope NWK ["self", "value"] (defScope sWK) := ⟨rfl, rfl, rfl, by decide +kernel, rfl, by decide +kernel, by decide +kernel⟩
set_option maxHeartbeats 8000000 in
theorem ok_WK {f fG pG CC : Addr} {fd fdG : FuncData} {k : Nat} (F : Fun K "_checked" "Wish._checked" sWK f fd)
    (m_tuple : mg "tuple" = none)
    (m_list : mg "list" = none)
    (m_isinstance : mg "isinstance" = none)
    (gC : mg "Table" = some (.ref CC))
    (RCC : ClX.CRead K CC (.type "type"))
    (GG : FnOk P w K mg base CX0 k fG fdG ["thing"] (spTgt K))
    (csG : CSta K CC (.type "type") "is_target" pG fG) (bG : Binds K fdG ["thing"] [])
    (m_set : mg "set" = none)
    (m_len : mg "len" = none)
    (m_sorted : mg "sorted" = none)
    : FnOk P w K mg base CX0 (k + 1) f fd ["self", "value"] (spChkW K) := by
  refine F.ok scWK (fun vs H Q E h => ?_) (fun cdv A outer s H vs Q E hr h => ?_)
  · obtain ⟨x, a, l, rfl, _⟩ := h
    rfl
  · obtain ⟨x, a, l, rfl, hin, ok, q⟩ := h
    have nd := scWK.nd
    have hu := hr.units
    have hu1 := hu_of hr
    have hr1 := hr
    rcases hin with hin | hin
    · refine ⟨_, pss_cons (ps_if (pt_not (pt_val (pe_callB call_isiT (by rfl) m_isinstance (by decide +kernel) (pa_cons (pv 1) (pa_cons (pe_tup (pa_cons (pe_bltn (v := .ty "list") (by rfl) m_list (by decide +kernel) rfl) (pa_cons (pe_bltn (v := .ty "tuple") (by rfl) m_tuple (by decide +kernel) rfl) pa_nil))) pa_nil)))))
            (pss_one ps_never) pss_nil)
          (pss_cons (ps_for PassesOwn.never rfl (pi_list (pv 1)) (pg_name (i := 2) nd rfl (.inl rfl))
            (pss_one (ps_if (PW.pt (pw_and (pt_cmpR op_notN (pv 2) pe_non (nomark _)) (pw_and1 (pt_not (pt_val (pe_cstat (pe_glob (v := .ref CC) rfl gC rfl) RCC csG GG hr1 bG (pa_cons (pv 2) pa_nil)))))))
              (pss_one ps_never) pss_nil)))
          (pss_cons (ps_if (pt_cmpR op_ne (pe_callB cr_lenN (by rfl) m_len (by decide +kernel) (pa_cons (pe_callTy (cr_setN rfl) (by rfl) m_set (by decide +kernel) (pa_cons (pv 1) pa_nil)) pa_nil)) (pe_callB call_len_seq (by rfl) m_len (by decide +kernel) (pa_cons (pv 1) pa_nil)) (nomark _))
            (pss_one ps_never) pss_nil)
          (pss_cons (ps_set (i := 3) nd rfl (.inl rfl) (pe_callB cr_sortedS (by rfl) m_sorted (by decide +kernel) (pa_cons (pe_lc (own := [("target", 2)]) (g := gName 2) rfl nd (pi_list (pv 1)) (blkOk_by (N := NWK) (sc := defScope sWK) (by decide +kernel)) (fun _ _ _ _ _ => pg_name (i := 2) nd rfl (.inl rfl)) (fun _ _ _ _ _ => pts_one (pt_cmpR op_notN (pv 2) pe_non (nomark _))) (fun _ _ _ _ _ => (pv 2))) pa_nil)))
          (pss_cons (ps_if (pt_cmpR op_in_seq pe_non (pv 1) (by rfl))
            (pss_one (ps_ret (pe_tup (pa_cons pe_non (StX.pa_star (pv 3) pa_nil))))) pss_nil)
          (pss_one (ps_ret (pe_callTy call_tuple_of (by rfl) m_tuple (by decide +kernel) (pa_cons (pv 3) pa_nil)))))))), ?_⟩
      refine ⟨.ref a, rfl, by show 2 ≤ sizeLine; decide, fun t1 nt1 => ?_⟩
      have s1 := same_upd (o := .tup [.ty "list", .ty "tuple"]) nt1
      have hin1 := s1.seq hin
      refine ⟨.ref a, t1, [.ty "list", .ty "tuple"], .type "list", [.type "list", .type "tuple"], true, rfl, upd_same, .cons (.ty _) (.cons (.ty _) .nil), ty_list hin1, kit2_list, _, rfl, iteF ?_⟩
      revert s1 hin1
      generalize upd H t1 (.tup [.ty "list", .ty "tuple"]) = H1
      intro s1 hin1
      refine ⟨.ref a, rfl, a, rfl, ⟨_, hin1⟩, for_list (K := K) (a := a) (xs := l.map optV) (fun _ σ H' => (∃ x2, σ = [some (.ref x), some (.ref a), x2, none]) ∧ H' = H1) ⟨⟨_, rfl⟩, rfl⟩ (fun _ _ _ _ h => by rw [h.2]; exact hin1) ?_ ?_⟩
      · rintro i v σ H' hv ⟨⟨x2, rfl⟩, rfl⟩
        rw [List.getElem?_map] at hv
        obtain ⟨o, ho, rfl⟩ := Option.map_eq_some_iff.mp hv
        have hto := ok.tg o (List.mem_of_getElem? ho)
        cases o with
        | none => exact ⟨.non, rfl, rfl, _, rfl, iteF ⟨⟨_, rfl⟩, rfl⟩⟩
        | some z =>
          have hz : isTgtV (.str z) := hto
          obtain ⟨z', ez, hz8, _⟩ := tgt_str hz
          have ez' := V.str.inj ez
          subst ez'
          refine ⟨.str z, rfl, rfl, _, rfl, iteT ⟨rfl, .str z, rfl, .str z, rfl, TyS.of (N := fun _ => True) (.str z), fun u e => by rw [← V.str.inj e]; exact big_of (by omega), _, rfl, ?_⟩⟩
          rw [show isTgt (.str z) = true from hz]
          exact iteF ⟨⟨_, rfl⟩, rfl⟩
      · rintro σ H' ⟨⟨x2, rfl⟩, rfl⟩
        have few := ok.few
        refine ⟨.ref a, rfl, a, l.map keyO, rfl, .inl (by rw [map_keyO]; exact hin1), by rw [List.length_map]; omega, fun p ks np knd kmem klen => ?_⟩
        have s2 := same_upd (o := NxO w p ks) np
        have kl : ks.length = l.length := by
          have e := (List.perm_ext_iff_of_nodup knd (ok.nd.map keyO fun a b h e => h (keyO_inj e))).mpr kmem
          rw [e.length_eq, List.length_map]
        have hin2 := s2.seq hin1
        refine ⟨p, ks, rfl, upd_same, .ref a, rfl, a, l.map optV, rfl, .inl hin2, rfl, _, rfl, ?_⟩
        rw [List.length_map, kl]
        refine iteNS rfl ?_
        have s12 := s1.trans s2
        -- the targets, in order
        refine ⟨.ref a, rfl, a, rfl, ⟨_, hin2⟩, fun D nD => ?_⟩
        refine lc_it walk_list (fun i Hx => Hx D = some (.lst (((l.take i).filterMap id).map V.str)) ∧ Same (upd H' p (NxO w p ks)) Hx) ⟨upd_same, same_upd nD⟩ (fun _ _ _ h => by have s9 := h.2; exact s9.seq hin2) ?_ ?_
        · rintro i v H3 H4 hi ⟨hD, s4⟩ ⟨rfl, hv⟩
          rw [List.getElem?_map] at hv
          obtain ⟨o, ho, rfl⟩ := Option.map_eq_some_iff.mp hv
          have et : l.take (i + 1) = l.take i ++ [o] := by rw [List.take_add_one, ho]; rfl
          cases o with
          | none =>
            refine ⟨rfl, .non, rfl, rfl, _, rfl, iteF ⟨?_, s4⟩⟩
            rw [et, List.filterMap_append]
            show H4 D = some (.lst (((l.take i).filterMap id ++ []).map V.str))
            rw [List.append_nil]
            exact hD
          | some z =>
            refine ⟨rfl, .str z, rfl, rfl, _, rfl, iteT ⟨.str z, rfl, _, hD, ?_, ?_, fun b o eb => ?_⟩⟩
            · refine big_lt ?_
              have := filt_len (l.take i)
              rw [List.length_take] at this
              rw [List.length_map]
              omega
            · rw [upd_same, et, List.filterMap_append, List.map_append]
              rfl
            · rw [upd_ne (ne_of_none eb nD)]
              exact s4 b o eb
        · rintro H3 ⟨hD, s4⟩
          rw [List.length_map, List.take_of_length_le (Nat.le_refl _)] at hD
          have fl := filt_len l
          refine ⟨D, l.filterMap id, rfl, SqL.of hD, by omega, fun ys N perm up nN => ?_⟩
          have s5 := same_upd (o := .lst (ys.map V.str)) nN
          have hN : (upd H3 N (.lst (ys.map V.str))) N = some (.lst (ys.map V.str)) := upd_same
          have s15 := s12.trans (s4.trans s5)
          have hin5 := s15.seq hin
          have yl := perm.length_eq
          refine ⟨.ref a, rfl, a, _, rfl, .inl hin5, rfl, flat_opt l, _, rfl, ?_⟩
          have em := asc_map perm up
          show if inV .non (l.map optV) = true then _ else _
          rw [none_in]
          refine ite2 (fun h => ?_) (fun h => ?_)
          · have h' : none ∈ l := of_decide_eq_true h
            rw [if_pos h'] at em
            refine ⟨.ref N, rfl, N, _, rfl, .inr (SqL.of hN), big_of (by show (ys.map V.str ++ []).length + 1 ≤ 1000; rw [List.append_nil, List.length_map]; omega), fun t nt => ?_⟩
            refine q t _ (s15.trans (same_upd nt)) (s15.free nt) ?_
            rw [upd_same, em, List.append_nil]
            rfl
          · have h' : none ∉ l := fun q => h (decide_eq_true q)
            rw [if_neg h'] at em
            refine ⟨.ref N, rfl, N, _, rfl, .inl ⟨SqL.of hN, fun t nt => ?_⟩⟩
            refine q t _ (s15.trans (same_upd nt)) (s15.free nt) ?_
            rw [upd_same, em]
            rfl
    · refine ⟨_, pss_cons (ps_if (pt_not (pt_val (pe_callB call_isiT (by rfl) m_isinstance (by decide +kernel) (pa_cons (pv 1) (pa_cons (pe_tup (pa_cons (pe_bltn (v := .ty "list") (by rfl) m_list (by decide +kernel) rfl) (pa_cons (pe_bltn (v := .ty "tuple") (by rfl) m_tuple (by decide +kernel) rfl) pa_nil))) pa_nil)))))
            (pss_one ps_never) pss_nil)
          (pss_cons (ps_for PassesOwn.never rfl (pi_tup (pv 1)) (pg_name (i := 2) nd rfl (.inl rfl))
            (pss_one (ps_if (PW.pt (pw_and (pt_cmpR op_notN (pv 2) pe_non (nomark _)) (pw_and1 (pt_not (pt_val (pe_cstat (pe_glob (v := .ref CC) rfl gC rfl) RCC csG GG hr1 bG (pa_cons (pv 2) pa_nil)))))))
              (pss_one ps_never) pss_nil)))
          (pss_cons (ps_if (pt_cmpR op_ne (pe_callB cr_lenN (by rfl) m_len (by decide +kernel) (pa_cons (pe_callTy (cr_setN rfl) (by rfl) m_set (by decide +kernel) (pa_cons (pv 1) pa_nil)) pa_nil)) (pe_callB call_len_seq (by rfl) m_len (by decide +kernel) (pa_cons (pv 1) pa_nil)) (nomark _))
            (pss_one ps_never) pss_nil)
          (pss_cons (ps_set (i := 3) nd rfl (.inl rfl) (pe_callB cr_sortedS (by rfl) m_sorted (by decide +kernel) (pa_cons (pe_lc (own := [("target", 2)]) (g := gName 2) rfl nd (pi_tup (pv 1)) (blkOk_by (N := NWK) (sc := defScope sWK) (by decide +kernel)) (fun _ _ _ _ _ => pg_name (i := 2) nd rfl (.inl rfl)) (fun _ _ _ _ _ => pts_one (pt_cmpR op_notN (pv 2) pe_non (nomark _))) (fun _ _ _ _ _ => (pv 2))) pa_nil)))
          (pss_cons (ps_if (pt_cmpR op_in_seq pe_non (pv 1) (by rfl))
            (pss_one (ps_ret (pe_tup (pa_cons pe_non (StX.pa_star (pv 3) pa_nil))))) pss_nil)
          (pss_one (ps_ret (pe_callTy call_tuple_of (by rfl) m_tuple (by decide +kernel) (pa_cons (pv 3) pa_nil)))))))), ?_⟩
      refine ⟨.ref a, rfl, by show 2 ≤ sizeLine; decide, fun t1 nt1 => ?_⟩
      have s1 := same_upd (o := .tup [.ty "list", .ty "tuple"]) nt1
      have hin1 := SqT.same s1 hin
      refine ⟨.ref a, t1, [.ty "list", .ty "tuple"], .type "tuple", [.type "list", .type "tuple"], true, rfl, upd_same, .cons (.ty _) (.cons (.ty _) .nil), ty_tuple hin1, kit2_tuple, _, rfl, iteF ?_⟩
      revert s1 hin1
      generalize upd H t1 (.tup [.ty "list", .ty "tuple"]) = H1
      intro s1 hin1
      refine ⟨.ref a, rfl, a, rfl, ⟨_, hin1⟩, for_tup (K := K) (a := a) (xs := l.map optV) (fun _ σ H' => (∃ x2, σ = [some (.ref x), some (.ref a), x2, none]) ∧ H' = H1) ⟨⟨_, rfl⟩, rfl⟩ (fun _ _ _ _ h => by rw [h.2]; exact hin1) ?_ ?_⟩
      · rintro i v σ H' hv ⟨⟨x2, rfl⟩, rfl⟩
        rw [List.getElem?_map] at hv
        obtain ⟨o, ho, rfl⟩ := Option.map_eq_some_iff.mp hv
        have hto := ok.tg o (List.mem_of_getElem? ho)
        cases o with
        | none => exact ⟨.non, rfl, rfl, _, rfl, iteF ⟨⟨_, rfl⟩, rfl⟩⟩
        | some z =>
          have hz : isTgtV (.str z) := hto
          obtain ⟨z', ez, hz8, _⟩ := tgt_str hz
          have ez' := V.str.inj ez
          subst ez'
          refine ⟨.str z, rfl, rfl, _, rfl, iteT ⟨rfl, .str z, rfl, .str z, rfl, TyS.of (N := fun _ => True) (.str z), fun u e => by rw [← V.str.inj e]; exact big_of (by omega), _, rfl, ?_⟩⟩
          rw [show isTgt (.str z) = true from hz]
          exact iteF ⟨⟨_, rfl⟩, rfl⟩
      · rintro σ H' ⟨⟨x2, rfl⟩, rfl⟩
        have few := ok.few
        refine ⟨.ref a, rfl, a, l.map keyO, rfl, .inr (by rw [map_keyO]; exact hin1), by rw [List.length_map]; omega, fun p ks np knd kmem klen => ?_⟩
        have s2 := same_upd (o := NxO w p ks) np
        have kl : ks.length = l.length := by
          have e := (List.perm_ext_iff_of_nodup knd (ok.nd.map keyO fun a b h e => h (keyO_inj e))).mpr kmem
          rw [e.length_eq, List.length_map]
        have hin2 := SqT.same s2 hin1
        refine ⟨p, ks, rfl, upd_same, .ref a, rfl, a, l.map optV, rfl, .inr hin2, rfl, _, rfl, ?_⟩
        rw [List.length_map, kl]
        refine iteNS rfl ?_
        have s12 := s1.trans s2
        -- the targets, in order
        refine ⟨.ref a, rfl, a, rfl, ⟨_, hin2⟩, fun D nD => ?_⟩
        refine lc_it walk_tup (fun i Hx => Hx D = some (.lst (((l.take i).filterMap id).map V.str)) ∧ Same (upd H' p (NxO w p ks)) Hx) ⟨upd_same, same_upd nD⟩ (fun _ _ _ h => by have s9 := h.2; exact SqT.same s9 hin2) ?_ ?_
        · rintro i v H3 H4 hi ⟨hD, s4⟩ ⟨rfl, hv⟩
          rw [List.getElem?_map] at hv
          obtain ⟨o, ho, rfl⟩ := Option.map_eq_some_iff.mp hv
          have et : l.take (i + 1) = l.take i ++ [o] := by rw [List.take_add_one, ho]; rfl
          cases o with
          | none =>
            refine ⟨rfl, .non, rfl, rfl, _, rfl, iteF ⟨?_, s4⟩⟩
            rw [et, List.filterMap_append]
            show H4 D = some (.lst (((l.take i).filterMap id ++ []).map V.str))
            rw [List.append_nil]
            exact hD
          | some z =>
            refine ⟨rfl, .str z, rfl, rfl, _, rfl, iteT ⟨.str z, rfl, _, hD, ?_, ?_, fun b o eb => ?_⟩⟩
            · refine big_lt ?_
              have := filt_len (l.take i)
              rw [List.length_take] at this
              rw [List.length_map]
              omega
            · rw [upd_same, et, List.filterMap_append, List.map_append]
              rfl
            · rw [upd_ne (ne_of_none eb nD)]
              exact s4 b o eb
        · rintro H3 ⟨hD, s4⟩
          rw [List.length_map, List.take_of_length_le (Nat.le_refl _)] at hD
          have fl := filt_len l
          refine ⟨D, l.filterMap id, rfl, SqL.of hD, by omega, fun ys N perm up nN => ?_⟩
          have s5 := same_upd (o := .lst (ys.map V.str)) nN
          have hN : (upd H3 N (.lst (ys.map V.str))) N = some (.lst (ys.map V.str)) := upd_same
          have s15 := s12.trans (s4.trans s5)
          have hin5 := SqT.same s15 hin
          have yl := perm.length_eq
          refine ⟨.ref a, rfl, a, _, rfl, .inr hin5, rfl, flat_opt l, _, rfl, ?_⟩
          have em := asc_map perm up
          show if inV .non (l.map optV) = true then _ else _
          rw [none_in]
          refine ite2 (fun h => ?_) (fun h => ?_)
          · have h' : none ∈ l := of_decide_eq_true h
            rw [if_pos h'] at em
            refine ⟨.ref N, rfl, N, _, rfl, .inr (SqL.of hN), big_of (by show (ys.map V.str ++ []).length + 1 ≤ 1000; rw [List.append_nil, List.length_map]; omega), fun t nt => ?_⟩
            refine q t _ (s15.trans (same_upd nt)) (s15.free nt) ?_
            rw [upd_same, em, List.append_nil]
            rfl
          · have h' : none ∉ l := fun q => h (decide_eq_true q)
            rw [if_neg h'] at em
            refine ⟨.ref N, rfl, N, _, rfl, .inl ⟨SqL.of hN, fun t nt => ?_⟩⟩
            refine q t _ (s15.trans (same_upd nt)) (s15.free nt) ?_
            rw [upd_same, em]
            rfl
end
abbrev sWU : Stmt := inClass (top 14) 0
section
variable {P : Program} {w : World} {K : PySem.W.Frag} {mg : Str → Option Value} {base : Heap}
abbrev NWU : List Str := ["self", "width", "rows", "prefix"]
theorem scWU : FnScope NWU ["self", "width", "rows"] (defScope sWU) := ⟨rfl, rfl, rfl, by decide +kernel, rfl, by decide +kernel, by decide +kernel⟩
set_option maxHeartbeats 8000000 in
theorem ok_WU {f fV fI fWK CW : Addr} {fd fdV fdI fdWK : FuncData} {k : Nat} (F : Fun K "__init__" "PrefixMap.__init__" sWU f fd)
    (GV : FnOk P w K mg base CX0 k fV fdV ["thing"] (spWidth K))
    (FV : Fun K "is_width" "is_width" sV fV fdV) (bV : Binds K fdV ["thing"] []) (gV : mg "is_width" = some (.ref fV))
    (m_dict : mg "dict" = none)
    (m_isinstance : mg "isinstance" = none)
    (GI : FnOk P w K mg base CX0 k fI fdI ["thing", "width"] (spPfx K))
    (FI : Fun K "is_prefix" "is_prefix" sI fI fdI) (bI : Binds K fdI ["thing", "width"] []) (gI : mg "is_prefix" = some (.ref fI))
    (clW : Cls K CW)
    (nW_width : NoAttr K CW "_width")
    (m_sorted : mg "sorted" = none)
    (GWK : FnOk P w K mg base CX0 k fWK fdWK ["self", "value"] (spChkW K))
    (mtWK : Meth K CW "_checked" fWK) (bWK : Binds K fdWK ["self", "value"] [])
    (nW_rows : NoAttr K CW "_rows")
    : FnOk P w K mg base CX0 (k + 1) f fd ["self", "width", "rows"] (spInitW K CW) := by
  refine F.ok scWU (fun vs H Q E h => ?_) (fun cdv A outer s H vs Q E hr h => ?_)
  · obtain ⟨x, dx, d, w, kvs, rows, rfl, _⟩ := h
    rfl
  · obtain ⟨x, dx, d, w, kvs, rows, rfl, hx, w1, w32, hd, hin, ok, few, q⟩ := h
    have nd := scWU.nd
    have hu := hr.units
    have hu1 := hu_of hr
    have hr1 := hr
    refine ⟨_, pss_cons (ps_if (pt_not (pt_val (pe_call GV hr1 (by rfl) gV FV.kp bV .nil pass0 (pa_cons (pv 1) pa_nil))))
        (pss_one ps_never) pss_nil)
      (pss_cons (ps_if (pt_not (pt_val (pe_callB call_isi (by rfl) m_isinstance (by decide +kernel) (pa_cons (pv 2) (pa_cons (pe_bltn (v := .ty "dict") (by rfl) m_dict (by decide +kernel) rfl) pa_nil)))))
        (pss_one ps_never) pss_nil)
      (pss_cons (ps_lock (ps_for PassesOwn.never rfl (pi_keys (pv 2)) (pg_name (i := 3) nd rfl (.inl rfl))
        (pss_one (ps_if (pt_not (pt_val (pe_call GI hr1 (by rfl) gI FI.kp bI .nil pass0 (pa_cons (pv 3) (pa_cons (pv 1) pa_nil)))))
          (pss_one ps_never) pss_nil))))
      (pss_cons (ps_fld (pv 0) (pv 1) rfl)
      (pss_one (ps_fld (pv 0) (pe_dc (own := [("prefix", 3)]) (g := gName 3) (tt := tYes) rfl nd (pi_list (pe_callB (call_sortedD rfl) (by rfl) m_sorted (by decide +kernel) (pa_cons (pv 2) pa_nil))) (blkOk_by (N := NWU) (sc := defScope sWU) (by decide +kernel)) (fun _ _ _ _ _ => pg_name (i := 3) nd rfl (.inl rfl)) (fun _ _ _ _ _ => pts_nil) (fun _ _ _ _ _ => (pv 3)) (fun _ _ _ _ _ => (pe_meth (pv 0) clW mtWK GWK hr1 bWK .nil pass0 (pa_cons (pe_dget hu1 (pv 2) (pv 3) (fun _ _ => rfl)) pa_nil)))) rfl))))), ?_⟩
    -- the width
    obtain ⟨t, ht⟩ := TyI.of (K := K) (H := H) (N := fun _ => True) (.int (w : Int))
    refine ⟨.int w, rfl, .int w, t, rfl, ht, _, rfl, ?_⟩
    have hw : isWidthV (.int (w : Int)) = true := by
      show (decide ((1 : Int) ≤ w) && decide ((w : Int) ≤ 32)) = true
      rw [decide_eq_true (by omega), decide_eq_true (by omega)]
      rfl
    rw [hw]
    refine iteF ?_
    refine ⟨.ref d, rfl, .ref d, .ty "dict", .type "dict", .type "dict", _, rfl, .ty _, .base (.dK hd), kitv (b := true) (by decide +kernel), _, rfl, iteF ?_⟩
    have hkeys := hin.keys
    -- its prefixes
    refine ⟨d, .dK kvs, hd, trivial, fun od => ?_⟩
    refine ⟨.ref d, rfl, d, od, rfl, .inl ⟨kvs, upd_same, ?_⟩⟩
    refine for_it walk_keys (fun _ σ H' => (∃ x3, σ = [some (.ref x), some (.int w), some (.ref d), x3]) ∧ H' = upd H d (.frz od (.dK kvs))) ⟨⟨_, rfl⟩, rfl⟩ (fun _ _ _ _ h => by rw [h.2, upd_same]) ?_ ?_
    · rintro i v σ H1 H2 hi ⟨⟨x3, rfl⟩, rfl⟩ ⟨rfl, k, v', hkv, rfl⟩
      obtain ⟨y, hy, rfl⟩ := key_at hkeys hkv
      have hym := List.mem_of_getElem? hy
      refine ⟨.str y, rfl, .int w, rfl, .str y, w, rfl, TyS.of (N := fun _ => True) (.str y), fun z e => ?_, _, rfl, ?_⟩
      · rw [← V.str.inj e]
        exact Nat.le_trans (ok.pfx.len y hym) (Nat.le_trans w32 (by decide))
      have e : isPfx (.str y) (w : Int) = true := by
        show (decide ((y.length : Int) ≤ w) && isBits y) = true
        rw [decide_eq_true (by have := ok.pfx.len y hym; omega), ok.pfx.bits y hym]
        rfl
      rw [e]
      exact iteF ⟨⟨_, rfl⟩, rfl⟩
    · rintro σ H1 ⟨⟨x3, rfl⟩, rfl⟩
      refine ⟨upd_same, ?_⟩
      rw [upd_back hd]
      refine ⟨.int w, rfl, .ref x, rfl, x, CW, dx, [], rfl, hx, clW, nW_width, (by show 0 < 1000; decide), ?_⟩
      have ndx : d ≠ x := ne_of hd hx (fun e => nomatch e)
      have hdW : (upd H x (.ins CW dx (putF "_width" (.int w) []))) d = some (.dK kvs) := by rw [upd_ne ndx]; exact hd
      refine ⟨.ref d, rfl, d, kvs, rows.map (·.1), rfl, .inl hdW, hkeys, by rw [List.length_map]; exact few, fun ys l hperm hup nl => ?_⟩
      have eys := sortS_of hperm hup
      have hll : (upd (upd H x (.ins CW dx (putF "_width" (.int w) []))) l (.lst (ys.map V.str))) l = some (.lst (ys.map V.str)) := upd_same
      have s1 := same_upd (o := .lst (ys.map V.str)) nl
      have hx1 := s1 _ _ (upd_same (H := H) (a := x) (o := .ins CW dx (putF "_width" (.int w) [])))
      have hd1 := s1 _ _ hdW
      have old1 : ∀ b o, H b = some o → b ≠ x → (upd (upd H x (.ins CW dx (putF "_width" (.int w) []))) l (.lst (ys.map V.str))) b = some o := fun b o e nb => s1 b o (by rw [upd_ne nb]; exact e)
      have hin1 : InVal K (upd (upd H x (.ins CW dx (putF "_width" (.int w) []))) l (.lst (ys.map V.str))) kvs rows := hin.mono fun kv r ⟨e, a, e2, ha⟩ => by
        have nax : (SqL K H a (r.2.map optV) ∨ SqT K H a (r.2.map optV)) → SqL K (upd H x (.ins CW dx (putF "_width" (.int w) []))) a (r.2.map optV) ∨ SqT K (upd H x (.ins CW dx (putF "_width" (.int w) []))) a (r.2.map optV) := fun h => by
          rcases h with ((h | ⟨o, h⟩) | h) | ((h | ⟨o, h⟩) | h)
          · exact .inl (.inl (.inl (by rw [upd_ne (ne_of h hx (fun z => nomatch z))]; exact h)))
          · exact .inl (.inl (.inr ⟨o, by rw [upd_ne (ne_of h hx (fun z => nomatch z))]; exact h⟩))
          · exact .inl (.inr h)
          · exact .inr (.inl (.inl (by rw [upd_ne (ne_of h hx (fun z => nomatch z))]; exact h)))
          · exact .inr (.inl (.inr ⟨o, by rw [upd_ne (ne_of h hx (fun z => nomatch z))]; exact h⟩))
          · exact .inr (.inr h)
        exact ⟨e, a, e2, SqO.same s1 (nax ha)⟩
      revert hll hx1 hd1 old1 hin1
      generalize upd (upd H x (.ins CW dx (putF "_width" (.int w) []))) l (.lst (ys.map V.str)) = H2
      intro hll hx1 hd1 old1 hin1
      refine ⟨l, rfl, ⟨_, SqL.of hll⟩, fun G nG => ?_⟩
      have nxG : x ≠ G := ne_of_none hx1 nG
      have ynd : ys.Nodup := hperm.nodup_iff.mpr ok.pfx.nd
      refine dc_it walk_list (fun i H' => ∃ kvs', H' G = some (.dK kvs') ∧ WVal H' kvs' ((ys.take i).map fun y => (y, ascO (look rows y))) ∧ ∀ b o, H2 b = some o → H' b = some o) ⟨[], upd_same, .nil, fun b o e => by rw [upd_ne (ne_of_none e nG)]; exact e⟩
        (fun _ H' _ h => by obtain ⟨_, _, _, k⟩ := h; exact SqL.of (k _ _ hll)) ?_ ?_
      · rintro i v H3 H4 hi ⟨kvs', hG, hv, keep⟩ ⟨rfl, hvi⟩
        rw [List.getElem?_map] at hvi
        have hil : i < ys.length := by rw [List.length_map] at hi; exact hi
        rw [List.getElem?_eq_getElem hil] at hvi
        obtain rfl : V.str ys[i] = v := Option.some.inj hvi
        have hym : ys[i] ∈ rows.map (·.1) := hperm.mem_iff.mp (List.getElem_mem hil)
        obtain ⟨a, hva, hsa⟩ := hin1.at hym
        refine ⟨rfl, yes_if ?_⟩
        refine ⟨.str ys[i], rfl, .ref x, rfl, x, dx, _, rfl, keep _ _ hx1, ?_, .ref d, rfl, .str ys[i], rfl, d, .ref a, rfl, by rw [← hva]; exact DGet.k (k := .inr ys[i]) (keep _ _ hd1), ?_⟩
        · rw [lookup_putF, if_neg (by decide +kernel)]
          rfl
        refine ⟨x, a, look rows ys[i], rfl, SqO.same keep hsa, ok.ok _ (look_at hym), fun t H5 s5 nt ht => ?_⟩
        have hG5 := s5 _ _ hG
        have kl : kvs'.length ≤ ys.length := by
          have e := congrArg List.length hv.keys
          rw [List.length_map, List.length_map, List.length_map, List.length_map, List.length_take] at e
          omega
        have hp := hperm.length_eq
        rw [List.length_map] at hp
        have et : (ys.take (i + 1)) = ys.take i ++ [ys[i]] := by rw [List.take_add_one, List.getElem?_eq_getElem hil]; rfl
        have hk : kvs'.map (·.1) = (ys.take i).map Sum.inr := by
          rw [hv.keys, List.map_map, List.map_map]
          rfl
        have hnew : (Sum.inr ys[i] : Key) ∉ kvs'.map (·.1) := by
          rw [hk, List.mem_map]
          rintro ⟨z, hz, e⟩
          obtain ⟨j, hj, ej⟩ := List.mem_take_iff_getElem.mp hz
          have e2 : ys[j]'(by omega) = ys[i] := by rw [ej]; exact Sum.inr.inj e
          have := (List.getElem_inj ynd).mp e2
          omega
        have s56 : ∀ b o, (∀ k, o ≠ HO.dK k) → H5 b = some o → (upd H5 G (.dK (putK kvs' (.inr ys[i]) (.ref t)))) b = some o := fun b o no e => by
          rw [upd_ne (fun q => no kvs' (by rw [q, hG5] at e; exact (Option.some.inj e).symm))]
          exact e
        refine ⟨kvs', .inr ys[i], rfl, hG5, big_lt (by omega), kvs' ++ [(.inr ys[i], .ref t)], by rw [upd_same, putK_end hnew], ?_, fun b o e => ?_⟩
        · rw [et, List.map_append]
          refine paired_app ?_ (.cons ⟨rfl, t, rfl, s56 _ _ (fun _ z => nomatch z) ht⟩ .nil)
          exact hv.mono fun kv r ⟨e, a, e2, ha⟩ => ⟨e, a, e2, s56 _ _ (fun _ z => nomatch z) (s5 _ _ ha)⟩
        · rw [upd_ne (ne_of_none e nG)]
          exact s5 _ _ (keep b o e)
      · rintro H3 ⟨kvs', hG, hv, keep⟩
        rw [List.length_map, List.take_of_length_le (Nat.le_refl _), eys] at hv
        refine ⟨.ref x, rfl, x, CW, dx, _, rfl, keep _ _ hx1, clW, nW_rows, (by show 1 < 1000; decide), ?_⟩
        have hH : ∀ b, H2 b = none → H b = none := fun b hb => by
          cases e : H b with
          | none => rfl
          | some o =>
            by_cases hbx : b = x
            · rw [hbx, hx1] at hb
              cases hb
            · rw [old1 b o e hbx] at hb
              cases hb
        have hx3 := keep _ _ hx1
        have s3 : ∀ b o, (∀ c d f, o ≠ HO.ins c d f) → H3 b = some o → (upd H3 x (.ins CW dx (putF "_rows" (.ref G) (putF "_width" (.int w) [])))) b = some o := fun b o no e => by
          rw [upd_ne (fun q => no _ _ _ (by rw [q, hx3] at e; exact (Option.some.inj e).symm))]
          exact e
        refine q G _ (hH G nG) ⟨⟨dx, upd_same⟩, kvs', s3 _ _ (fun _ _ _ z => nomatch z) hG, hv.mono fun kv r ⟨e, a, e2, ha⟩ => ⟨e, a, e2, s3 _ _ (fun _ _ _ z => nomatch z) ha⟩⟩ fun b o e nb => ?_
        rw [upd_ne nb]
        exact keep b o (old1 b o e nb)
end

abbrev sWTInit : Stmt := inClass sWsh 0
theorem scWTInit : ScS ["self", "width", "rows"] (defScope sWTInit) := ⟨rfl, rfl, rfl, by decide +kernel, by decide +kernel, by decide +kernel, by decide +kernel, by decide +kernel, by decide +kernel⟩
theorem ok_wtinit {P : Program} {w : World} {K : PySem.W.Frag} {mg : Str → Option Value} {base : Heap} {f f2 C D : Addr} {fd fd2 : FuncData} {k : Nat} {file : Str} (F : FunS K file "__init__" "Wish.__init__" sWTInit f D fd) (G2 : FnOk P w K mg base CX0 k f2 fd2 ["self", "width", "rows"] (spInitW K C)) (b2 : Binds K fd2 ["self", "width", "rows"] []) (fi : PySem.W.fnIn K f2 = true)
    (ty : PySem.W.typeIn K (.ref f2) = some (.type "function")) (hcd : ∃ cdD, PySem.W.clsIn K D = some cdD) (hsub : PySem.W.mroIn K C (.ref D) = some true) (hm : PySem.W.ks_superIn K C D "__init__" = some (some (.ref f2))) (hop : PySem.W.nsIn K cStatics "thirdparty.any" = some none) (hsu : mg "super" = none)
    (hfile : ((P.main.file : Str) == file) = true) (htop : (P.main.scope.names.lookup ("super" : Str)).isSome = false) : FnOk P w K mg base CX0 (k + 1) f fd ["self", "width", "rows"] (spInitW K C) := by
  refine ok_super (self := "self") F scWTInit ((G2.raw b2 .nil).imp fun vs H Q E h => by rw [List.append_nil]; exact h) fi ty hcd hsub hm hop hsu hfile htop rfl ⟨_, rfl, rfl⟩ rfl (by decide +kernel) (fun _ => ⟨_, rfl⟩) (fun _ => rfl) (fun _ => rfl) (fun _ => rfl) (fun vs H Q E h => ?_) (fun h => h) (fun A cda cc outer s H vs Q hr h => ?_)
  · obtain ⟨x, dx, d, w, kvs, rows, rfl, _⟩ := h
    rfl
  · obtain ⟨x, dx, d, w, kvs, rows, rfl, hx, w1, w32, hd, hin, ok, few, q⟩ := h
    refine ⟨x, dx, _, _, _, rfl, hx, pa_cons (pv 1) (pa_cons (pv 2) pa_nil), pss_nil, ?_⟩
    exact ⟨.int w, rfl, .ref d, rfl, x, dx, d, w, kvs, rows, rfl, hx, w1, w32, hd, hin, ok, few, q⟩
abbrev sWT : Stmt := sWTInit

/-! ### == of two dicts whose values are data -/
def DEq (K : PySem.W.Frag) (H : Hp) (x y : V) : Prop := ∃ d, Dp K H x d ∧ Dp K H y d ∧ SeqAt.shaped d = true
def rEqDD (K : PySem.W.Frag) : R2 := fun x y H Q => ∃ a b ks ls, x = .ref a ∧ y = .ref b ∧ H a = some (.dK ks) ∧ H b = some (.dK ls) ∧ ks.length = ls.length ∧ (∀ p ∈ ks, ∃ u, valV ls p.1 = some u ∧ DEq K H p.2 u) ∧ Q (.bl true) H
theorem units65 {k : Nat} {A : Around} (r : Room k A) : A.units + 65 < cLine := by have := r.un; omega
theorem op_eqDD {X : Cx} (hu : X.A.units + 65 < cLine) : OpR X (compareOp .Eq) (rEqDD X.K) := by
  intro pins s σ H x y v u Q I rx ry h
  obtain ⟨a, b, ks, ls, rfl, rfl, ha, hb, hl, hp, q⟩ := h
  refine eqR_run (F := DEq X.K H) I (A := X.A) (by omega) (fun x y v u h r1 r2 => ?_) (.inr ⟨a, b, ks, ls, rfl, rfl, ha, hb, hl, hp⟩) rx ry _ _ ⟨.bl true, H, I, rfl, q⟩
  obtain ⟨d, h1, h2, sh⟩ := h
  obtain ⟨as, q1⟩ := Dp.reads I d x v h1 r1
  obtain ⟨bs, q2⟩ := Dp.reads I d y u h2 r2
  have z := SeqAt.eqAt_reads d d X.A.in1 s v u as bs q1 q2 (SeqAt.canLay_of_shaped sh) (SeqAt.canLay_of_shaped sh) (SeqAt.room_of_shaped sh (show X.A.units + 1 + 64 < cLine by omega))
  rw [SeqAt.eqv_refl] at z
  · exact z.eqP
  · exact SeqAt.canLay_of_shaped sh
def optD : Option Str → PyData
  | none => .none
  | some x => .str x
theorem dpAll_opt {K : PySem.W.Frag} {H : Hp} : ∀ l : List (Option Str), DpAll K H (l.map optV) (l.map optD)
  | [] => .nil
  | none :: r => .cons .non (dpAll_opt r)
  | some x :: r => .cons (.str x) (dpAll_opt r)
def lowS (x : Str) : Prop := ∀ c ∈ sg x, c < 128
theorem lay_opt : ∀ l : List (Option Str), (∀ x, some x ∈ l → lowS x) → PyData.canLayAll0 (l.map optD) = true
  | [], _ => by simp only [List.map_nil, PyData.canLayAll0]
  | o :: r, h => by
    rw [List.map_cons]
    simp only [PyData.canLayAll0]
    rw [lay_opt r fun x hx => h x (List.mem_cons_of_mem _ hx), Bool.and_true]
    cases o with
    | none => simp only [optD, PyData.canLay0]
    | some x =>
      simp only [optD, PyData.canLay0]
      unfold PyData.strOk
      rw [Array.all_eq_true']
      intro c hc
      have := h x List.mem_cons_self c (Array.mem_toList_iff.mpr hc)
      exact decide_eq_true (by omega)
theorem depth_opt (l : List (Option Str)) : PyData.depthAll (l.map optD) ≤ 0 := depthAll_le fun d hd => by
  obtain ⟨o, _, rfl⟩ := List.mem_map.mp hd
  cases o <;> (simp only [optD, PyData.depth]; exact Nat.le_refl _)
theorem shaped_optT {l : List (Option Str)} (h : ∀ x, some x ∈ l → lowS x) : SeqAt.shaped (.tuple (l.map optD)) = true := by
  have := depth_opt l
  unfold SeqAt.shaped
  rw [Bool.and_eq_true]
  refine ⟨by simp only [PyData.canLay0]; exact lay_opt l h, decide_eq_true ?_⟩
  simp only [PyData.depth]
  omega
theorem isT_low {x : Str} (h : isT x = true) : lowS x := by
  obtain ⟨y, e, s⟩ := tgt_sm (v := .str x) h
  rw [V.str.inj e]
  exact s.ch
theorem OkL.low {l : List (Option Str)} (h : OkL isT l) : ∀ x, some x ∈ l → lowS x := fun x hx => isT_low (h.tg _ hx)
theorem rows_len2 {kvs : List (Key × V)} {rows : WRows} (h : kvs.map (·.1) = (rows.map (·.1)).map Sum.inr) : kvs.length = rows.length := by
  have := congrArg List.length h
  rw [List.length_map, List.length_map, List.length_map] at this
  exact this
theorem wval_eq {K : PySem.W.Frag} {H : Hp} {kvs kvs2 : List (Key × V)} {rows : WRows} (h : WVal H kvs rows) (h2 : WVal H kvs2 rows) (nd : (rows.map (·.1)).Nodup) (sm : ∀ r ∈ rows, OkL isT r.2) {p : Key × V} (hp : p ∈ kvs) : ∃ u, valV kvs2 p.1 = some u ∧ DEq K H p.2 u := by
  have hk : p.1 ∈ (rows.map (·.1)).map Sum.inr := by
    rw [← h.keys]
    exact List.mem_map.mpr ⟨p, hp, rfl⟩
  obtain ⟨y, hy, ey⟩ := List.mem_map.mp hk
  obtain ⟨a, va, ha⟩ := h.at hy
  obtain ⟨b, vb, hb⟩ := h2.at hy
  have kn : (kvs.map (·.1)).Nodup := by
    rw [h.keys]
    exact nd.map Sum.inr (fun a b h e => h (Sum.inr.inj e))
  have vp := valV_some kn (k := p.1) (v := p.2) hp
  rw [← ey, va] at vp
  refine ⟨.ref b, by rw [← ey]; exact vb, .tuple ((look rows y).map optD), ?_, .tup (SqT.of hb) (dpAll_opt _), shaped_optT (sm _ (look_at hy)).low⟩
  rw [← Option.some.inj vp]
  exact .tup (SqT.of ha) (dpAll_opt _)
/-- == of two wishes of the same rows -/
def spEqW (C : Addr) : Sp := fun vs H Q _ => ∃ (x y e e2 : Addr) (w : Nat) (rows : WRows), vs = [.ref x, .ref y] ∧ WishAt C H x e w rows ∧ WishAt C H y e2 w rows ∧ (rows.map (·.1)).Nodup ∧ (∀ r ∈ rows, OkL isT r.2) ∧ Q (.bl true) H
section
variable {P : Program} {w : World} {K : PySem.W.Frag} {mg : Str → Option Value} {base : Heap}
theorem ok_eqmW {f C D : Addr} {fd : FuncData} {k : Nat} (F : Fun K "__eq__" "PrefixMap.__eq__" sEq f fd) (T : ClsF K C) (mi : mg "isinstance" = none) (mt : mg "type" = none) (mD : mg "PrefixMap" = some (.ref D)) (hk : PySem.W.kitOne K (.ref C) (.ref D) = some true) (hmk : PySem.W.makesIn K C = true) (OC : ObjC K C) :
    FnOk P w K mg base CX0 (k + 1) f fd ["self", "other"] (spEqW C) := by
  refine F.ok scEq (fun vs H Q E h => ?_) (fun cdv A outer s H vs Q E hr h => ?_)
  · obtain ⟨x, y, e, e2, w, rows, rfl, _⟩ := h
    rfl
  · obtain ⟨x, y, e, e2, w, rows, rfl, ⟨⟨dx, hx⟩, kvs, he, hv⟩, ⟨⟨dy, hy⟩, kvs2, he2, hv2⟩, nd, sm, q⟩ := h
    have hu := hu_of hr
    refine ⟨_, pss_cons (ps_if (pt_not (pt_val (pe_callB call_isi (by rfl) mi (by decide +kernel) (pa_cons (pv 1) (pa_cons (pe_glob (v := .ref D) rfl mD rfl) pa_nil))))) (pss_one (ps_ret pe_bl)) pss_nil)
      (pss_one (ps_ret (pe_and (pe_cmpR op_is_cls (pe_callTy cr_type (by rfl) mt (by decide +kernel) (pa_cons (pv 0) pa_nil)) (pe_callTy cr_type (by rfl) mt (by decide +kernel) (pa_cons (pv 1) pa_nil)) (nomark _))
        (pe_and (pe_cmpR op_eq (pe_fld (pv 0) rfl) (pe_fld (pv 1) rfl) (nomark _)) (pe_one (pe_cmpR (op_eqDD (units65 hr)) (pe_fld (pv 0) rfl) (pe_fld (pv 1) rfl) (nomark _))))))), ?_⟩
    refine ⟨.ref y, rfl, .ref y, .ref D, .ref C, .ref D, _, rfl, .own _, .base (.ins hy T.cl OC.ca OC.cg OC.ct OC.ob), hk, _, rfl, iteF ?_⟩
    refine ⟨.ref x, rfl, x, C, dx, _, rfl, hx, .ref y, rfl, y, C, dy, _, rfl, hy, C, C, rfl, rfl, .inl rfl, _, rfl, ?_⟩
    rw [decide_eq_true rfl]
    refine iteT ⟨.ref x, rfl, x, C, dx, _, _, rfl, hx, T.cl, T.nW, flds_w _ _, .ref y, rfl, y, C, dy, _, _, rfl, hy, T.cl, T.nW, flds_w _ _, rfl, _, rfl, ?_⟩
    rw [decide_eq_true rfl]
    refine iteT ⟨.ref x, rfl, x, C, dx, _, _, rfl, hx, T.cl, T.nR, flds_r _ _, .ref y, rfl, y, C, dy, _, _, rfl, hy, T.cl, T.nR, flds_r _ _, e, e2, kvs, kvs2, rfl, rfl, he, he2, by rw [rows_len2 hv.keys, rows_len2 hv2.keys], fun p hp => wval_eq hv hv2 nd sm hp, q⟩
end
/-! ### C.m(k = v, ..), m a classmethod of the class C -/
def tCMethK (C : Addr) (sp : Sp) (gV : List V → List V → List V) (ta : TE) (tk : TA) : TE := fun σ H Q => ta σ H fun x H1 => x = .ref C ∧ tk σ H1 fun zs H2 => sp (gV [.ref C] zs) H2 Q E0
section
variable {X : Cx} {k : Nat} {C p g : Addr} {mc : Value} {sp : Sp} {o : Expr} {kws : List Keyword} {m : Str} {pos apos : Pos} {ta : TE} {tk : TA} {fd : FuncData} {ps ks : List Str}
theorem pe_cmethK {pl : Sem Bool} {gv : List Value → List Value → List Value} {hV : List V → List V → List V} (he : PE X o ta) (r : ClX.CRead X.K C mc) (c : ClX.CMet X.K C mc m p g) (F : FnOk X.prog X.w X.K X.mg X.base CX0 k g fd ps sp) (hr : Room k X.A) (hb : KBinds X.K fd ps ks gv hV) (hkw : PK X kws tk)
    (hall : (backToKw pos (keywordEach kws X.env)).all (·.1.isSome) = true := by rfl) (hks : (backToKw pos (keywordEach kws X.env)).filterMap (·.1) = ks := by rfl) (hpl : ((backTo pos (starEach [] X.env)).any (·.1) || (backToKw pos (keywordEach kws X.env)).any (·.1.isNone)) = false := by rfl)
    (ht : eval (.Call (.Attribute o m apos) [] kws pos) X.env = (eval o X.env >>= fun ov => standAt apos.atName >>= fun _ => holding [ov] (getMethod ov m pl) >>= fun q => callWith pos q.1 q.2 (backTo pos (starEach [] X.env)) (backToKw pos (keywordEach kws X.env))) := by rfl) :
    PE X (.Call (.Attribute o m apos) [] kws pos) (tCMethK C sp hV ta tk) := by
  refine ⟨fun pins s σ H Q I h => ?_⟩
  refine PySem.W.methodCall_KW (pl := pl) (thn (he.run pins s σ H _ I h) fun u s1 ⟨x, H1, I1, rx, ex, q⟩ => ?_) ht
  subst ex
  obtain rfl : u = Value.ref C := rx
  refine ClX.getmethcm_ok I1 r c fun s2 I2 => ?_
  refine PySem.W.callWith_of hpl (PySem.W.keeps_M c.fi) (evalArgs_kw2_nil hall (thn (hkw.run pos _ s2 σ H1 _ I2 q) fun ws s3 ⟨zs, H2, I3, rz, q2⟩ => ⟨⟨ClX.pin_at I3, I3.kIn⟩, ?_⟩))
  rw [hks]
  have r2 := hb.rel (us := [.ref C]) (vs := [.ref C]) (.cons rfl .nil) rz
  have hl := F.len _ _ _ _ q2
  have z : wpAny (model X.prog X.w) X.A (call (.ref s1.heap.objs.size) ([] ++ []) (ks.zip ws)) (EP X ((s1.heap.objs.size, PySem.W.methodObj (.ref g) (.ref C)) :: pins) σ Q) X.xe s3 := by
    refine wpAny_call (PySem.W.method_call (ClX.pin_at I3) (codeAny_mono (F.run X.A X.stack s3 H2 ⟨[.ref C], ks.zip ws⟩ (gv [.ref C] ws) _ Q E0 hr I3.env0 (hb.to s3 [.ref C] ws I3.kIn (by rw [← r2.length]; exact hl)) r2 q2) fun res s' hq => ?_))
    match res, hq with
    | .ok (.ret u), hq => exact I3.after hq
  exact thn z fun _ _ y => ClX.unpinE y
end
section
variable {X : Cx} {k : Nat} {C p g : Addr} {mc : Value} {sp : Sp} {o e : Expr} {es : List Expr} {m : Str} {pos apos : Pos} {ta : TE} {t : TA} {fd : FuncData} {ps : List Str}
theorem pe_cmethO {pl : Sem Bool} (he : PE X o ta) (r : ClX.CRead X.K C mc) (c : ClX.CMet X.K C mc m p g) (F : FnOk X.prog X.w X.K X.mg X.base CX0 k g fd ps sp) (hr : Room k X.A) (hb : Binds X.K fd ps []) (ha : PA X (e :: es) t)
    (hst : starEach (e :: es) X.env = (false, eval e X.env) :: starEach es X.env := by rfl) (hpl : (backTo pos (starEach es X.env)).any (·.1) = false := by rfl)
    (ht : eval (.Call (.Attribute o m apos) (e :: es) [] pos) X.env = (do
      let ov ← eval o X.env
      standAt apos.atName
      let (f, first) ← holding [ov] (getMethod ov m pl)
      callWith pos f first (backTo pos (starEach (e :: es) X.env)) (backToKw pos (keywordEach [] X.env))) := by rfl) :
    PE X (.Call (.Attribute o m apos) (e :: es) [] pos) (ClX.tCMeth C sp E0 ta t) :=
  ClX.pe_cmeth he r c ((F.raw hb .nil).imp fun vs H Q E h => by rw [List.append_nil]; exact h) hr pass0 ha hst hpl ht
end
abbrev sR : Stmt := sRows
abbrev sWidthP : Stmt := inClass sCls 3
abbrev sLenM : Stmt := inClass sCls 5
/-- .width; len() -/
def spWidthP (C : Addr) : Sp := fun vs H Q _ => ∃ (x e : Addr) (w : Nat) (kvs : List (Key × V)), vs = [.ref x] ∧ MapAt C H x e w kvs ∧ Q (.int w) H
def spLenM (C : Addr) : Sp := fun vs H Q _ => ∃ (x e : Addr) (w : Nat) (kvs : List (Key × V)), vs = [.ref x] ∧ MapAt C H x e w kvs ∧ Q (.int (kvs.length : Nat)) H
section
variable {P : Program} {w : World} {K : PySem.W.Frag} {mg : Str → Option Value} {base : Heap}
theorem scWidthP : FnScope ["self"] ["self"] (defScope sWidthP) := ⟨rfl, rfl, rfl, by decide +kernel, rfl, by decide +kernel, by decide +kernel⟩
theorem ok_widthP {f C : Addr} {fd : FuncData} {k : Nat} (F : Fun K "width" "PrefixMap.width" sWidthP f fd) (T : ClsF K C) : FnOk P w K mg base CX0 (k + 1) f fd ["self"] (spWidthP C) := by
  refine F.ok scWidthP (fun vs H Q E h => ?_) (fun cdv A outer s H vs Q E hr h => ?_)
  · obtain ⟨x, e, w, kvs, rfl, _⟩ := h
    rfl
  · obtain ⟨x, e, w, kvs, rfl, ⟨⟨dx, hx⟩, he⟩, q⟩ := h
    exact ⟨_, pss_one (ps_ret (pe_fld (pv 0) rfl)), .ref x, rfl, x, C, dx, _, _, rfl, hx, T.cl, T.nW, flds_w _ _, q⟩
end
abbrev sPw : Stmt := sWidthP
theorem rows_len {w : Nat} {vok : V → Prop} {xs : List Str} {kvs : List (Key × V)} (ok : RowsOk w vok xs kvs) : kvs.length = xs.length := by
  have := congrArg List.length ok.keys
  rw [List.length_map, List.length_map] at this
  exact this
theorem Sorted.rows {w : Nat} {vok : V → Prop} {xs ys : List Str} {kvs kvs' : List (Key × V)} (h : Sorted xs kvs kvs' ys) (ok : RowsOk w vok xs kvs) : RowsOk w vok ys kvs' := by
  have ynd : ys.Nodup := h.perm.nodup_iff.mpr ok.pfx.nd
  refine ⟨h.keys, ⟨ynd, fun x hx => ok.pfx.bits x (h.perm.mem_iff.mp hx), fun x hx => ok.pfx.len x (h.perm.mem_iff.mp hx)⟩, fun kv hk => ?_⟩
  have hm : kv.1 ∈ ys.map Sum.inr := by
    rw [← h.keys]
    exact List.mem_map.mpr ⟨kv, hk, rfl⟩
  obtain ⟨y, hy, e⟩ := List.mem_map.mp hm
  have hx := h.perm.mem_iff.mp hy
  have kn : (kvs'.map (·.1)).Nodup := by
    rw [h.keys]
    exact ynd.map Sum.inr (fun a b h e => h (Sum.inr.inj e))
  have v1 := valV_some kn (k := kv.1) (v := kv.2) hk
  rw [← e, h.val y hx] at v1
  unfold valV at v1
  obtain ⟨p, hp, ep⟩ := Option.map_eq_some_iff.mp v1
  rw [← ep]
  exact ok.val p (List.mem_of_find?_eq_some hp)

/-! ### what the laws want -/
def five : List (Option Str) := [some "b", none, some "ab", some "any", some "a"]
theorem five_ok : OkL isT five := ⟨by decide +kernel, fun o ho => by
  have h : ∀ o ∈ five, (match o with | none => true | some x => isT x) = true := by decide +kernel
  have := h o ho
  cases o with
  | none => trivial
  | some x => exact this, by decide +kernel⟩
theorem five_sub {l : List (Option Str)} (h : l.Sublist five) : OkL isT l := ⟨five_ok.nd.sublist h, fun o ho => five_ok.tg o (h.subset ho), Nat.le_trans h.length_le five_ok.few⟩
theorem a_ok : OkL isT [some "a"] := ⟨List.nodup_cons.mpr ⟨List.not_mem_nil, List.nodup_nil⟩, fun o ho => by rw [List.mem_singleton.mp ho]; show isT "a" = true; decide +kernel, by show 1 ≤ 40; decide⟩
/-- the lists that a law wants: none of them the pen -/
def LVal (p : Addr) (H : Hp) (kvs : List (Key × V)) (rows : WRows) : Prop := Paired (fun kv r => kv.1 = Sum.inr r.1 ∧ ∃ a, kv.2 = .ref a ∧ H a = some (.lst (r.2.map optV)) ∧ a ≠ p) kvs rows
theorem LVal.in {K : PySem.W.Frag} {p : Addr} {H : Hp} {kvs : List (Key × V)} {rows : WRows} (h : LVal p H kvs rows) : InVal K H kvs rows := h.mono fun _ _ ⟨e, a, e2, ha, _⟩ => ⟨e, a, e2, .inl (SqL.of ha)⟩
theorem LVal.but {p : Addr} {H H' : Hp} {kvs : List (Key × V)} {rows : WRows} (k : But p H H') (h : LVal p H kvs rows) : LVal p H' kvs rows := h.mono fun _ _ ⟨e, a, e2, ha, n⟩ => ⟨e, a, e2, k _ _ n ha, n⟩
theorem LVal.same {p : Addr} {H H' : Hp} {kvs : List (Key × V)} {rows : WRows} (k : Same H H') (h : LVal p H kvs rows) : LVal p H' kvs rows := h.but (.of_same k)
theorem LVal.keys {p : Addr} {H : Hp} {kvs : List (Key × V)} {rows : WRows} (h : LVal p H kvs rows) : kvs.map (·.1) = (rows.map (·.1)).map Sum.inr := paired_keys (fun _ _ q => q.1) h
theorem LVal.at {p : Addr} {H : Hp} {kvs : List (Key × V)} {rows : WRows} (h : LVal p H kvs rows) {y : Str} (hy : y ∈ rows.map (·.1)) : ∃ a, valV kvs (.inr y) = some (.ref a) ∧ H a = some (.lst ((look rows y).map optV)) := by
  obtain ⟨v, h1, _, a, e, h2, _⟩ := paired_at (fun _ _ q => q.1) h hy
  have e' : v = .ref a := e
  exact ⟨a, by rw [h1, e'], h2⟩
def spWanted : Sp := fun vs H Q _ => ∃ (p c : Addr) (n z most : Nat) (m : List V), vs = [.ref p, .int z, .int most] ∧ Pen H p c n m ∧ n + 2000 ≤ PB ∧ z ≤ 32 ∧ most ≤ 20 ∧
  ∀ (d : Addr) (kvs : List (Key × V)) (rows : WRows) (H' : Hp), But p H H' → H d = none → H' d = some (.dK kvs) → LVal p H' kvs rows → RowsW isT z rows → rows.length ≤ most → Pen H' p c (n + 400) m → (∀ r ∈ rows, r.2.length ≤ 5) → Q (.ref d) H'
def spSortedO (K : PySem.W.Frag) : Sp := fun vs H Q _ => ∃ (a : Addr) (l : List (Option Str)), vs = [.ref a] ∧ SqL K H a (l.map optV) ∧ OkL isT l ∧ ∀ (t : Addr) (H' : Hp), Same H H' → H t = none → H' t = some (.tup ((ascO l).map optV)) → Q (.ref t) H'
theorem filt_none {l : List (Option Str)} (nd : l.Nodup) : l.filter (fun o => decide (o = none)) = if none ∈ l then [none] else [] := by
  induction l with
  | nil => rfl
  | cons o r ih =>
    obtain ⟨h1, h2⟩ := List.nodup_cons.mp nd
    cases o with
    | none =>
      rw [List.filter_cons_of_pos (by rfl), ih h2, if_neg h1, if_pos List.mem_cons_self]
    | some x =>
      rw [List.filter_cons_of_neg (by simp), ih h2]
      by_cases h : none ∈ r
      · rw [if_pos h, if_pos (List.mem_cons_of_mem _ h)]
      · have h' : ¬ none ∈ some x :: r := fun q => by
          rcases List.mem_cons.mp q with e | q
          · cases e
          · exact h q
        rw [if_neg h, if_neg h']
theorem eqv_nilO (l : List (Option Str)) : PyData.eqv (.list (l.map optD)) (.list []) = decide (l = []) := by
  cases l with
  | nil => rfl
  | cons x r => rfl
theorem shaped_optL {l : List (Option Str)} (h : ∀ x, some x ∈ l → lowS x) : SeqAt.shaped (.list (l.map optD)) = true := by
  have := depth_opt l
  unfold SeqAt.shaped
  rw [Bool.and_eq_true]
  refine ⟨by simp only [PyData.canLay0]; exact lay_opt l h, decide_eq_true ?_⟩
  simp only [PyData.depth]
  omega
abbrev sWa : Stmt := top 38
section
variable {P : Program} {w : World} {K : PySem.W.Frag} {mg : Str → Option Value} {base : Heap}
abbrev NWa : List Str := ["pen", "size", "most", "found", "prefix", "some", "one"]
theorem scWa : FnScope NWa ["pen", "size", "most"] (defScope sWa) := ⟨rfl, rfl, rfl, by decide +kernel, rfl, by decide +kernel, by decide +kernel⟩
set_option maxHeartbeats 8000000 in
theorem ok_Wa {f fX fDr : Addr} {fd fdX fdDr : FuncData} {k : Nat} (F : Fun K "_law_wanted" "_law_wanted" sWa f fd)
    (GX : FnOk P w K mg base CX0 k fX fdX ["pen", "size", "most"] spPrefixes)
    (FX : Fun K "_law_prefixes" "_law_prefixes" sX fX fdX) (bX : Binds K fdX ["pen", "size", "most"] []) (gX : mg "_law_prefixes" = some (.ref fX))
    (GDr : FnOk P w K mg base CX0 k fDr fdDr ["pen", "below"] spDraw)
    (FDr : Fun K "_law_draw" "_law_draw" sDr fDr fdDr) (bDr : Binds K fdDr ["pen", "below"] []) (gDr : mg "_law_draw" = some (.ref fDr))
    : FnOk P w K mg base CX0 (k + 1) f fd ["pen", "size", "most"] spWanted := by
  refine F.ok scWa (fun vs H Q E h => ?_) (fun cdv A outer s H vs Q E hr h => ?_)
  · obtain ⟨p, c, n, z, most, m, rfl, _⟩ := h
    rfl
  · obtain ⟨p, c, n, z, most, m, rfl, hp, hn, hz, hm, q⟩ := h
    have nd := scWa.nd
    have hu := hr.units
    have hu1 := hu_of hr
    have hr1 := hr
    refine ⟨_, pss_cons (ps_set (i := 3) nd rfl (.inl rfl) pe_dnewK)
      (pss_cons (ps_for PassesOwn.never rfl (pi_list (pe_call GX hr1 (by rfl) gX FX.kp bX .nil pass0 (pa_cons (pv 0) (pa_cons (pv 1) (pa_cons (pv 2) pa_nil))))) (pg_name (i := 4) nd rfl (.inl rfl))
        (C8.pss_cut (ps_setLc (i := 5) (own := [("one", 6)]) (g := gName 6) rfl nd rfl rfl (sw_true rfl rfl rfl (by decide +kernel)) (pi_list (pe_lst (pa_cons pe_str (pa_cons pe_non (pa_cons pe_str (pa_cons pe_str (pa_cons pe_str pa_nil))))))) (blkOk_by (N := NWa) (sc := defScope sWa) (by decide +kernel)) (fun _ _ _ _ _ => pg_name (i := 6) nd rfl (.inl rfl)) (fun _ _ _ _ _ => pts_one (pt_cmpR op_eq (pe_call GDr hr1 (by rfl) gDr FDr.kp bDr .nil pass0 (pa_cons (pv 0) (pa_cons pe_int pa_nil))) pe_int (nomark _))) (fun _ _ _ _ _ => (pv 6)))
        (pss_one (ps_dput hu1 (pv 3) (pv 4) (pe_ifExp (PW.pt (pw_or (pt_cmpR (op_neD hu) (pv 5) (pe_lst pa_nil) (nomark _)) (pw_or1 (pt_cmpR op_eq (pe_call GDr hr1 (by rfl) gDr FDr.kp bDr .nil pass0 (pa_cons (pv 0) (pa_cons pe_int pa_nil))) pe_int (nomark _))))) (pv 5) (pe_lst (pa_cons pe_str pa_nil))) rfl))))
      (pss_one (ps_ret (pv 3)))), ?_⟩
    have hnB : n + 2000 ≤ 1000000000000 := hn
    intro d nd0
    have s0 := same_upd (o := .dK []) nd0
    have dp : d ≠ p := hp.ne_p nd0
    refine ⟨.ref p, rfl, .int z, rfl, .int most, rfl, p, c, n, z, most, m, rfl, hp.keep s0, by show n + 1000 ≤ 1000000000000; omega, hz, hm, fun l xs H1 b1 p1 nl hl ok lx => ?_⟩
    have lp : l ≠ p := (hp.keep s0).ne_p nl
    have ld : l ≠ d := (upd_free nl).1
    have b01 : But p H H1 := (But.of_same s0).trans b1
    have hd1 := b1 _ _ dp (upd_same (H := H) (a := d) (o := .dK []))
    refine ⟨l, rfl, ⟨_, SqL.of hl⟩, for_list (K := K) (a := l) (xs := xs.map V.str) (fun i σ H' => ∃ (x5 x7 : Option V) (kvs : List (Key × V)) (rows : WRows), σ = [some (.ref p), some (.int z), some (.int most), some (.ref d), x5, x7, none] ∧ H' d = some (.dK kvs) ∧ LVal p H' kvs rows ∧ rows.map (·.1) = xs.take i ∧ (∀ r ∈ rows, OkL isT r.2 ∧ r.2.length ≤ 5) ∧ H' l = some (.lst (xs.map V.str)) ∧ But p H H' ∧ Pen H' p c (n + 1 + 8 * most + 10 * i) m) ⟨_, _, [], [], rfl, hd1, .nil, rfl, fun _ h => absurd h List.not_mem_nil, hl, b01, p1⟩ (fun i σ H' _ h => by obtain ⟨_, _, _, _, _, _, _, _, _, hl, _⟩ := h; exact SqL.of hl) ?_ ?_⟩
    · rintro i v σ H2 hv ⟨x5, x7, kvs, rows, rfl, hd, hin, hk, okr, hl2, b2, p2⟩
      rw [List.getElem?_map] at hv
      obtain ⟨y, hy, rfl⟩ := Option.map_eq_some_iff.mp hv
      have hil := (List.getElem?_eq_some_iff.mp hy).1
      have et : xs.take (i + 1) = xs.take i ++ [y] := by rw [List.take_add_one, hy]; rfl
      -- some
      refine ⟨fun σ H' => ∃ (D : Addr) (ls : List (Option Str)), σ = [some (.ref p), some (.int z), some (.int most), some (.ref d), some (.str y), some (.ref D), none] ∧ H' D = some (.lst (ls.map optV)) ∧ ls.Sublist five ∧ D ≠ p ∧ But p H2 H' ∧ Pen H' p c (n + 1 + 8 * most + 10 * i + 5) m, ?_, ?_⟩
      · refine ⟨by show 5 ≤ sizeLine; decide, fun L nL => ?_⟩
        have s3 := same_upd (o := .lst (five.map optV)) nL
        have hL : (upd H2 L (.lst (five.map optV))) L = some (.lst (five.map optV)) := upd_same
        have Lp : L ≠ p := p2.ne_p nL
        refine ⟨L, rfl, ⟨_, SqL.of hL⟩, fun D nD => ?_⟩
        have Dp := (p2.keep s3).ne_p nD
        have Dc := (p2.keep s3).ne_c nD
        have DL : D ≠ L := (upd_free nD).1
        refine lc_it (walk_list (xs := five.map optV)) (fun j H' => ∃ ls : List (Option Str), ls.Sublist (five.take j) ∧ H' D = some (.lst (ls.map optV)) ∧ H' L = some (.lst (five.map optV)) ∧ But p H2 H' ∧ Pen H' p c (n + 1 + 8 * most + 10 * i + j) m) ⟨[], List.nil_sublist _, upd_same, by rw [upd_ne DL.symm]; exact hL, (But.of_same s3).trans (.of_same (same_upd nD)), (p2.keep s3).off Dp Dc⟩
          (fun _ H' _ h => by obtain ⟨_, _, _, k, _⟩ := h; exact SqL.of k) ?_ ?_
        · rintro j u H4 H5 hj ⟨ls, sub, hD, hL5, b5, p5⟩ ⟨rfl, hu⟩
          rw [List.getElem?_map] at hu
          obtain ⟨o, ho, rfl⟩ := Option.map_eq_some_iff.mp hu
          have e5 : five.take (j + 1) = five.take j ++ [o] := by rw [List.take_add_one, ho]; rfl
          have hj5 : j < 5 := hj
          refine ⟨rfl, .ref p, rfl, p, c, _, m, 2, rfl, p5, by show n + 1 + 8 * most + 10 * i + j ≤ 1000000000000; omega, by decide, by decide, fun e H6 e0 e1 b6 p6 => ?_⟩
          have hD6 := b6 _ _ Dp hD
          have hL6 := b6 _ _ Lp hL5
          refine ⟨rfl, _, rfl, ?_⟩
          refine ite2 (fun _ => ?_) (fun _ => ⟨ls, sub.trans (by rw [e5]; exact List.sublist_append_left _ _), hD6, hL6, b5.trans b6, p6⟩)
          have few := sub.length_le
          rw [List.length_take] at few
          refine ⟨optV o, by cases o <;> rfl, _, hD6, big_lt (by rw [List.length_map]; omega), ls ++ [o], by rw [e5]; exact sub.append (List.Sublist.refl _), by rw [upd_same, List.map_append]; rfl, by rw [upd_ne DL.symm]; exact hL6, fun a o na ha => ?_, p6.off Dp Dc⟩
          have hne : a ≠ D := ne_of_none (s3 _ _ ha) nD
          rw [upd_ne hne]
          exact b6 _ _ na (b5 _ _ na ha)
        · rintro H4 ⟨ls, sub, hD, hL4, b4, p4⟩
          exact ⟨D, ls, rfl, hD, sub, Dp, b4, p4⟩
      · rintro σ H4 ⟨D, ls, rfl, hD, sub, Dp, b4, p4⟩
        have okl := five_sub sub
        have hd4 := b4 _ _ dp hd
        have in4 := hin.but b4
        have hl4 := b4 _ _ lp hl2
        have b04 := b2.trans b4
        have kl : kvs.length = rows.length := rows_len2 hin.keys
        have rl : rows.length = i := by
          have := congrArg List.length hk
          rw [List.length_map, List.length_take] at this
          omega
        have hnew : (Sum.inr y : Key) ∉ kvs.map (·.1) := by
          rw [hin.keys, hk, List.mem_map]
          rintro ⟨z, hz, e⟩
          obtain ⟨j, hj, ej⟩ := List.mem_take_iff_getElem.mp hz
          have hi2 := List.getElem?_eq_some_iff.mp hy
          have e2 : xs[j]'(by omega) = xs[i]'hi2.1 := by rw [ej, hi2.2]; exact Sum.inr.inj e
          have := (List.getElem_inj ok.nd).mp e2
          omega
        have fin : ∀ (H' : Hp) (a : Addr) (l2 : List (Option Str)), But p H4 H' → Pen H' p c (n + 1 + 8 * most + 10 * (i + 1)) m → H' a = some (.lst (l2.map optV)) → a ≠ p → OkL isT l2 ∧ l2.length ≤ 5 → ∃ (x5 x7 : Option V) (kvs' : List (Key × V)) (rows' : WRows), [some (.ref p), some (.int z), some (.int most), some (.ref d), some (.str y), some (.ref D), none] = [some (.ref p), some (.int z), some (.int most), some (.ref d), x5, x7, none] ∧ (upd H' d (.dK (putK kvs (.inr y) (.ref a)))) d = some (.dK kvs') ∧ LVal p (upd H' d (.dK (putK kvs (.inr y) (.ref a)))) kvs' rows' ∧ rows'.map (·.1) = xs.take (i + 1) ∧ (∀ r ∈ rows', OkL isT r.2 ∧ r.2.length ≤ 5) ∧ (upd H' d (.dK (putK kvs (.inr y) (.ref a)))) l = some (.lst (xs.map V.str)) ∧ But p H (upd H' d (.dK (putK kvs (.inr y) (.ref a)))) ∧ Pen (upd H' d (.dK (putK kvs (.inr y) (.ref a)))) p c (n + 1 + 8 * most + 10 * (i + 1)) m := fun H' a l2 b' p' ha nap okl2 => by
          have hd' := b' _ _ dp hd4
          have keep : ∀ b o, b ≠ d → H' b = some o → (upd H' d (.dK (putK kvs (.inr y) (.ref a)))) b = some o := fun b o nb e => by rw [upd_ne nb]; exact e
          refine ⟨_, _, kvs ++ [(.inr y, .ref a)], rows ++ [(y, l2)], rfl, by rw [upd_same, putK_end hnew], paired_app ((in4.but b').mono fun _ _ ⟨e, a, e2, ha, n⟩ => ⟨e, a, e2, keep _ _ (ne_of ha hd' (fun z => nomatch z)) ha, n⟩) (.cons ⟨rfl, a, rfl, keep _ _ (ne_of ha hd' (fun z => nomatch z)) ha, nap⟩ .nil), by rw [List.map_append, hk, et]; rfl, fun r hr => ?_, keep _ _ ld (b' _ _ lp hl4), fun b o nb e => ?_, ?_⟩
          · rcases List.mem_append.mp hr with hr | hr
            · exact okr r hr
            · rw [List.mem_singleton.mp hr]
              exact okl2
          · have hne : b ≠ d := ne_of_none e nd0
            exact keep _ _ hne (b' _ _ nb (b04 _ _ nb e))
          · obtain ⟨ns', i', s', P⟩ := id p'
            exact p'.off dp (ne_of hd' P.cells (fun z => nomatch z))
        refine ⟨.ref D, rfl, Nat.zero_le _, fun E nE => ?_⟩
        have s5 := same_upd (o := .lst []) nE
        refine ⟨.list (ls.map optD), .list [], .lst (SqL.of (s5 _ _ hD)) (dpAll_opt _), .lst (SqL.of upd_same) .nil, shaped_optL okl.low, rfl, _, rfl, ?_⟩
        rw [eqv_nilO]
        have first : But p H4 (upd H4 E (.lst [])) := .of_same s5
        by_cases hz : ls = []
        · rw [decide_eq_true hz]
          refine iteF ⟨.ref p, rfl, p, c, _, m, 5, rfl, p4.keep s5, by show n + 1 + 8 * most + 10 * i + 5 ≤ 1000000000000; omega, by decide, by decide, fun e H6 e0 e1 b6 p6 => ⟨rfl, _, rfl, ?_⟩⟩
          have b46 := first.trans b6
          refine ite2 (fun _ => ?_) (fun _ => ?_)
          · exact ⟨.ref D, rfl, .ref d, rfl, .str y, rfl, d, _, rfl, DPut.k (k := .inr y) (b46 _ _ dp hd4) (big_lt (by omega)), fin H6 D ls b46 (p6.mono (by omega)) (b46 _ _ Dp hD) Dp ⟨okl, Nat.le_trans sub.length_le (by decide)⟩⟩
          · refine ⟨by show 1 ≤ sizeLine; decide, fun G nG => ?_⟩
            have s7 := same_upd (o := .lst [.str "a"]) nG
            have b47 := b46.trans (.of_same s7)
            exact ⟨.ref d, rfl, .str y, rfl, d, _, rfl, DPut.k (k := .inr y) (b47 _ _ dp hd4) (big_lt (by omega)), fin _ G [some "a"] b47 ((p6.keep s7).mono (by omega)) upd_same (p6.ne_p nG) ⟨a_ok, by show 1 ≤ 5; decide⟩⟩
        · rw [decide_eq_false hz]
          exact iteT ⟨.ref D, rfl, .ref d, rfl, .str y, rfl, d, _, rfl, DPut.k (k := .inr y) (first _ _ dp hd4) (big_lt (by omega)), fin _ D ls first ((p4.keep s5).mono (by omega)) (first _ _ Dp hD) Dp ⟨okl, Nat.le_trans sub.length_le (by decide)⟩⟩
    · rintro σ H2 ⟨x5, x7, kvs, rows, rfl, hd, hin, hk, okr, hl2, b2, p2⟩
      rw [List.length_map, List.take_of_length_le (Nat.le_refl _)] at hk
      have rl : rows.length = xs.length := by rw [← hk, List.length_map]
      refine ⟨.ref d, rfl, q d kvs rows H2 b2 nd0 hd hin ⟨by rw [hk]; exact ok, fun r hr => (okr r hr).1⟩ (by omega) (p2.mono (by rw [List.length_map]; omega)) (fun r hr => (okr r hr).2)⟩
end
abbrev sSo : Stmt := top 39
section
variable {P : Program} {w : World} {K : PySem.W.Frag} {mg : Str → Option Value} {base : Heap}
abbrev NSo : List Str := ["some", "one"]
theorem scSo : FnScope NSo ["some"] (defScope sSo) := ⟨rfl, rfl, rfl, by decide +kernel, rfl, by decide +kernel, by decide +kernel⟩
set_option maxHeartbeats 8000000 in
theorem ok_So {f : Addr} {fd : FuncData} {k : Nat} (F : Fun K "_law_sorted" "_law_sorted" sSo f fd)
    (m_sorted : mg "sorted" = none)
    (m_tuple : mg "tuple" = none)
    : FnOk P w K mg base CX0 (k + 1) f fd ["some"] (spSortedO K) := by
  refine F.ok scSo (fun vs H Q E h => ?_) (fun cdv A outer s H vs Q E hr h => ?_)
  · obtain ⟨a, l, rfl, _⟩ := h
    rfl
  · obtain ⟨a, l, rfl, hl, ok, q⟩ := h
    have nd := scSo.nd
    have hu := hr.units
    have hu1 := hu_of hr
    have hr1 := hr
    refine ⟨_, pss_one (ps_ret (pe_callTy call_tuple_of (by rfl) m_tuple (by decide +kernel) (pa_cons (pe_op op_cat (pe_lc (own := [("one", 1)]) (g := gName 1) rfl nd (pi_list (pv 0)) (blkOk_by (N := NSo) (sc := defScope sSo) (by decide +kernel)) (fun _ _ _ _ _ => pg_name (i := 1) nd rfl (.inl rfl)) (fun _ _ _ _ _ => pts_one (pt_cmpR op_isN (pv 1) pe_non (nomark _))) (fun _ _ _ _ _ => (pv 1))) (pe_callB cr_sortedS (by rfl) m_sorted (by decide +kernel) (pa_cons (pe_lc (own := [("one", 1)]) (g := gName 1) rfl nd (pi_list (pv 0)) (blkOk_by (N := NSo) (sc := defScope sSo) (by decide +kernel)) (fun _ _ _ _ _ => pg_name (i := 1) nd rfl (.inl rfl)) (fun _ _ _ _ _ => pts_one (pt_cmpR op_notN (pv 1) pe_non (nomark _))) (fun _ _ _ _ _ => (pv 1))) pa_nil))) pa_nil))), ?_⟩
    have few := ok.few
    have fl := filt_len l
    refine ⟨.ref a, rfl, a, rfl, ⟨_, hl⟩, fun D nD => ?_⟩
    refine lc_it walk_list (fun i H' => H' D = some (.lst (((l.take i).filter fun o => decide (o = none)).map optV)) ∧ Same H H') ⟨upd_same, same_upd nD⟩ (fun _ _ _ h => h.2.seq hl) ?_ ?_
    · rintro i v H3 H4 hi ⟨hD, s4⟩ ⟨rfl, hv⟩
      rw [List.getElem?_map] at hv
      obtain ⟨o, ho, rfl⟩ := Option.map_eq_some_iff.mp hv
      have et : l.take (i + 1) = l.take i ++ [o] := by rw [List.take_add_one, ho]; rfl
      have hil := (List.getElem?_eq_some_iff.mp ho).1
      cases o with
      | none =>
        refine ⟨rfl, .non, rfl, rfl, _, rfl, iteT ⟨.non, rfl, _, hD, ?_, ?_, fun b o eb => ?_⟩⟩
        · refine big_lt ?_
          have := List.length_filter_le (fun o : Option Str => decide (o = none)) (l.take i)
          rw [List.length_take] at this
          rw [List.length_map]
          omega
        · rw [upd_same, et, List.filter_append, List.map_append]
          rfl
        · rw [upd_ne (ne_of_none eb nD)]
          exact s4 b o eb
      | some z =>
        refine ⟨rfl, .str z, rfl, rfl, _, rfl, iteF ⟨?_, s4⟩⟩
        rw [et, List.filter_append]
        show H4 D = some (.lst (((l.take i).filter (fun o => decide (o = none)) ++ []).map optV))
        rw [List.append_nil]
        exact hD
    · rintro H3 ⟨hD, s3⟩
      rw [List.length_map, List.take_of_length_le (Nat.le_refl _), filt_none ok.nd] at hD
      have hl3 := s3.seq hl
      refine ⟨.ref a, rfl, a, rfl, ⟨_, hl3⟩, fun D2 nD2 => ?_⟩
      refine lc_it walk_list (fun i H' => H' D2 = some (.lst (((l.take i).filterMap id).map V.str)) ∧ Same H3 H') ⟨upd_same, same_upd nD2⟩ (fun _ _ _ h => h.2.seq hl3) ?_ ?_
      · rintro i v H4 H5 hi ⟨hD2, s4⟩ ⟨rfl, hv⟩
        rw [List.getElem?_map] at hv
        obtain ⟨o, ho, rfl⟩ := Option.map_eq_some_iff.mp hv
        have et : l.take (i + 1) = l.take i ++ [o] := by rw [List.take_add_one, ho]; rfl
        have hil := (List.getElem?_eq_some_iff.mp ho).1
        cases o with
        | none =>
          refine ⟨rfl, .non, rfl, rfl, _, rfl, iteF ⟨?_, s4⟩⟩
          rw [et, List.filterMap_append]
          show H5 D2 = some (.lst (((l.take i).filterMap id ++ []).map V.str))
          rw [List.append_nil]
          exact hD2
        | some z =>
          refine ⟨rfl, .str z, rfl, rfl, _, rfl, iteT ⟨.str z, rfl, _, hD2, ?_, ?_, fun b o eb => ?_⟩⟩
          · refine big_lt ?_
            have := filt_len (l.take i)
            rw [List.length_take] at this
            rw [List.length_map]
            omega
          · rw [upd_same, et, List.filterMap_append, List.map_append]
            rfl
          · rw [upd_ne (ne_of_none eb nD2)]
            exact s4 b o eb
      · rintro H4 ⟨hD2, s4⟩
        rw [List.length_map, List.take_of_length_le (Nat.le_refl _)] at hD2
        refine ⟨D2, l.filterMap id, rfl, SqL.of hD2, by omega, fun ys N perm up nN => ?_⟩
        have s5 := same_upd (o := .lst (ys.map V.str)) nN
        have yl := perm.length_eq
        refine ⟨D, N, _, _, rfl, rfl, s5 _ _ (s4 _ _ hD), upd_same, big_of (by rw [List.length_map, List.length_map]; split <;> (show _ ≤ 1000; simp; omega)), fun M nM => ?_⟩
        have s6 := same_upd (o := .lst ((if none ∈ l then [none] else []).map optV ++ ys.map V.str)) nM
        refine ⟨M, _, rfl, .inl ⟨SqL.of upd_same, fun t nt => ?_⟩⟩
        have s7 := same_upd (o := .tup ((if none ∈ l then [none] else []).map optV ++ ys.map V.str)) nt
        have sA := s3.trans (s4.trans (s5.trans s6))
        refine q t _ (sA.trans s7) (sA.free nt) ?_
        rw [upd_same, asc_map perm up]
        congr 3
        split <;> rfl
end
/-! ### xs[::-1], {**a, **b} -/
def tRev (K : PySem.W.Frag) (te : TE) (tm : TO) : TE := fun σ H Q => te σ H fun x H1 => tm σ H1 fun l H2 => l = some (-1) ∧ ∃ a xs, x = .ref a ∧ SqL K H2 a xs ∧ ∀ p, H2 p = none → Q (.ref p) (upd H2 p (.lst xs.reverse))
theorem vals_rev {xs : List V} {us : List Value} (r : Vals xs us) : Vals xs.reverse us.reverse := by
  induction r with
  | nil => exact .nil
  | cons h t ih => rw [List.reverse_cons, List.reverse_cons]; exact ih.append (.cons h .nil)
theorem pe_rev {X : Cx} {e m : Expr} {te : TE} {tm : TO} {pos p2 : Pos} (he : PE X e te) (hm : PO X (some m) tm) : PE X (.Subscript e (.Slice none none (some m) p2) pos) (tRev X.K te tm) := by
  refine ⟨fun pins s σ H Q I h => ?_⟩
  refine Subscript_ (thn (he.run pins s σ H _ I h) fun v s1 ⟨x, H1, I1, r1, q1⟩ => ?_)
  refine wpAny_Slice ?_
  rw [evalPart_none]
  refine wpAny_pure (wpAny_pure ?_)
  refine thn (hm.run pins s1 σ H1 _ I1 q1) fun vk s3 ⟨l, H3, I3, pk, q3⟩ => ?_
  obtain ⟨rfl, a, xs, rfl, hx, q⟩ := q3
  cases r1
  have I4 : Inv X pins σ H3 { s3 with heap := s3.heap.push { cls := .type "slice", data := .fields #[.none, .none, vk] } } := I3.kept (t' := s3.toks) fun b ob q => Heap.get?_push_of_some _ q
  obtain ⟨its, r, ht, hz⟩ := I4.list hx
  have hlen := r.length
  show wpAny (model X.prog X.w) X.A (subscriptTail e (.Slice none none (some m) p2) (.ref a) (.ref s3.heap.objs.size)) (EP X pins σ Q) X.xe { s3 with heap := s3.heap.push { cls := .type "slice", data := .fields #[.none, .none, vk] } }
  refine tail_any (ops := [.ref a, .ref s3.heap.objs.size]) ht.isList.typeIs slot_list_getitem.lookup ?_ (by with_unfolding_all rfl)
  refine wpAny_getItem_list_slice ht.isList (Heap.IsSliceOf.new ..) .none .none pk (by simp) ?_ (by rw [List.size_toArray] <;> omega)
  rw [PySem.W.krv_pick]
  refine ⟨.ref _, _, I4.laid (t' := s3.toks) (o := .lst xs.reverse) (fun b ob q => Heap.get?_push_of_some _ q) (Nat.le_refl _) ?_, rfl, q _ (I4.hok.fresh (Nat.le_refl _))⟩
  refine ⟨by rw [List.length_reverse]; exact hz, its.reverse, 0, vals_rev r, ?_⟩
  exact Heap.get?_push_size _ rfl
def tDss (ta tb : TE) : TE := fun σ H Q => ∀ p, H p = none → ta σ (upd H p (.dK [])) fun x H1 => ∃ (a : Addr) (kvs : List (Key × V)), x = .ref a ∧ Rd H1 a (.dK kvs) ∧ a ≠ p ∧ H1 p = some (.dK []) ∧ (kvs.map (·.1)).Nodup ∧ kvs.length < 1000 ∧
  tb σ (upd H1 p (.dK kvs)) fun y H2 => ∃ (b : Addr) (ls : List (Key × V)), y = .ref b ∧ Rd H2 b (.dK ls) ∧ b ≠ p ∧ H2 p = some (.dK kvs) ∧ ls.length < 1000 ∧ Q (.ref p) (upd H2 p (.dK (mergeK kvs ls)))
theorem pe_dss {X : Cx} {a b : Expr} {pos : Pos} {ta tb : TE} (ha : PE X a ta) (hb : PE X b tb) : PE X (.Dict [none, none] [a, b] pos) (tDss ta tb) := by
  refine ⟨fun pins s σ H Q I h => ?_⟩
  rw [arm_eval_Dict]
  refine wpAny_bind (wpAny_standAt ?_)
  show wpAny _ _ (dictDisplay [(none, (eval a X.env >>= fun x => standAt pos >>= fun _ => pure x)), (none, (eval b X.env >>= fun x => standAt pos >>= fun _ => pure x))]) _ _ _
  unfold dictDisplay
  simp only [List.forIn_cons, List.forIn_nil, List.isEmpty_nil, if_true, pure_bind, bind_assoc, List.nil_append, List.length_cons, List.length_nil, Nat.zero_add, Nat.reduceBEq, Bool.false_eq_true, if_false, List.isEmpty_cons]
  refine wpAny_bind (wpAny_alloc ?_)
  have hn : H s.heap.objs.size = none := I.hok.fresh (Nat.le_refl _)
  have I1 := I.laid (a := s.heap.objs.size) (o := .dK []) (h' := s.heap.push { cls := .type "dict", data := .dict #[] }) (t' := s.toks) (fun _ _ q => Heap.get?_push_of_some _ q) (Nat.le_refl _) (dk_empty s.heap I.big)
  refine wpAny_bind (wpAny_holding (wpAny_bind (thn (ha.run pins _ σ _ _ I1 (h _ hn)) fun u s2 ⟨x, H1, I2, rx, a1, kvs, ex, hr1, nap, hp, nd, few, q⟩ => wpAny_bind (wpAny_standAt (wpAny_pure ?_)))))
  subst ex
  obtain rfl : u = Value.ref a1 := rx
  refine wpAny_bind (wpAny_onRaise (wpAny_tryCatch (wpAny_onRaise (wpAny_holding (mergeH I2 hp hr1 nap.symm (by show 0 + kvs.length ≤ 2000; omega) fun s3 I3 => ?_)))))
  rw [mergeK_nd kvs [] (by rw [List.nil_append]; exact nd), List.nil_append] at I3
  refine wpAny_bind (wpAny_holding (wpAny_bind (thn (hb.run pins _ σ _ _ I3 q) fun u2 s4 ⟨y, H2, I4, ry, b1, ls, ey, hr2, nbp, hp2, few2, q2⟩ => wpAny_bind (wpAny_standAt (wpAny_pure ?_)))))
  subst ey
  obtain rfl : u2 = Value.ref b1 := ry
  exact wpAny_bind (wpAny_onRaise (wpAny_tryCatch (wpAny_onRaise (wpAny_holding (mergeH I4 hp2 hr2 nbp.symm (by omega) fun s5 I5 => wpAny_pure ⟨.ref s.heap.objs.size, _, I5, rfl, q2⟩)))))
/-! ### what two rules serve -/
theorem pe_orE {X : Cx} {e : Expr} {t1 t2 : TE} (h1 : PE X e t1) (h2 : PE X e t2) : PE X e (fun σ H Q => t1 σ H Q ∨ t2 σ H Q) :=
  ⟨fun pins s σ H Q I h => h.elim (fun q => h1.run pins s σ H Q I q) fun q => h2.run pins s σ H Q I q⟩
theorem opr_or {X : Cx} {f : Value → Value → Sem Value} {r1 r2 : R2} (h1 : OpR X f r1) (h2 : OpR X f r2) : OpR X f (fun x y H Q => r1 x y H Q ∨ r2 x y H Q) :=
  fun pins s σ H x y v u Q I rx ry h => h.elim (fun q => h1 pins s σ H x y v u Q I rx ry q) fun q => h2 pins s σ H x y v u Q I rx ry q
/-! ### enumerate(list, start=1) -/
def IteS (K : PySem.W.Frag) (a : Addr) (c : Int) : It :=
  ⟨fun i H => ∃ (xs : List V) (x : V), SqL K H a xs ∧ xs[i]? = some x, fun i H v H' => ∃ T x, v = .ref T ∧ H T = none ∧ H' = upd H T (.tup [.int (c + (i : Nat)), x]) ∧ ∀ xs, SqL K H a xs → xs[i]? = some x, fun i H => ∃ xs : List V, SqL K H a xs ∧ xs.length ≤ i⟩
theorem turn_enumS {P : Program} {w : World} {K : PySem.W.Frag} {elts : List Expr} {kk : Nat} {tpos : Pos} (a e it : Addr) (c : Int) :
    Turn P w K (.Tuple elts kk tpos) (IteS K a c) [e, it] e (fun i h => (∃ old, IsEnum h e it (c + (i : Nat)) old) ∧ h.IsListIter it a i ∧ e ≠ it) where
  mem := by simp
  obj := fun i h st b hb => by
    obtain ⟨⟨old, he⟩, ⟨o, ho, hc, hd⟩, _⟩ := st
    have e' : b = e ∨ b = it := by simpa using hb
    rcases e' with z | z
    · rw [z]; exact ⟨_, he, fun v q => nomatch q⟩
    · rw [z]; exact ⟨o, ho, fun v q => by rw [hd] at q; cases q⟩
  keep := fun i h h' st k => let ⟨⟨old, he⟩, hi, hne⟩ := st; ⟨⟨old, k e (by simp) _ he⟩, hi.at fun o q => k it (by simp) o q, hne⟩
  item := by
    intro X hP hw hK hc i pins s σ H E I hf st hg
    subst hP hw hK
    obtain ⟨⟨old, he⟩, hit, hne⟩ := st
    obtain ⟨xs, x, hq, hx⟩ := hg
    obtain ⟨its, rv, p, hz⟩ := I.list hq
    obtain ⟨u, hu, ru⟩ := rv.get hx
    have hel : e < s.heap.objs.size := Heap.lt_size he
    have hil : it < s.heap.objs.size := by obtain ⟨_, q, _⟩ := hit; exact Heap.lt_size q
    have ea : e ≠ a := fun z => by
      obtain ⟨o, ho, hcl, _⟩ := p.isList
      rw [← z, he] at ho
      cases ho
      exact absurd (show Value.type "enumerate" = Value.type "list" from hcl) (by decide)
    have ita : a ≠ it := fun z => by
      obtain ⟨o, ho, hcl, _⟩ := p.isList
      obtain ⟨o2, ho2, hc2, _⟩ := id hit
      rw [z, ho2] at ho
      cases ho
      rw [hc2] at hcl
      exact absurd hcl (by decide)
    have hlen : i < its.toArray.size := by
      have := (List.getElem?_eq_some_iff.mp hu).1
      simpa using this
    refine wpAny_pyNext_enum_itemC (Draws.list (w := X.w) (A := X.A.in1) (show X.A.in1.handled = none from I.ok.hd hc) it a ita its.toArray) he ⟨hit, p.isList⟩ hlen hne (fun z => by
      have e' : e = it ∨ e = a := by simpa using z
      exact e'.elim hne ea) fun x' h' tk hP ho hit' hT hsz hk => ?_
    have ex : x' = u := by
      have q : its.toArray[i]? = some x' := hP
      have q2 : its[i]? = some x' := by simpa using q
      rw [hu] at q2
      exact (Option.some.inj q2).symm
    subst ex
    refine ⟨_, rfl, wpAny_letOwnedTupleGo_enum (s := { s with heap := h', toks := tk + 1 }) ho fun h'' he' sb => ?_⟩
    have hT2 : h''.get? s.heap.objs.size = some { cls := .type "tuple", data := .seq #[.int (c + (i : Nat)) tk, x'] } := (sb.2 _ (Nat.ne_of_gt hel)).trans hT
    have new : ObjOk X.prog X.w (upd H s.heap.objs.size (.tup [.int (c + (i : Nat)), x])) h'' s.heap.objs.size (.tup [.int (c + (i : Nat)), x]) :=
      ⟨by show 2 ≤ sizeLine; decide, [.int (c + (i : Nat)) tk, x'], .cons ⟨_, rfl⟩ (.cons ru .nil), ⟨_, hT2, rfl, _, rfl⟩⟩
    have I1 : Inv X pins σ (upd H s.heap.objs.size (.tup [.int (c + (i : Nat)), x])) { s with heap := h'', toks := tk + 1 } :=
      I.turnedNew (ch := [e, it]) (fun b ob hb q => (sb.2 b (fun z => hb (by simp [z]))).trans (hk b ob (fun z => hb (by simp [z])) (fun z => hb (by simp [z])) q)) hf (Nat.le_refl _) new
    refine ⟨.ref s.heap.objs.size, _, I1, rfl, ⟨_, x, rfl, I.hok.fresh (Nat.le_refl _), rfl, fun ys hy => by rw [I.list_inj hy hq]; exact hx⟩, ⟨⟨x', ?_⟩, hit'.1.at fun o q => (sb.2 it (Ne.symm hne)).trans q, hne⟩, fun b hb => ?_⟩
    · have e1 : c + ((i + 1 : Nat) : Int) = c + (i : Nat) + 1 := by omega
      rw [e1]; exact he'
    · have hb' : b < s.heap.objs.size := by
        have e' : b = e ∨ b = it := by simpa using hb
        rcases e' with z | z
        · rw [z]; exact hel
        · rw [z]; exact hil
      rw [upd_ne (Nat.ne_of_lt hb')]
      exact (hf b hb).1
  done := by
    intro X hP hw hK hc i pins s σ H E I hf st hg
    subst hP hw hK
    obtain ⟨⟨old, he⟩, hit, hne⟩ := st
    obtain ⟨xs, hq, hx⟩ := hg
    obtain ⟨its, rv, p, hz⟩ := I.list hq
    obtain ⟨f0, f1, f2, f3, f4, f5⟩ := hf it (by simp)
    have hl := rv.length
    have hT : s.TypeIs (.ref e) "enumerate" := ⟨_, he, rfl⟩
    unfold pyNext
    refine wpAny_bind (wpAny_attempt (wpAny_callSpecial?_slot (name := Str.ofString "__next__") hT F.slot_enumerate_next
      (wpAny_call_entry F.slot_enumerate_next hT F.entry_enumerate_next ?_ (F.args_enumerate_next_1 _))))
    show wpAny _ _ (field (.ref e) 2 >>= _) _ _ _
    refine wpAny_bind (wpAny_field he rfl (x := .ref it) rfl ?_)
    refine wpAny_bind (wpAny_nextOf_list_end (I.ok.hd hc) hit p.isList (by simp; omega) fun h' x eb hx' => ?_)
    obtain ⟨o, ho, hcl⟩ := hx'
    refine wpAny_bind (wpAny_isInstance (T := "StopIteration") (b := true) ⟨o, ho, hcl⟩ isSubtype_stop ?_)
    exact wpAny_pure ⟨rfl, I.turned (t' := s.toks) (fun b o hb q => eb b o hb q) f0 f1 f3 f4 f5⟩
  self := fun A i s Q E st h => let ⟨⟨_, he⟩, _⟩ := st; wpAny_pyIter_enum he h
theorem callWith_typeKw {M : Model} {A : Around} {E : Value → Shared → Prop} {s : Shared} {pos : Pos} {T : String} {first : List Value} {args : List (Bool × Sem Value)} {keywords : List (Option Str × Sem Value)} {Q : Value → Shared → Prop} (hpl : (args.any (·.1) || keywords.any (·.1.isNone)) = false)
    (h : wpAny M A (evalArgs (.type T) true args keywords) (fun a s₁ => wpAny M A (call (.type T) (first ++ a.pos) a.kw) Q E s₁) E s) : wpAny M A (callWith pos (.type T) first args keywords) Q E s :=
  PySem.W.callWith_of (P := fun _ => True) hpl (fun _ _ => ⟨_, .inr (.inl rfl), .now⟩) (wpAny_mono h (fun _ _ x => ⟨trivial, x⟩) fun _ _ x => x)
def iEnumS (K : PySem.W.Frag) (ta tk : TA) : TI := fun σ H R => ta σ H fun vs H1 => tk σ H1 fun zs H2 => ∃ a xs, vs = [.ref a] ∧ zs = [.int 1] ∧ SqL K H2 a xs ∧ R (IteS K a 1) H2
theorem pi_enumS {X : Cx} {e : Expr} {kws : List Keyword} {ta tk : TA} {p pos tpos : Pos} {elts : List Expr} {kk : Nat} (hg : Gl X "enumerate") (hm : X.mg "enumerate" = none) (ha : PA X [e] ta) (hkw : PK X kws tk)
    (hall : (backToKw pos (keywordEach kws X.env)).all (·.1.isSome) = true := by rfl) (hks : (backToKw pos (keywordEach kws X.env)).filterMap (·.1) = [Str.ofString "start"] := by rfl)
    (hs : starEach [e] X.env = (false, eval e X.env) :: starEach [] X.env := by rfl) (hpl : ((backTo pos (starEach [e] X.env)).any (·.1) || (backToKw pos (keywordEach kws X.env)).any (·.1.isNone)) = false := by rfl) :
    PI X (.Tuple elts kk tpos) (.Call (.Name "enumerate" p) [e] kws pos) (iEnumS X.K ta tk) := by
  refine ⟨fun pins s σ H R I h => ?_⟩
  refine wpAny_Call_Name_kw (ld_blt I hg hm boot_enumerate ?_)
  refine callWith_typeKw hpl (evalArgs_kw2 hall (thn (ha.run pos pins s σ H _ I h) fun us s1 ⟨vs, H1, I1, r1, q1⟩ => ?_) hs)
  refine thn (hkw.run pos pins s1 σ H1 _ I1 q1) fun ws s2 ⟨zs, H2, I2, rz, q2⟩ => ?_
  rw [hks]
  obtain ⟨a, xs, ex, ez, hq, q⟩ := q2
  subst ex ez
  cases r1 with
  | cons r rr =>
    cases rr
    cases r
    cases rz with
    | cons r' rr' =>
      cases rr'
      obtain ⟨t, rfl⟩ := r'
      obtain ⟨its, rv, p', hz⟩ := I2.list hq
      show wpAny _ _ (call (.type "enumerate") [.ref a] [(Str.ofString "start", .int 1 t)]) _ _ _
      refine enum_begins_start (begins_list a its.toArray) p'.isList (by decide) (by decide) fun h' he hit hsz hk => wpAny_pyIter_enum he ?_
      have I3 : Inv X pins σ H2 { s2 with heap := h' } := I2.kept (t' := s2.toks) hk
      refine ⟨s2.heap.objs.size + 1, [s2.heap.objs.size + 1, s2.heap.objs.size], _, _, H2, rfl, I3, turn_enumS a (s2.heap.objs.size + 1) s2.heap.objs.size 1, ⟨⟨.none, he⟩, ⟨_, hit, rfl, rfl⟩, Nat.succ_ne_self _⟩, fun b hb => ?_, q⟩
      have e' : b = s2.heap.objs.size + 1 ∨ b = s2.heap.objs.size := by simpa using hb
      have hle : s2.heap.objs.size ≤ b := by
        rcases e' with z | z
        · rw [z]; exact Nat.le_add_right _ _
        · rw [z]; exact Nat.le_refl _
      exact I2.fpOk hle (I2.hok.fresh hle)
section
variable {K : PySem.W.Frag} {a : Addr} {xs : List V} {c : Int}
theorem walk_enumS : Walk (IteS K a c) xs.length (fun H => SqL K H a xs) (YPair (fun i => some (.int (c + (i : Nat)))) (fun i => xs[i]?)) := by
  refine ⟨fun i H hi h => ⟨xs, xs[i], h, List.getElem?_eq_getElem hi⟩, fun H h => ⟨xs, h, Nat.le_refl _⟩, ?_⟩
  intro i H v H' _ q y
  obtain ⟨T, x, h1, h2, h3, h4⟩ := y
  exact ⟨T, .int (c + (i : Nat)), x, h1, h2, h3, rfl, h4 xs q⟩
end
/-! ### a caught exception that a name keeps after the except clause -/
/-- a caught exception of the class cls, with the dict d, at a -/
def ExK (cls : Value) (d : Option Addr) (a : Addr) : HO := .ext fun h => ∃ (oe : Obj) (vs : Array Value), h.get? a = some oe ∧ Zc cls d oe ∧ oe.data = .fields vs
theorem exK_ok {P : Program} {w : World} {H : Hp} {h : Heap} {a : Addr} {cls : Value} {d : Option Addr} {oe : Obj} {vs : Array Value} (e : h.get? a = some oe) (z : Zc cls d oe) (q : oe.data = .fields vs) : ObjOk P w H h a (ExK cls d a) :=
  ⟨⟨oe, vs, e, z, q⟩, ⟨oe, e⟩, fun _ _ ⟨o, v, q, r⟩ k => ⟨o, v, k o q, r⟩⟩
theorem Un.track {fs ex : List Addr} {H0 H : Hp} {h0 h : Heap} {a : Addr} {o : HO} (u : Un fs ex H0 H h0 h) (new : h0.get? a = none) (na : H a = none) : Un fs ex H0 (upd H a o) h0 h where
  keep := u.keep
  slot := u.slot
  free := fun b ob e n hx => by
    rw [upd_ne (fun z => by rw [z, new] at e; cases e)]
    exact u.free b ob e n hx
  there := u.there
  tups := fun b xs e => by
    have q := u.tups b xs e
    rw [upd_ne (ne_of_none q na)]
    exact q
  frzs := fun b ob x e => by
    have q := u.frzs b ob x e
    rw [upd_ne (ne_of_none q na)]
    exact q
  tbls := fun b ps e => by
    obtain ⟨m, q⟩ := u.tbls b ps e
    exact ⟨m, by rw [upd_ne (ne_of_none q na)]; exact q⟩
theorem Inv.track {X : Cx} {pins : List (Addr × Obj)} {σ : L2.St} {H : Hp} {s : Shared} {a : Addr} {o : HO} (I : Inv X pins σ H s) (na : H a = none) (new : X.s_0.heap.get? a = none) (nL : a ≠ X.env.locals) (nC : ∀ x c, X.env.cells.lookup x = some c → c ≠ a)
    (nP : ∀ p ∈ X.pn ++ pins, p.1 ≠ a) (ok : ObjOk X.prog X.w (upd H a o) s.heap a o) : Inv X pins σ (upd H a o) s where
  ok := I.ok
  os := I.os
  bare := I.bare
  base := Un.track I.base new na
  loc := I.loc
  cell := I.cell
  free := by rw [upd_ne (Ne.symm nL)]; exact I.free
  freeC := fun x c e => by rw [upd_ne (nC x c e)]; exact I.freeC x c e
  pin := fun p hp => by
    obtain ⟨q1, q2, q3⟩ := I.pin p hp
    exact ⟨q1, by rw [upd_ne (nP p hp)]; exact q2, q3⟩
  hok := I.hok.laidN (fun _ _ q => q) na ok
  len := I.len
/-- the wish of a clause 'except x as n' whose exception a name of the suite may keep -/
def wKeep (K : PySem.W.Frag) (c : Value) (i : Nat) (ts : Addr → Value → Option Addr → TS) (Wo : WX) (D : Ends) : WX := fun cls d σ H => ∃ b, PySem.W.exmOne K cls c = some b ∧
  (b = true → ∀ a, H a = none → ts a cls d ⟨fun σ' H' => H' a = none → D.nx (σ'.set i none) (upd H' a (ExK cls d a)), D.rt, fun σ' H' => D.bk (σ'.set i none) H', fun σ' H' => D.ct (σ'.set i none) H'⟩ (σ.set i (some (.ref a))) H) ∧ (b = false → Wo cls d σ H)
theorem ps_keep {X : Cx} {x n : Str} {c : Value} {i : Nat} {body su : List Stmt} {b0 : Stmt} {np p1 p2 : Pos} {tb : WX → TS} {ts : Addr → Value → Option Addr → TS} {Wo : WX} (hx : X.ex = []) (hs : X.stack = X.env :: X.outer) (hf : X.env.frame = some X.env.locals) (nd : X.N.Nodup) (hi : X.N[i]? = some n)
    (hl : X.env.kindOf n = some .local) (hc : Names X x c) (tk : Takes X Wo) (hb : ∀ (W : WX) (pn : List (Addr × Obj)) (xe : Value → Shared → Prop), Takes (X.tr pn xe) W → PassesOwn (model X.prog X.w) X.A X.env xe → PSs (X.tr pn xe) body (tb W))
    (hsu : ∀ (a : Addr) (oe : Obj) (cls : Value) (d : Option Addr) (pn : List (Addr × Obj)), Zc cls d oe → (∃ vs, oe.data = .fields vs) → PSs (X.suite a ((a, oe) :: pn)) (b0 :: su) (ts a cls d)) :
    PS X (.Try body [.ExceptHandler (some (.Name x np)) (some n) (b0 :: su) p2] [] [] p1) (fun D σ H => tb (wKeep X.K c i ts Wo D) D σ H) := by
  refine ⟨fun pins s σ H D I h => ?_⟩
  have okX := I.ok
  have hfr : X.A.frames = some (X.env :: X.outer) := by rw [okX.frames, hs]
  let hd : List ExceptHandler := [.ExceptHandler (some (.Name x np)) (some n) (b0 :: su) p2]
  let xe : Value → Shared → Prop := fun e t => wpAny (model X.prog X.w) X.A (noteFrame e X.env) (fun _ t2 => wpAny (model X.prog X.w) X.A (setFlight e none) (fun _ t3 => wpAny (model X.prog X.w) X.A (handleBy e X.env hd) (SP X pins D) X.xe t3) X.xe t2) X.xe t
  have tkb : Takes (X.tr (X.pn ++ pins) xe) (wKeep X.K c i ts Wo D) := by
    intro u t z
    obtain ⟨a, B, sI, ps, σ1, H1, cls, d, rfl, J0, nb, up, sky, na, os, ag, b, hb1, hy, hn⟩ := z
    have J : Inv X pins σ1 H1 sI := J0.ofTry okX
    rw [show (X.tr (X.pn ++ pins) xe).stack = X.env :: X.outer from hs] at sky
    have nb' : ∀ b o, sI.heap.get? b = some o → b ∉ frs X.stack → B.get? b = some o := nb
    show wpAny _ X.A (noteFrame (.ref a) X.env) _ _ t
    refine Sky.land Zc.steady hfr hf sky fun h3 fl3 up3 => ?_
    obtain ⟨o3, v3, e3, z3, d3⟩ := fl3.there
    have J3 : Inv X pins σ1 H1 { t with heap := h3 } := J.landed nb' fl3.1 (up.trans up3) os ag
    have nfr : a ∉ frs (X.env :: X.outer) := fun hm => by
      obtain ⟨_, o', e', q'⟩ := Heap.FunFrames.mem fl3.2.2.1 hm
      rw [e3] at e'
      cases e'
      exact q' _ d3
    have nL : a ≠ X.env.locals := fun z => nfr (List.mem_filterMap.mpr ⟨_, List.mem_cons_self, by rw [hf, z]⟩)
    have nF : a ∉ X.fs := fun hm => by
      obtain ⟨e, he, q⟩ := List.mem_filterMap.mp hm
      exact nfr (List.mem_filterMap.mpr ⟨_, List.mem_cons_of_mem _ he, q⟩)
    have nI : sI.heap.get? a = none := by
      cases q : sI.heap.get? a with
      | none => rfl
      | some o =>
        have := nb' a o q (by rw [hs]; exact nfr)
        rw [fl3.2.1] at this
        cases this
    have n0 : X.s_0.heap.get? a = none := by
      cases q : X.s_0.heap.get? a with
      | none => rfl
      | some o =>
        obtain ⟨o', q'⟩ := J.base.there a o q (by rw [hx]; exact List.not_mem_nil)
        rw [nI] at q'
        cases q'
    have nP : ∀ p ∈ X.pn ++ pins, p.1 ≠ a := fun p hp z => by
      have q := (J.pin p hp).1
      rw [z, nI] at q
      cases q
    refine wpAny_handleBy_cons (codeAny_handlers_test ?_) (fun q => nomatch q)
    have ty : PySem.W.Looks (model X.prog X.w) h3 (typeOf (.ref a)) cls := fun A Q E s k q => wpAny_typeOf_ref (k _ _ e3) (by rw [z3.1]; exact q)
    have lm := PySem.W.exm_one (M := model X.prog X.w) J3.kIn ty hb1
    have test : ∀ {Q E : Value → Shared → Prop}, Q c { t with heap := h3 } → wpAny (model X.prog X.w) (X.A.mark (some (.ref a))) (eval (.Name x np) X.env) Q E { t with heap := h3 } := fun {Q E} q => by
      have S3 := J3.suite e3 d3 na nL nF
      rcases hc with ⟨hg, hdb, hm | ⟨hm, hv, hnn⟩⟩
      · exact ld_glob (X := X.suite a _) S3 hg hm q hdb
      · exact ld_blt (X := X.suite a _) S3 hg hm hv q hnn hdb
    refine test (lm.here ?_)
    cases b with
    | true =>
      refine codeAny_handlers_suite_as (HandSPX.lands_againZ fl3 fun h4 fl4 up4 => ?_)
      obtain ⟨o4, v4, e4, z4, d4⟩ := fl4.there
      have S4 := (J.landed nb' fl4.1 ((up.trans up3).trans up4) os ag : Inv X pins σ1 H1 { t with heap := h4 }).suite e4 d4 na nL nF
      refine store_ok (X := X.suite a ((a, o4) :: (X.pn ++ pins))) (v := .ref a) S4 nd hi (.inl hl) rfl (fun s5 S5 => ?_) (.inr hl)
      refine wpAny_mono ((hsu a o4 cls d (X.pn ++ pins) z4 ⟨_, d4⟩).run [] s5 _ H1 _ S5 (hy rfl a na)) (fun fl s6 hsp => ?_) (fun _ _ z => z.elim)
      have fin : ∀ {σ6 : L2.St} {H6 : Hp} {Q : Shared → Prop}, Inv (X.suite a ((a, o4) :: (X.pn ++ pins))) [] σ6 H6 s6 → (∀ s7, Inv (X.suite a ((a, o4) :: (X.pn ++ pins))) [] (σ6.set i none) H6 s7 → Q s7) →
          wpAny (model X.prog X.w) X.A (do bindName X.env n .none; unbindBehindTheSuite X.env n p2) (fun _ s7 => Q s7) X.xe s6 := fun S6 hq => gone_ok (X := X.suite a _) S6 nd hi hl hq
      cases fl with
      | next =>
        obtain ⟨σ6, H6, S6, q6⟩ := hsp
        refine fin S6 fun s7 S7 => ?_
        obtain ⟨g1, g2, _⟩ := S7.pin (a, o4) (List.mem_append.mpr (.inl List.mem_cons_self))
        have J7 := S7.unsuite okX
        refine ⟨_, _, Inv.track J7 g2 n0 nL (fun y cc e => ?_) nP (exK_ok g1 z4 d4), q6 g2⟩
        intro z
        obtain ⟨v, w1⟩ := J7.cell y cc e
        rw [z] at w1
        obtain ⟨ob, w2, w3⟩ := w1
        rw [g1] at w2
        cases w2
        rw [d4] at w3
        cases w3
      | brk =>
        obtain ⟨σ6, H6, S6, q6⟩ := hsp
        exact fin S6 fun s7 S7 => ⟨_, _, S7.unsuite okX, q6⟩
      | cont =>
        obtain ⟨σ6, H6, S6, q6⟩ := hsp
        exact fin S6 fun s7 S7 => ⟨_, _, S7.unsuite okX, q6⟩
      | ret u =>
        obtain ⟨v6, σ6, H6, S6, r6, q6⟩ := hsp
        exact fin S6 fun s7 S7 => ⟨_, _, _, S7.unsuite okX, r6, q6⟩
    | false =>
      show wpAny _ X.A (handleBy (.ref a) X.env []) _ _ _
      refine wpAny_handleBy_nil ?_
      obtain ⟨_, _, _, oe, vs, T, _, _, he, _, hd1, ht, _⟩ := id fl3
      unfold PySem.passOn
      refine wpAny_bind (wpAny_field he hd1 ht ?_)
      rw [if_neg (show ¬ ((Value.ref T == Value.none) = true) from by simp)]
      have away : wpAny (model X.prog X.w) X.A (setFlight (.ref a) X.env.frame) (fun _ t4 => wpAny (model X.prog X.w) X.A (throw (.ref a) : Sem Flow) (SP X pins D) X.xe t4) X.xe { t with heap := h3 } := by
        rw [hf]
        refine HandSPX.setFlight_upZ fl3 fun h4 held up4 => wpAny_throw (tk _ _ ?_)
        refine ⟨a, B, sI, pins, σ1, H1, cls, d, rfl, J, nb', (up.trans up3).trans up4, ?_, na, os, ag, hn rfl⟩
        rw [hs]
        exact .inr (.inr held)
      exact wpAny_bind away
  refine wpAny_Try_except (wpAny_mono ((hb _ (X.pn ++ pins) xe tkb PassesOwn.looking).run [] s σ H D (I.toTry _) h) (fun f s1 q => ?_) fun e s1 z => z)
  cases f with
  | next =>
    obtain ⟨σ1, H1, J1, q1⟩ := q
    exact wpAny_execs_nil ⟨_, _, J1.ofTry okX, q1⟩
  | brk =>
    obtain ⟨σ1, H1, J1, q1⟩ := q
    exact ⟨_, _, J1.ofTry okX, q1⟩
  | cont =>
    obtain ⟨σ1, H1, J1, q1⟩ := q
    exact ⟨_, _, J1.ofTry okX, q1⟩
  | ret u =>
    obtain ⟨v, σ1, H1, J1, r1, q1⟩ := q
    exact ⟨_, _, _, J1.ofTry okX, r1, q1⟩
/-- a class of errors of the program, over ValueError, without __init__ of its own: what raising it, and asking a kept one, wants -/
structure ExF (K : PySem.W.Frag) (C : Addr) : Prop where
  x : PySem.W.excIn K C [.type "ValueError", .type "Exception", .type "BaseException", .type "object"] "ValueError.__new__" = true
  k : PySem.W.keepIn K (.ref C) = true
  b : PySem.W.subIn K (.ref C) (.type "BaseException") = some true
  t : PySem.W.typeIn K (.ref C) = some (.type "type")
  i : PySem.W.isClsIn K C = true
/-- isinstance(x, c), x a kept exception of the own class D -/
def rIsX (K : PySem.W.Frag) : List V → Hp → VK → Prop := fun xs H Q => ∃ (a D : Addr) (c : V) (u : Value) (b : Bool), xs = [.ref a, c] ∧ H a = some (ExK (.ref D) none a) ∧ ExcC K D ∧ ClsV c u ∧ PySem.W.kitOne K (.ref D) u = some b ∧ Q (.bl b) H
def rIsXT (K : PySem.W.Frag) : List V → Hp → VK → Prop := fun xs H Q => ∃ (a D tp : Addr) (cs : List V) (us : List Value) (b : Bool), xs = [.ref a, .ref tp] ∧ H a = some (ExK (.ref D) none a) ∧ ExcC K D ∧ H tp = some (.tup cs) ∧ Paired ClsV cs us ∧ PySem.W.kitAny K (.ref D) us = some b ∧ Q (.bl b) H
theorem exK_inst {X : Cx} {pins : List (Addr × Obj)} {σ : L2.St} {H : Hp} {s : Shared} {a D : Addr} (I : Inv X pins σ H s) (ha : H a = some (ExK (.ref D) none a)) : ∃ oe, PySem.W.InstAt s.heap a oe D none := by
  obtain ⟨⟨oe, vs, g1, z1, d1⟩, _⟩ := (show ObjOk X.prog X.w H s.heap a (ExK (.ref D) none a) from I.hok a _ ha)
  refine ⟨oe, ?_⟩
  obtain ⟨oc, od, oda, osl⟩ := oe
  obtain ⟨h1, h2⟩ := z1
  dsimp only at h1 h2 d1
  subst h1 h2 d1
  exact ⟨g1, rfl, rfl, trivial⟩
theorem call_isX {X : Cx} : CallR X (.builtin "isinstance") (rIsX X.K) := by
  intro pins s σ H xs us Q I r h
  obtain ⟨a, D, c, u, b, rfl, ha, C, k, e, q⟩ := h
  obtain ⟨u1, u2, rfl, r1, r2⟩ := vals2 r
  have e2 := k.eq r2
  subst e2
  cases (show u1 = Value.ref a from r1)
  obtain ⟨oe, J⟩ := exK_inst I ha
  exact PySem.W.kia_one (PySem.W.handS_kitx_exc C.hg C.hk C.hs C.hd C.ha C.hn C.ht C.hm) I.kIn J e (fun z => nomatch z) fun tk => ⟨.bl b, H, I.tok tk, rfl, q⟩
theorem call_isXT {X : Cx} : CallR X (.builtin "isinstance") (rIsXT X.K) := by
  intro pins s σ H xs us Q I r h
  obtain ⟨a, D, tp, cs, ws, b, rfl, ha, C, hT, k, e, q⟩ := h
  obtain ⟨u1, u2, rfl, r1, r2⟩ := vals2 r
  cases (show u1 = Value.ref a from r1)
  cases (show u2 = Value.ref tp from r2)
  obtain ⟨oe, J⟩ := exK_inst I ha
  obtain ⟨_, its, rv, o, h1, h2, n, h3⟩ := (show ObjOk X.prog X.w H s.heap tp (.tup cs) from I.hok tp _ hT)
  have e3 := ClsV.all k rv
  subst e3
  obtain ⟨oc, od, dt, sl⟩ := o
  simp only at h2 h3
  subst h2 h3
  exact PySem.W.kia_tup (PySem.W.handS_kitx_exc C.hg C.hk C.hs C.hd C.ha C.hn C.ht C.hm) I.kIn J h1 e (fun z => nomatch z) fun tk => ⟨.bl b, H, I.tok tk, rfl, q⟩
/-! ### sorted(xs) of pairs, sorted(d.items()) -/
theorem each_self {α : Type} {R : Value → α → Prop} (f : α → Value) : ∀ (zs : List α), (∀ z ∈ zs, R (f z) z) → PySem.W.EachIs R (zs.map f) zs
  | [], _ => .nil
  | z :: zs, h => .cons (h z List.mem_cons_self) (each_self f zs fun y hy => h y (List.mem_cons_of_mem _ hy))
theorem each_eq {α : Type} {f : α → Value} : ∀ {vs : List Value} {zs : List α}, PySem.W.EachIs (fun v z => v = f z) vs zs → vs = zs.map f
  | _, _, .nil => rfl
  | _, _, .cons h t => by rw [h, each_eq t]; rfl
def prS (e : Str × Str) : PyData := .tuple [.str e.1, .str e.2]
def prI (e : Int × Str) : PyData := .tuple [.int e.1, .str e.2]
def leIS (a b : Int × Str) : Prop := a.1 < b.1 ∨ (a.1 = b.1 ∧ LeS a.2 b.2)
theorem leIS_anti {a b : Int × Str} (h : leIS a b) (h' : leIS b a) : a = b := by
  obtain ⟨i, x⟩ := a
  obtain ⟨j, y⟩ := b
  rcases h with h | ⟨h1, h2⟩ <;> rcases h' with h' | ⟨h3, h4⟩
  · exact absurd h (by omega)
  · have : i < j := h; have : j = i := h3; omega
  · have : i = j := h1; have : j < i := h'; omega
  · have e1 : i = j := h1
    have e2 : x = y := leS_anti h2 h4
    rw [e1, e2]
theorem le_prI {a b : Int × Str} (h : PySem.W.dataLe false prI a b = true) : leIS a b := by
  have h2 : (!PySem.W.dataLt (prI b) (prI a)) = true := h
  unfold prI at h2
  rw [PySem.W.dataLt_pair (by simp [PySem.W.alike]) (by simp [PySem.W.alike]), PySem.W.dataLt_int, PySem.W.dataLt_str] at h2
  simp only [PyData.eqv, beq_iff_eq] at h2
  unfold leIS
  by_cases e : b.1 = a.1
  · rw [if_pos e] at h2
    refine .inr ⟨e.symm, ?_⟩
    by_cases e2 : b.2 = a.2
    · rw [e2]; exact List.le_refl _
    · rw [if_neg e2] at h2
      have : ¬ (sg b.2 < sg a.2) := by simpa using h2
      exact List.not_lt.mp this
  · rw [if_neg e] at h2
    have : ¬ (b.1 < a.1) := by simpa using h2
    exact .inl (by omega)
theorem le_prS {a b : Str × Str} (h : PySem.W.dataLe false prS a b = true) : LeS a.1 b.1 := by
  have h2 : (!PySem.W.dataLt (prS b) (prS a)) = true := h
  unfold prS at h2
  rw [PySem.W.dataLt_pair (by simp [PySem.W.alike]) (by simp [PySem.W.alike]), PySem.W.dataLt_str, PySem.W.dataLt_str] at h2
  simp only [PyData.eqv, beq_iff_eq] at h2
  by_cases e : b.1 = a.1
  · rw [e]; exact List.le_refl _
  · rw [if_neg e] at h2
    have : ¬ (sg b.1 < sg a.1) := by simpa using h2
    exact List.not_lt.mp this
theorem depth_prI (e : Int × Str) : (prI e).depth ≤ 3 := by
  unfold prI
  simp only [PyData.depth, PyData.depthAll]
  decide
theorem alike_prI (l : List (Addr × Int × Str)) : PySem.W.AllAlike (l.map fun z => prI z.2) := PySem.W.AllAlike.of fun b b' => by simp [prI, PySem.W.alike, PySem.W.alikeAll]
/-- sorted(xs) of tuples (int, text) -/
def rSortIS (K : PySem.W.Frag) : List V → Hp → VK → Prop := fun xs H Q => ∃ (a : Addr) (zs : List (Addr × Int × Str)), xs = [.ref a] ∧ SqL K H a (zs.map fun z => V.ref z.1) ∧ zs.length ≤ 4000 ∧ (∀ z ∈ zs, SqT K H z.1 [.int z.2.1, .str z.2.2]) ∧
  ∀ (p : Addr) (us : List (Addr × Int × Str)), H p = none → us.Perm zs → us.Pairwise (fun a b => leIS a.2 b.2) → Q (.ref p) (upd H p (.lst (us.map fun z => V.ref z.1)))
theorem cr_sortIS {X : Cx} (hu : X.A.units + 64 < cLine) : CallR X (.builtin "sorted") (rSortIS X.K) := by
  intro pins s σ H vs us Q I r h
  obtain ⟨a, zs, rfl, hs, few, hz, q⟩ := h
  obtain ⟨its, rv, hl, hzz⟩ := I.list hs
  obtain ⟨u, rfl, ru⟩ := vals1 r
  obtain rfl : u = Value.ref a := ru
  have ei : its = zs.map fun z => Value.ref z.1 := by
    have e : (zs.map fun z => V.ref z.1) = (zs.map (·.1)).map V.ref := by rw [List.map_map]; rfl
    rw [e] at rv
    rw [refs_at rv, List.map_map]
    rfl
  subst ei
  refine PySem.W.sorted_data (bs := zs) (enc := fun z => prI z.2) (R := fun v z => v = .ref z.1) hl.isList (each_self _ zs fun _ _ => rfl) (each_self _ zs fun z hz' => ?_) (alike_prI _) (.tuples fun b => ⟨_, _, rfl⟩) (Nat.le_trans few (by decide)) (fun b _ => by have := depth_prI b.2; omega) fun out hlen ho => ?_
  · obtain ⟨its, rv, ⟨o, ho, hc, n, hd⟩, _⟩ := I.tuple (hz z hz')
    obtain ⟨u1, u2, rfl, ⟨t1, rfl⟩, ⟨t2, rfl⟩⟩ := vals2 rv
    exact ⟨_, Reads.tuple ho hc hd (.cons (.int _ t1) (.cons (.str _ t2) .nil))⟩
  · obtain rfl := each_eq (f := fun z : Addr × Int × Str => Value.ref z.1) ho
    have pz : (zs.mergeSort (PySem.W.dataLe false fun z : Addr × Int × Str => prI z.2)).Perm zs := List.mergeSort_perm _ _
    have pw := PySem.W.sort_pairwise (PySem.W.sortLe_total (PyProof.Rows.listOrd PyProof.Rows.itemOrd) false fun z : Addr × Int × Str => PySem.W.keyToks (prI z.2)) zs
    obtain ⟨n, hn⟩ := sortedAll_at s.heap (zs.map fun z => Value.ref z.1) (List.toArray ((zs.mergeSort (PySem.W.dataLe false fun z : Addr × Int × Str => prI z.2)).map fun z => Value.ref z.1))
    have nf : H (s.heap.objs.size + 1) = none := I.hok.fresh (Nat.le_succ _)
    refine ⟨.ref (s.heap.objs.size + 1), _, I.laid (o := .lst ((zs.mergeSort (PySem.W.dataLe false fun z : Addr × Int × Str => prI z.2)).map fun z => V.ref z.1)) (t' := s.toks) (fun b o e => sortedAll_old e) (Nat.le_succ _) ⟨?_, _, n, vals_maps (fun z : Addr × Int × Str => V.ref z.1) (fun z => Value.ref z.1) _ fun _ _ => rfl, hn⟩, rfl, q _ _ nf pz (pw.imp fun h => le_prI h)⟩
    rw [List.length_map, pz.length_eq]
    exact Nat.le_trans few (by decide)
/-! d.items() -/
theorem mt_itemsK {X : Cx} : MtR X "dict.items" (fun x xs H Q => ∃ (a : Addr) (kvs : List (Key × V)), x = .ref a ∧ xs = [] ∧ H a = some (.dK kvs) ∧ ∀ p, H p = none → Q (.ref p) (upd H p (DX.itemsO p a))) := by
  intro pins s σ H x xs v us Q I rx rxs h
  obtain ⟨a, kvs, rfl, rfl, ha, q⟩ := h
  cases rx
  cases rxs
  obtain ⟨z, hd, xs', rel, o, es, ep, ho, hx, hdat, _⟩ := dk_of I.hok ha
  refine DT.callItems (es := es) (ep := ep) hd ⟨o, ho, hx, hdat⟩ ?_
  have hf : H s.heap.objs.size = none := I.hok.fresh (Nat.le_refl _)
  exact ⟨.ref s.heap.objs.size, upd H s.heap.objs.size (DX.itemsO s.heap.objs.size a), I.laid (t' := s.toks) (fun b u e => Heap.get?_push_of_some _ e) (Nat.le_refl _) (DX.itemsO_ok (Heap.get?_push_size _ rfl)), rfl, q _ hf⟩
def txK (es : List (Str × Str)) : List (Key × V) := es.map fun e => (.inr e.1, .str e.2)
def rSortIt2 : List V → Hp → VK → Prop := fun vs H Q => ∃ (p a : Addr) (es : List (Str × Str)), vs = [.ref p] ∧ H p = some (DX.itemsO p a) ∧ H a = some (.dK (txK es)) ∧
  ∀ (H' : Hp) (l : Addr) (zs : List (Addr × Str × Str)), Same H H' → H l = none → H' l = some (.lst (zs.map fun z => V.ref z.1)) → (zs.map (·.2)).Perm es → zs.Pairwise (fun a b => LeS a.2.1 b.2.1) → (∀ z ∈ zs, H z.1 = none ∧ H' z.1 = some (.tup [.str z.2.1, .str z.2.2])) → Q (.ref l) H'
theorem depth_prS (e : Str × Str) : (prS e).depth ≤ 3 := by
  unfold prS
  simp only [PyData.depth, PyData.depthAll]
  decide
theorem alike_prS (l : List (Addr × Str × Str)) : PySem.W.AllAlike (l.map fun z => prS z.2) := PySem.W.AllAlike.of fun b b' => by simp [prS, PySem.W.alike, PySem.W.alikeAll]
theorem tx_at {es : List (Str × Str)} {vs : List (Key × Value)} (r : KV (txK es) vs) {j : Nat} {q : Key × Value} (h : vs[j]? = some q) : ∃ e, es[j]? = some e ∧ q.1 = .inr e.1 ∧ RelV (.str e.2) q.2 := by
  obtain ⟨e0, h0, h1, h2⟩ := DX.pget r h
  unfold txK at h0
  rw [List.getElem?_map] at h0
  obtain ⟨e, he, rfl⟩ := Option.map_eq_some_iff.mp h0
  exact ⟨e, he, h1.symm, h2⟩
theorem cr_sortIt2 {X : Cx} (hc : X.calm = true) (hu : X.A.units + 64 < cLine) : CallR X (.builtin "sorted") rSortIt2 := by
  intro pins s σ H vs us Q I r h
  obtain ⟨p, a, es, rfl, hp, ha, q⟩ := h
  obtain rfl := Vals.ref1 r
  have view : s.heap.IsItemsView p a := (show ObjOk X.prog X.w H s.heap p (DX.itemsO p a) from I.hok p _ hp).1
  obtain ⟨z, hd, xs', rel, o, ds, ep, ho, hx, hdat, hks, hps, hn⟩ := dk_of I.hok ha
  have l1 : es.length = xs'.length := by
    have := Paired.length rel
    unfold txK at this
    rwa [List.length_map] at this
  have z' : es.length ≤ sizeLine := by unfold txK at z; rwa [List.length_map] at z
  have l2 : ds.size = es.length := by rw [← Array.length_toList, hps.length, l1]
  have hh : X.A.handled = none := I.ok.hd hc
  refine DT.sortedI (es := ds) (ep := ep) hh view ⟨o, ho, hx, hdat⟩ (by rw [l2]; exact z') fun h' tk as hk hlt hl hG => ?_
  have lak : as.length = es.length := by omega
  have nd : as.Nodup := List.Pairwise.imp (fun h => Nat.ne_of_lt h) hG.rise
  have pr : ∀ (j : Nat) (b : Addr), as[j]? = some b → ∃ (e : Str × Str) (t1 t2 : Tok), es[j]? = some e ∧ h'.get? b = some { cls := .type "tuple", data := .seq #[Value.str e.1 t1, Value.str e.2 t2] } := by
    intro j b hj
    obtain ⟨en, he, hg⟩ := hG.pairs j b hj
    have jl : j < xs'.length := by rw [← l1, ← lak]; exact (List.getElem?_eq_some_iff.mp hj).1
    have hx' := List.getElem?_eq_getElem jl
    obtain ⟨e, he', k1, k2⟩ := tx_at rel hx'
    obtain ⟨g1, g2⟩ := hps.get? (i := j) (by rw [Array.getElem?_toList]; exact he) hx'
    have g1' : keyIs (.inr e.1) en.key = true := by rw [← k1]; exact g1
    obtain ⟨t2, e2⟩ := k2
    rcases keyIs_shape g1' with ⟨_, _, q, _⟩ | ⟨y, t1, q, e1⟩
    · cases q
    · cases q
      refine ⟨e, t1, t2, he', ?_⟩
      have g3 : (xs'.get ⟨j, jl⟩).2 = Value.str e.2 t2 := e2
      rw [hg, e1, g2, g3]
  have hob : (h'.push { cls := .type "list", data := .seq (as.map Value.ref).toArray }).get? h'.objs.size = some (seqObj "list" (as.map Value.ref).toArray 0) := Heap.get?_push_size _ rfl
  have kb : ∀ b o, s.heap.get? b = some o → (h'.push { cls := .type "list", data := .seq (as.map Value.ref).toArray }).get? b = some o := fun b o e => Heap.get?_push_of_some _ (hk b o e)
  have ne0 : ∀ b o, h'.get? b = some o → b ≠ h'.objs.size := fun b o e => Nat.ne_of_lt (Heap.lt_size e)
  generalize hh2 : h'.push { cls := .type "list", data := .seq (as.map Value.ref).toArray } = h2 at hob kb ⊢
  have ka : ∀ b o, h'.get? b = some o → h2.get? b = some o := fun b o e => by rw [← hh2]; exact Heap.get?_push_of_some _ e
  have em : (as.zip es).map (fun z => Value.ref z.1) = as.map Value.ref := by
    have : (as.zip es).map (fun z => Value.ref z.1) = ((as.zip es).map (·.1)).map Value.ref := by rw [List.map_map]; rfl
    rw [this, List.map_fst_zip (by omega)]
  have es2 : (as.zip es).map (·.2) = es := List.map_snd_zip (by omega)
  have zl : (as.zip es).length = es.length := by rw [List.length_zip]; omega
  have rd : ∀ z ∈ as.zip es, ∃ l, Reads h2 (Value.ref z.1) (prS z.2) l ∧ h'.objs.size ∉ l := by
    intro z hz
    obtain ⟨j, hj⟩ := List.mem_iff_getElem?.mp hz
    obtain ⟨h1, h2'⟩ := List.getElem?_zip_eq_some.mp hj
    obtain ⟨e, t1, t2, he, hg⟩ := pr j _ h1
    rw [h2'] at he
    cases he
    exact ⟨_, Reads.tuple (ka _ _ hg) rfl rfl (.cons (.str _ t1) (.cons (.str _ t2) .nil)), fun m => by simp at m⟩
  rw [← em] at hob
  refine PySem.W.list_sort_data (s := { s with heap := h2, toks := tk }) (bs := as.zip es) (enc := fun z => prS z.2) (R := fun v z => v = .ref z.1) hob (each_self _ _ fun _ _ => rfl) (each_self _ _ rd) (alike_prS _) (.tuples fun b => ⟨_, _, rfl⟩) (by rw [zl]; exact z') (fun b _ => by have := depth_prS b.2; show X.A.units + 1 + 1 + _ < cLine; omega) fun out hlen ho2 => ?_
  obtain rfl := each_eq (f := fun z : Addr × Str × Str => Value.ref z.1) ho2
  have srt0 := PySem.W.sort_pairwise (PySem.W.sortLe_total (PyProof.Rows.listOrd PyProof.Rows.itemOrd) false fun z : Addr × Str × Str => PySem.W.keyToks (prS z.2)) (as.zip es)
  have pz : ((as.zip es).mergeSort (PySem.W.dataLe false fun z => prS z.2)).Perm (as.zip es) := List.mergeSort_perm _ _
  have srt : ((as.zip es).mergeSort (PySem.W.dataLe false fun z : Addr × Str × Str => prS z.2)).Pairwise (fun a b => LeS a.2.1 b.2.1) := srt0.imp fun h => le_prS h
  clear srt0
  revert srt pz
  generalize (as.zip es).mergeSort (PySem.W.dataLe false fun z => prS z.2) = zs
  intro pz srt
  have kF : ∀ b o, b ≠ h'.objs.size → h2.get? b = some o → (sortedHeap h2 h'.objs.size ((as.zip es).map fun z => Value.ref z.1) (zs.map fun z => Value.ref z.1).toArray).get? b = some o := fun b o hb e => (PyProof.Rows.sortedHeap_old hb (Heap.lt_size e)).trans e
  have kS : ∀ b o, s.heap.get? b = some o → (sortedHeap h2 h'.objs.size ((as.zip es).map fun z => Value.ref z.1) (zs.map fun z => Value.ref z.1).toArray).get? b = some o := fun b o e => kF b o (ne0 _ _ (hk b o e)) (kb b o e)
  obtain ⟨eF, heF⟩ := PyProof.Rows.sortedHeap_at (vs := (as.zip es).map fun z => Value.ref z.1) (out := (zs.map fun z => Value.ref z.1).toArray) hob
  have I1 : Inv X pins σ H { s with heap := sortedHeap h2 h'.objs.size ((as.zip es).map fun z => Value.ref z.1) (zs.map fun z => Value.ref z.1).toArray, toks := tk } := I.kept (t' := tk) kS
  have hn0 : H h'.objs.size = none := I.hok.fresh (Nat.le_of_lt hlt)
  have I2 : Inv X pins σ (upd H h'.objs.size (.lst (zs.map fun z => V.ref z.1))) { s with heap := sortedHeap h2 h'.objs.size ((as.zip es).map fun z => Value.ref z.1) (zs.map fun z => Value.ref z.1).toArray, toks := tk } :=
    I1.take (t' := tk) (fun b ob _ e => e) (I.fpOk (Nat.le_of_lt hlt) hn0) ⟨by rw [List.length_map, pz.length_eq, zl]; exact z', _, eF, vals_maps (fun z : Addr × Str × Str => V.ref z.1) (fun z => Value.ref z.1) _ fun _ _ => rfl, heF⟩
  have nd2 : (zs.map (·.1)).Nodup := by
    have e := (pz.map (·.1)).nodup_iff.mpr (show ((as.zip es).map (·.1)).Nodup by rw [List.map_fst_zip (by omega)]; exact nd)
    exact e
  have at_ : ∀ z ∈ zs, ∃ (j : Nat) (t1 t2 : Tok), as[j]? = some z.1 ∧ h'.get? z.1 = some { cls := .type "tuple", data := .seq #[Value.str z.2.1 t1, Value.str z.2.2 t2] } := by
    intro z hz
    obtain ⟨j, hj⟩ := List.mem_iff_getElem?.mp (pz.mem_iff.mp hz)
    obtain ⟨h1, h2'⟩ := List.getElem?_zip_eq_some.mp hj
    obtain ⟨e, t1, t2, he, hg⟩ := pr j _ h1
    rw [h2'] at he
    cases he
    exact ⟨j, t1, t2, h1, hg⟩
  obtain ⟨H2, I3, g, qt⟩ := DX.takeT (P := fun b vs => ∃ z ∈ zs, z.1 = b ∧ vs = [.str z.2.1, .str z.2.2]) I (zs.map (·.1)) _ I2 nd2 fun b hb => by
    obtain ⟨z, hz, rfl⟩ := List.mem_map.mp hb
    obtain ⟨j, t1, t2, hj, hg⟩ := at_ z hz
    have nb : z.1 ≠ h'.objs.size := ne0 _ _ hg
    have lo : s.heap.objs.size ≤ z.1 := Nat.le_of_lt (hG.above _ (List.mem_of_getElem? hj))
    refine ⟨lo, by rw [upd_ne nb]; exact I.hok.fresh lo, _, ⟨z, hz, rfl, rfl⟩, fun H3 => ⟨by show 2 ≤ sizeLine; decide, [Value.str z.2.1 t1, Value.str z.2.2 t2], .cons ⟨t1, rfl⟩ (.cons ⟨t2, rfl⟩ .nil), _, kF _ _ nb (ka _ _ hg), rfl, 0, rfl⟩⟩
  refine ⟨.ref h'.objs.size, H2, I3, rfl, q H2 h'.objs.size zs (fun b o e => g b o (by rw [upd_ne (ne_of_none e hn0)]; exact e)) hn0 (g _ _ upd_same) (by have e := pz.map (·.2); rw [es2] at e; exact e) srt fun z hz => ?_⟩
  obtain ⟨vs, ⟨z2, hz2, e1, rfl⟩, hv⟩ := qt z.1 (List.mem_map.mpr ⟨z, hz, rfl⟩)
  have ez : z2 = z := by
    obtain ⟨i, hi⟩ := List.mem_iff_getElem?.mp hz
    obtain ⟨j, hj⟩ := List.mem_iff_getElem?.mp hz2
    have hi1 : (zs.map (·.1))[i]? = some z.1 := by rw [List.getElem?_map, hi]; rfl
    have hj1 : (zs.map (·.1))[j]? = some z.1 := by rw [List.getElem?_map, hj, ← e1]; rfl
    have ij := (List.getElem?_inj (List.getElem?_eq_some_iff.mp hi1).1 nd2).mp (hi1.trans hj1.symm)
    rw [← ij, hi] at hj
    exact (Option.some.inj hj).symm
  rw [ez] at hv
  obtain ⟨j, _, _, hj, _⟩ := at_ z hz
  exact ⟨I.hok.fresh (Nat.le_of_lt (hG.above _ (List.mem_of_getElem? hj))), hv⟩
/-! ### sorted(..) of any number of texts -/
theorem le_str {a b : Str} (h : PySem.W.dataLe false PyData.str a b = true) : LeS a b := by
  have h2 : (!PySem.W.dataLt (.str b) (.str a)) = true := h
  rw [PySem.W.dataLt_str] at h2
  exact List.not_lt.mp (show ¬ (sg b < sg a) by simpa using h2)
theorem up_of {us : List Str} (h : us.Pairwise LeS) : sortedS us = true := sortedS_of_pairwise _ (h.imp fun {a b} q => by
  rw [ltCps_eq]
  exact decide_eq_false (List.not_lt.mpr q))
theorem alike_str (l : List Str) : PySem.W.AllAlike (l.map PyData.str) := PySem.W.AllAlike.of fun b b' => by simp [PySem.W.alike]
theorem each_strs : ∀ {ys : List Str} {us : List Value}, Vals (ys.map V.str) us → PySem.W.EachIs (fun v y => ∃ t, v = Value.str y t) us ys
  | [], us, r => by
    cases r
    exact .nil
  | y :: ys, us, r => by
    rw [List.map_cons] at r
    cases r with
    | cons h t => exact .cons h (each_strs t)
theorem vals_strs : ∀ {us : List Value} {ys : List Str}, PySem.W.EachIs (fun v y => ∃ t, v = Value.str y t) us ys → Vals (ys.map V.str) us
  | _, _, .nil => .nil
  | _, _, .cons h t => .cons h (vals_strs t)
theorem cr_sortStr {X : Cx} (hu : X.A.units + 64 < cLine) : CallR X (.builtin "sorted") (fun xs H Q => ∃ (a : Addr) (ys : List Str), xs = [.ref a] ∧ SqL X.K H a (ys.map V.str) ∧ ys.length ≤ 4000 ∧ ∀ (us : List Str) (p : Addr), us.Perm ys → sortedS us = true → H p = none → Q (.ref p) (upd H p (.lst (us.map V.str)))) := by
  intro pins s σ H vs us Q I r h
  obtain ⟨a, ys, rfl, hs, few, q⟩ := h
  obtain ⟨its, rv, hl, hzz⟩ := I.list hs
  obtain ⟨u, rfl, ru⟩ := vals1 r
  obtain rfl : u = Value.ref a := ru
  have e := each_strs rv
  refine PySem.W.sorted_data (bs := ys) (enc := PyData.str) (R := fun v y => ∃ t, v = Value.str y t) hl.isList e (e.mono fun v y ⟨t, q⟩ => ⟨[], by rw [q]; exact .str y t⟩) (alike_str _) (.others fun b => ⟨(fun z => by cases z), (fun xs z => by cases z)⟩) (Nat.le_trans few (by decide)) (fun b _ => by show X.A.units + 2 + 0 < cLine; omega) fun out hlen ho => ?_
  have pz : (ys.mergeSort (PySem.W.dataLe false PyData.str)).Perm ys := List.mergeSort_perm _ _
  have pw := PySem.W.sort_pairwise (PySem.W.sortLe_total (PyProof.Rows.listOrd PyProof.Rows.itemOrd) false fun z : Str => PySem.W.keyToks (.str z)) ys
  obtain ⟨n, hn⟩ := sortedAll_at s.heap its (List.toArray out)
  refine ⟨.ref (s.heap.objs.size + 1), _, I.laid (o := .lst ((ys.mergeSort (PySem.W.dataLe false PyData.str)).map V.str)) (t' := s.toks) (fun b o e => sortedAll_old e) (Nat.le_succ _) ⟨?_, _, n, vals_strs ho, hn⟩, rfl, q _ _ pz (up_of (pw.imp fun h => le_str h)) (I.hok.fresh (Nat.le_succ _))⟩
  rw [List.length_map, pz.length_eq]
  exact Nat.le_trans few (by decide)
theorem cr_sortDk {X : Cx} (hc : X.calm = true) (hu : X.A.units + 64 < cLine) : CallR X (.builtin "sorted") (fun xs H Q => ∃ (a : Addr) (kvs : List (Key × V)) (ks : List Str), xs = [.ref a] ∧ Rd H a (.dK kvs) ∧ kvs.map (·.1) = ks.map Sum.inr ∧ ks.length ≤ 4000 ∧
    ∀ (ys : List Str) (p : Addr), ys.Perm ks → sortedS ys = true → H p = none → Q (.ref p) (upd H p (.lst (ys.map V.str)))) := by
  intro pins s σ H xs us Q I r h
  obtain ⟨a, kvs, ks, rfl, hd, hks, few, q⟩ := h
  obtain rfl := Vals.ref1 r
  obtain ⟨_, lo, vs, rel, dd⟩ := dk_rd I.hok hd
  obtain ⟨ep, hat⟩ := dd.dictAt
  have hkeys : vs.map (·.1) = ks.map Sum.inr := rel.keys.symm.trans hks
  have hl : vs.length = ks.length := by have e := congrArg List.length hkeys; rwa [List.length_map, List.length_map] at e
  have big : ks.length ≤ sizeLine := Nat.le_trans few (by decide)
  refine Calls.call_function_entry kind_sorted plain_sorted entry_sorted (args_sorted1 _) ?_
  unfold Builtin.«sorted»
  refine wpAny_bind (m := checkCount "sorted" 1 1 _) (wpAny_pure (wpAny_bind (PySem.W.kdu_collect (A := X.A.in1) (PySem.W.kdl_dict (knd := mixKind X.prog X.w) (kvs := vs) (ep := ep) lo) (I.ok.hd hc) hat (by omega) fun h' tk acc hk hacc => ?_)))
  have e : PySem.W.EachIs (fun v y => ∃ t, v = Value.str y t) acc.toList ks := .of_zip (by rw [Array.length_toList, hacc.1, hl]) fun z hz => by
    obtain ⟨j, hj⟩ := List.mem_iff_getElem?.mp hz
    obtain ⟨h1, h2⟩ := List.getElem?_zip_eq_some.mp hj
    rw [Array.getElem?_toList] at h1
    obtain ⟨k, x, e1, e2⟩ := hacc.2 j _ h1
    have e3 : (vs.map (·.1))[j]? = some k := by rw [List.getElem?_map, e1]; rfl
    rw [hkeys, List.getElem?_map, h2] at e3
    cases e3
    obtain ⟨t, ev⟩ := Value.isStrOf_shape (x := z.2) (v := z.1) e2
    exact ⟨t, ev⟩
  have al : acc.toList.length ≤ sizeLine := by rw [e.length]; exact big
  refine wpAny_bind (wpAny_newList ?_ al)
  have at1 : (h'.push (seqObj "list" acc.toList.toArray 0)).get? h'.objs.size = some (seqObj "list" acc.toList.toArray 0) := Heap.get?_push_size _ rfl
  have kb : ∀ b o, s.heap.get? b = some o → (h'.push (seqObj "list" acc.toList.toArray 0)).get? b = some o := fun b o e => Heap.get?_push_of_some _ (hk b o e)
  have lt' : ∀ b o, s.heap.get? b = some o → b ≠ h'.objs.size := fun b o e => Nat.ne_of_lt (Heap.lt_size (hk b o e))
  show wpAny _ _ _ _ _ { s with heap := h'.push (seqObj "list" acc.toList.toArray 0), toks := tk }
  generalize h'.push (seqObj "list" acc.toList.toArray 0) = h2 at at1 kb ⊢
  refine wpAny_bind (wpAny_holding (PySem.W.list_sort_data (s := { s with heap := h2, toks := tk }) (bs := ks) (enc := PyData.str) (R := fun v y => ∃ t, v = Value.str y t) at1 e (e.mono fun v y ⟨t, q⟩ => ⟨[], by rw [q]; exact .str y t, List.not_mem_nil⟩) (alike_str _) (.others fun b => ⟨(fun z => by cases z), (fun xs z => by cases z)⟩) big (fun b _ => by show X.A.units + 1 + 1 + 0 < cLine; omega) fun out hlen ho => ?_))
  have pz : (ks.mergeSort (PySem.W.dataLe false PyData.str)).Perm ks := List.mergeSort_perm _ _
  have pw := PySem.W.sort_pairwise (PySem.W.sortLe_total (PyProof.Rows.listOrd PyProof.Rows.itemOrd) false fun z : Str => PySem.W.keyToks (.str z)) ks
  obtain ⟨eF, heF⟩ := PyProof.Rows.sortedHeap_at (vs := acc.toList) (out := out.toArray) at1
  have I1 : Inv X pins σ H { s with heap := sortedHeap h2 h'.objs.size acc.toList out.toArray, toks := tk } := I.kept (t' := tk) fun b o e => (PyProof.Rows.sortedHeap_old (lt' b o e) (Heap.lt_size (kb b o e))).trans (kb b o e)
  have Ih : Inv X pins σ H { s with heap := h', toks := tk } := I.kept hk
  have hn0 : H h'.objs.size = none := Ih.hok.fresh (Nat.le_refl _)
  refine wpAny_pure ⟨_, rfl, .ref h'.objs.size, _, I1.take (o := .lst ((ks.mergeSort (PySem.W.dataLe false PyData.str)).map V.str)) (t' := tk) (fun b ob _ e => e) (Ih.fpOk (Nat.le_refl _) hn0) ⟨?_, _, eF, vals_strs ho, heF⟩, rfl, q _ _ pz (up_of (pw.imp fun h => le_str h)) hn0⟩
  rw [List.length_map, pz.length_eq]
  exact big
/-! ### x in, not in a set of texts -/
theorem txS_setOf {P : Program} {w : World} {h : Heap} {a : Addr} {ks : List Str} (R : TxS w h a ks) : ∃ n, h.SetOf (PySem.strKind P w) a (fun k => decide (k ∈ ks)) n := by
  obtain ⟨o, es, ep, t, ho, hx, hd, T⟩ := R
  refine ⟨es.size, o, es, ep, t, ho, hx, hd, T.elems, fun k => ?_, T.few, T.fit, rfl⟩
  rw [decide_eq_true_iff, ← T.mem.mem_iff, List.mem_map]
  exact ⟨fun ⟨e, he, q⟩ => ⟨e, he, (tx_is (T.ent e he) k).mpr q⟩, fun ⟨e, he, q⟩ => ⟨e, he, (tx_is (T.ent e he) k).mp q⟩⟩
def rInTx (w : World) (neg : Bool) : R2 := fun x y H Q => ∃ (z : Str) (a : Addr) (ks : List Str), x = .str z ∧ y = .ref a ∧ H a = some (TxO w a ks) ∧ Q (.bl (if neg then !decide (z ∈ ks) else decide (z ∈ ks))) H
theorem op_inTx {X : Cx} : OpR X (compareOp .In) (rInTx X.w false) := by
  intro pins s σ H x y v u Q I rx ry h
  obtain ⟨z, a, ks, rfl, rfl, ha, q⟩ := h
  cases ry
  obtain ⟨t, rfl⟩ := rx
  obtain ⟨n, hS⟩ := txS_setOf (P := X.prog) (I.hok a _ ha).1
  exact wpAny_inSet_of (strKind_is _ _ z t) rfl hS ⟨.bl (decide (z ∈ ks)), H, I.tok _, rfl, q⟩
theorem op_notInTx {X : Cx} : OpR X (compareOp .NotIn) (rInTx X.w true) := by
  intro pins s σ H x y v u Q I rx ry h
  obtain ⟨z, a, ks, rfl, rfl, ha, q⟩ := h
  cases ry
  obtain ⟨t, rfl⟩ := rx
  obtain ⟨n, hS⟩ := txS_setOf (P := X.prog) (I.hok a _ ha).1
  exact wpAny_notInSet_of (strKind_is _ _ z t) rfl hS ⟨.bl (!decide (z ∈ ks)), H, I.tok _, rfl, q⟩
/-- xs.count(None), xs texts and None -/
def nonB (v : Value) : Bool := match v with
  | .none => true
  | _ => false
def ntV : V → Bool
  | .non => true
  | .str _ => true
  | _ => false
def isNon : V → Bool
  | .non => true
  | _ => false
theorem nonB_eq {y : V} {v : Value} (h : ntV y = true) (r : RelV y v) : nonB v = isNon y := by
  cases y with
  | non =>
    cases r
    rfl
  | str z =>
    obtain ⟨t, rfl⟩ := r
    rfl
  | _ => cases h
theorem nonB_at {A : Around} {s : Shared} {y : V} {v : Value} (h : ntV y = true) (r : RelV y v) : SeqAt.EqAt A s v .none (nonB v) := by
  cases y with
  | non =>
    cases r
    exact SeqAt.EqAt.same _
  | str z =>
    obtain ⟨t, rfl⟩ := r
    exact SeqAt.EqAt.str_none z t
  | _ => cases h
theorem count_vals : ∀ {ys : List V} {us : List Value}, Vals ys us → (∀ y ∈ ys, ntV y = true) → us.countP nonB = ys.countP isNon
  | _, _, .nil, _ => rfl
  | y :: ys, u :: us, .cons h t, q => by
    rw [List.countP_cons, List.countP_cons, count_vals t fun z hz => q z (List.mem_cons_of_mem _ hz), nonB_eq (q y List.mem_cons_self) h]
theorem vals_back_all : ∀ {ys : List V} {us : List Value}, Vals ys us → (∀ y ∈ ys, ntV y = true) → ∀ u ∈ us, ∃ z, ntV z = true ∧ RelV z u
  | _, _, .nil, _, u, h => by cases h
  | y :: ys, v :: us, .cons h t, q, u, hu => by
    rcases List.mem_cons.mp hu with rfl | hu
    · exact ⟨y, q y List.mem_cons_self, h⟩
    · exact vals_back_all t (fun z hz => q z (List.mem_cons_of_mem _ hz)) u hu
theorem mt_countN {X : Cx} : MtR X "list.count" (fun x xs H Q => ∃ (p : Addr) (ys : List V), x = .ref p ∧ xs = [.non] ∧ SqL X.K H p ys ∧ (∀ y ∈ ys, ntV y = true) ∧ Q (.int (ys.countP isNon : Nat)) H) := by
  intro pins s σ H x xs v us Q I rx rxs h
  obtain ⟨p, ys, rfl, rfl, hs, hn, q⟩ := h
  cases rx
  obtain ⟨u, rfl, ru⟩ := rxs.one
  cases ru
  obtain ⟨its, rv, ⟨⟨cls, dd, data, sl⟩, n, ho, hc, hdn, hd⟩, hlen⟩ := I.list hs
  simp only at hc hd
  subst hc hd
  have all := vals_back_all rv hn
  refine call_meets PySem.F.slot_list_count ⟨_, ho, rfl⟩ PySem.F.entry_list_count (PySem.F.args_list_count_2 _ _)
    (SeqAt.list_countAt p its.toArray n dd sl .none nonB) ⟨ho, fun y hy => ?_, ?_⟩
  · obtain ⟨z, hz, r⟩ := all y (by simpa using hy)
    exact nonB_at hz r
  · refine ⟨.int (ys.countP isNon : Nat), H, I.tok _, ⟨s.toks, ?_⟩, q⟩
    show Value.int ((its.toArray.toList.countP nonB : Nat) : Int) s.toks = Value.int ((ys.countP isNon : Nat) : Int) s.toks
    rw [← count_vals rv hn]
/-! ### x.ljust(n, fill) and x.rstrip(signs) -/
theorem mt_ljustF {X : Cx} : MtR X "str.ljust" (fun x xs H Q => ∃ (a f : Str) (i : Int), x = .str a ∧ xs = [.int i, .str f] ∧ PadOk i = true ∧ f.length = 1 ∧ Q (.str (Txt.ljustF a i (f.cps.getD 0 0))) H) := by
  intro pins s σ H x xs v us Q I rx rs h
  obtain ⟨a, f, i, rfl, rfl, hp, hf, q⟩ := h
  obtain ⟨t, rfl⟩ := rx
  obtain ⟨u1, u2, rfl, r1, r2⟩ := vals2 rs
  obtain ⟨t1, rfl⟩ := r1
  obtain ⟨t2, rfl⟩ := r2
  exact ljust_fill hp hf fun t' k => ⟨.str (Txt.ljustF a i (f.cps.getD 0 0)), H, I.tok k, ⟨t', rfl⟩, q⟩
theorem pad_ok {n : Nat} (h : n ≤ 1000) : PadOk (n : Int) = true := by
  have h1 : fitsSsize (n : Int) = true := by
    unfold fitsSsize
    rw [Bool.not_eq_true', Bool.or_eq_false_iff]
    exact ⟨decide_eq_false (by omega), decide_eq_false (by omega)⟩
  have h2 : PySem.Builtin.Str.tooLong (n : Int).toNat = false := by
    show decide _ = false
    exact decide_eq_false (by rw [Int.toNat_natCast]; exact Nat.not_lt.mpr (Nat.le_trans h (by decide)))
  unfold PadOk
  rw [h1, h2]
  rfl
theorem ljust_zero {x : Str} {w : Nat} (h : x.length ≤ w) : Txt.ljustF x (w : Int) (("0" : Str).cps.getD 0 0) = x ++ Txt.mul "0" ((w - x.length : Nat) : Int) := by
  rw [zero_is]
  show Txt.ljustF x (w : Int) 48 = _
  unfold Txt.ljustF
  apply str_ext
  show sg _ = sg _
  by_cases e : (w : Int) ≤ x.length
  · rw [if_pos e, sg_app, sg_mul, show w - x.length = 0 by omega, List.replicate_zero, List.append_nil]
  · rw [if_neg e, sg_app, sg_mul]
    show (PySem.Builtin.Str.padded x 0 ((w : Int).toNat - x.length) 48).cps.toList = _
    rw [padded_list, List.replicate_zero, List.nil_append, Int.toNat_natCast]
theorem rstrip_pre (x y : Str) : Pre (Txt.rstripChars x y) x := by
  obtain ⟨j, _, e⟩ := rstripChars_is_prefix x y
  rw [e]
  show (PySem.Builtin.Str.strSub x 0 j).cps.toList <+: _
  rw [PySem.StrLaws.strSub_toList, List.drop_zero]
  exact List.take_prefix _ _
theorem pre_bits {x y : Str} (h : Pre x y) (hb : isBits y = true) : isBits x = true := bits_iff.mpr fun c hc => bits_iff.mp hb c (List.IsPrefix.subset h hc)
theorem cut_pre (x : Str) (hi : Option Int) : Pre (cutS x none hi) x := by
  show sg (cutS x none hi) <+: sg x
  unfold cutS
  show ((sg x).drop 0).take (_ - 0) <+: sg x
  rw [List.drop_zero]
  exact List.take_prefix _ _
theorem cut_last {z : Str} (h : z ≠ "") : (cutS z none (some (-1))).length + 1 ≤ z.length := by
  have h1 : 1 ≤ z.length := by
    rcases Nat.eq_zero_or_pos z.length with e | e
    · exfalso
      apply h
      apply str_ext
      show sg z = sg ""
      rw [sg_empty]
      exact List.eq_nil_of_length_eq_zero (by rw [sg_len]; exact e)
    · exact e
  rw [← sg_len]
  show (((sg z).drop _).take _).length + 1 ≤ _
  rw [List.length_take]
  have h2 : HT.sIx z.length z.length (some (-1)) ≤ z.length - 1 := by
    unfold HT.sIx
    simp only []
    split <;> omega
  omega
/-! ### what rows say, changes in their order -/
def gV (kvs : List (Key × V)) (y : Str) : V := (valV kvs (.inr y)).getD .non
theorem gV_tgt {w : Nat} {xs : List Str} {kvs : List (Key × V)} (ok : RowsOk w isTgtV xs kvs) (y : Str) : (∃ t, gV kvs y = .str t ∧ isTgtV (.str t) ∧ y ∈ xs) ∨ (gV kvs y = .non ∧ y ∉ xs) := by
  unfold gV
  cases e : valV kvs (.inr y) with
  | none => exact .inr ⟨rfl, fun h => by have q := valV_mem.mpr ((inr_mem ok.keys y).mpr h); rw [e] at q; cases q⟩
  | some v =>
    have hm := valV_in e
    obtain ⟨kv, hk, e1⟩ := List.mem_map.mp hm
    have e2 := valV_some ok.acc.nd (k := kv.1) (v := kv.2) hk
    rw [e1, e] at e2
    obtain ⟨t, ht, _⟩ := tgt_sm (ok.val kv hk)
    refine .inl ⟨t, ?_, ?_, (inr_mem ok.keys y).mp hm⟩
    · show v = .str t
      rw [← ht]
      exact Option.some.inj e2
    · rw [← ht]
      exact ok.val kv hk
theorem gV_scal {w w2 : Nat} {xs zs : List Str} {ks ls : List (Key × V)} (h1 : RowsOk w isTgtV xs ks) (h2 : RowsOk w2 isTgtV zs ls) (y : Str) : scal (gV ks y) (gV ls y) = true := by
  rcases gV_tgt h1 y with ⟨t, e, _⟩ | ⟨e, _⟩ <;> rcases gV_tgt h2 y with ⟨t2, e2, _⟩ | ⟨e2, _⟩ <;> rw [e, e2] <;> rfl
/-- the rows that differ, each with what is said at last -/
structure WantOk (ks ls : List (Key × V)) (us : List Str) (W : List (Key × V)) : Prop where
  keys : W.map (·.1) = us.map Sum.inr
  nd : us.Nodup
  mem : ∀ y, y ∈ us ↔ gV ks y ≠ gV ls y
  val : ∀ y ∈ us, valV W (.inr y) = some (gV ls y)
  few : us.length ≤ 200
def ordA (x y : Str) : Prop := leIS (-(x.length : Int), x) (-(y.length : Int), y)
def ordB (x y : Str) : Prop := leIS ((x.length : Int), x) ((y.length : Int), y)
structure IsSeq (ks ls : List (Key × V)) (cs : List (Str × V)) (A B : List Str) : Prop where
  eq : cs = A.map (fun y => (y, gV ls y)) ++ B.map (fun y => (y, gV ls y))
  memA : ∀ y, y ∈ A ↔ gV ks y ≠ gV ls y ∧ gV ls y ≠ .non
  memB : ∀ y, y ∈ B ↔ gV ks y ≠ gV ls y ∧ gV ls y = .non
  ndA : A.Nodup
  ndB : B.Nodup
  upA : A.Pairwise ordA
  upB : B.Pairwise ordB
  few : A.length + B.length ≤ 200
theorem perm_of_mem {α : Type} {l m : List α} (h1 : l.Nodup) (h2 : m.Nodup) (h : ∀ x, x ∈ l ↔ x ∈ m) : l.Perm m := (List.perm_ext_iff_of_nodup h1 h2).mpr h
theorem ordA_anti {x y : Str} (h : ordA x y) (h' : ordA y x) : x = y := congrArg Prod.snd (leIS_anti h h')
theorem ordB_anti {x y : Str} (h : ordB x y) (h' : ordB y x) : x = y := congrArg Prod.snd (leIS_anti h h')
theorem IsSeq.uniq {ks ls ks' ls' : List (Key × V)} {cs cs' : List (Str × V)} {A B A' B' : List Str} (hk : ∀ y, gV ks y = gV ks' y) (hl : ∀ y, gV ls y = gV ls' y) (h : IsSeq ks ls cs A B) (h' : IsSeq ks' ls' cs' A' B') : cs = cs' := by
  have eA : A = A' := List.Perm.eq_of_pairwise (le := ordA) (fun _ _ _ _ => ordA_anti) h.upA h'.upA (perm_of_mem h.ndA h'.ndA fun y => by rw [h.memA, h'.memA, hk, hl])
  have eB : B = B' := List.Perm.eq_of_pairwise (le := ordB) (fun _ _ _ _ => ordB_anti) h.upB h'.upB (perm_of_mem h.ndB h'.ndB fun y => by rw [h.memB, h'.memB, hk, hl])
  rw [h.eq, h'.eq, eA, eB]
  congr 1 <;> exact List.map_congr_left fun y _ => by rw [hl]
theorem IsSeq.mem {ks ls : List (Key × V)} {cs : List (Str × V)} {A B : List Str} (h : IsSeq ks ls cs A B) (c : Str × V) : c ∈ cs ↔ gV ks c.1 ≠ gV ls c.1 ∧ c.2 = gV ls c.1 := by
  rw [h.eq, List.mem_append, List.mem_map, List.mem_map]
  constructor
  · rintro (⟨y, hy, rfl⟩ | ⟨y, hy, rfl⟩)
    · exact ⟨((h.memA y).mp hy).1, rfl⟩
    · exact ⟨((h.memB y).mp hy).1, rfl⟩
  · rintro ⟨h1, h2⟩
    obtain ⟨y, v⟩ := c
    have h2 : v = gV ls y := h2
    subst h2
    by_cases e : gV ls y = .non
    · exact .inr ⟨y, (h.memB y).mpr ⟨h1, e⟩, rfl⟩
    · exact .inl ⟨y, (h.memA y).mpr ⟨h1, e⟩, rfl⟩
theorem IsSeq.keys {ks ls : List (Key × V)} {cs : List (Str × V)} {A B : List Str} (h : IsSeq ks ls cs A B) : cs.map (·.1) = A ++ B := by
  rw [h.eq, List.map_append, List.map_map, List.map_map]
  congr 1
  · exact List.map_id _
  · exact List.map_id _
theorem IsSeq.nd {ks ls : List (Key × V)} {cs : List (Str × V)} {A B : List Str} (h : IsSeq ks ls cs A B) : (cs.map (·.1)).Nodup := by
  rw [h.keys]
  exact List.nodup_append.mpr ⟨h.ndA, h.ndB, fun a ha b hb e => ((h.memA a).mp ha).2 (by rw [e]; exact ((h.memB b).mp hb).2)⟩
theorem keys_putK {kvs : List (Key × V)} {k j : Key} {v : V} : j ∈ (putK kvs k v).map (·.1) ↔ j = k ∨ j ∈ kvs.map (·.1) := by
  rw [← valV_mem, valV_put, ← valV_mem]
  by_cases e : j = k
  · rw [if_pos e]
    exact ⟨fun _ => .inl e, fun _ => rfl⟩
  · rw [if_neg e]
    exact ⟨.inr, fun h => h.resolve_left e⟩
theorem nd_putK {kvs : List (Key × V)} {k : Key} {v : V} (h : (kvs.map (·.1)).Nodup) : ((putK kvs k v).map (·.1)).Nodup := by
  by_cases hm : k ∈ kvs.map (·.1)
  · have e : (putK kvs k v).map (·.1) = kvs.map (·.1) := by
      unfold putK
      rw [if_pos (by obtain ⟨p, hp, e⟩ := List.mem_map.mp hm; exact List.any_eq_true.mpr ⟨p, hp, decide_eq_true e⟩), List.map_map]
      refine List.map_congr_left fun p _ => ?_
      show (if p.1 = k then (p.1, v) else p).1 = p.1
      split <;> rfl
    rw [e]
    exact h
  · rw [putK_end hm, List.map_append]
    exact List.nodup_append.mpr ⟨h, List.nodup_cons.mpr ⟨List.not_mem_nil, List.nodup_nil⟩, fun a ha b hb e => hm (by have e2 : b = k := List.mem_singleton.mp hb; rw [← e2, ← e]; exact ha)⟩
theorem keys_mergeK : ∀ {ls kvs : List (Key × V)} {j : Key}, j ∈ (mergeK kvs ls).map (·.1) ↔ j ∈ kvs.map (·.1) ∨ j ∈ ls.map (·.1)
  | [], kvs, j => by
    show j ∈ kvs.map (·.1) ↔ _
    exact ⟨.inl, fun h => h.resolve_right List.not_mem_nil⟩
  | p :: ls, kvs, j => by
    show j ∈ (mergeK (putK kvs p.1 p.2) ls).map (·.1) ↔ _
    rw [keys_mergeK, keys_putK, List.map_cons, List.mem_cons]
    constructor
    · rintro ((h | h) | h)
      · exact .inr (.inl h)
      · exact .inl h
      · exact .inr (.inr h)
    · rintro (h | h | h)
      · exact .inl (.inr h)
      · exact .inl (.inl h)
      · exact .inr h
theorem nd_mergeK : ∀ {ls kvs : List (Key × V)}, (kvs.map (·.1)).Nodup → ((mergeK kvs ls).map (·.1)).Nodup
  | [], _, h => h
  | p :: ls, kvs, h => by
    show ((mergeK (putK kvs p.1 p.2) ls).map (·.1)).Nodup
    exact nd_mergeK (nd_putK h)
/-- the keys of a dict of texts, as texts -/
theorem keyStrs {kvs : List (Key × V)} (h : ∀ j ∈ kvs.map (·.1), ∃ y, j = Sum.inr y) : ∃ us : List Str, kvs.map (·.1) = us.map Sum.inr := by
  generalize kvs.map (·.1) = l at h
  induction l with
  | nil => exact ⟨[], rfl⟩
  | cons j l ih =>
    obtain ⟨y, rfl⟩ := h j List.mem_cons_self
    obtain ⟨us, e⟩ := ih fun k hk => h k (List.mem_cons_of_mem _ hk)
    exact ⟨y :: us, by rw [e]; rfl⟩
theorem keysY {kvs : List (Key × V)} {us : List Str} (hk : kvs.map (·.1) = us.map Sum.inr) : ∀ (i : Nat) (H : Hp) (v : V) (H' : Hp), (H' = H ∧ ∃ k v', kvs[i]? = some (k, v') ∧ v = kV k) → H' = H ∧ ∃ x, us[i]? = some x ∧ v = V.str x := by
  rintro i H v H' ⟨e, k, v', h, rfl⟩
  refine ⟨e, ?_⟩
  have h1 : (kvs.map (·.1))[i]? = some k := by rw [List.getElem?_map, h]; rfl
  rw [hk, List.getElem?_map] at h1
  obtain ⟨x, hx, rfl⟩ := Option.map_eq_some_iff.mp h1
  exact ⟨x, hx, rfl⟩
theorem keys_len {kvs : List (Key × V)} {us : List Str} (hk : kvs.map (·.1) = us.map Sum.inr) : us.length = kvs.length := by
  have := congrArg List.length hk
  rw [List.length_map, List.length_map] at this
  exact this.symm
theorem keys_nd {kvs : List (Key × V)} {us : List Str} (hk : kvs.map (·.1) = us.map Sum.inr) (nd : us.Nodup) : (kvs.map (·.1)).Nodup := by
  rw [hk]
  exact nd.map Sum.inr fun a b h e => h (Sum.inr.inj e)
theorem nd_keys {kvs : List (Key × V)} {us : List Str} (hk : kvs.map (·.1) = us.map Sum.inr) (nd : (kvs.map (·.1)).Nodup) : us.Nodup := by
  rw [hk] at nd
  exact nd.of_map Sum.inr (fun a b h e => h (congrArg Sum.inr e))
theorem merge_keys {w w2 : Nat} {xs zs : List Str} {ks ls : List (Key × V)} (h1 : RowsOk w isTgtV xs ks) (h2 : RowsOk w2 isTgtV zs ls) : ∃ us : List Str, (mergeK ks ls).map (·.1) = us.map Sum.inr ∧ us.Nodup ∧ (∀ y, y ∈ us ↔ y ∈ xs ∨ y ∈ zs) ∧ us.length ≤ xs.length + zs.length := by
  obtain ⟨us, e⟩ := keyStrs (kvs := mergeK ks ls) fun j hj => by
    rcases keys_mergeK.mp hj with h | h
    · rw [h1.keys] at h
      obtain ⟨y, _, rfl⟩ := List.mem_map.mp h
      exact ⟨y, rfl⟩
    · rw [h2.keys] at h
      obtain ⟨y, _, rfl⟩ := List.mem_map.mp h
      exact ⟨y, rfl⟩
  refine ⟨us, e, nd_keys e (nd_mergeK h1.acc.nd), fun y => ?_, ?_⟩
  · rw [← inr_mem e y, keys_mergeK, inr_mem h1.keys, inr_mem h2.keys]
  · rw [keys_len e, keys_len h1.keys, keys_len h2.keys]
    exact length_mergeK _ _
theorem gV_in {w w2 : Nat} {xs zs : List Str} {ks ls : List (Key × V)} (h1 : RowsOk w isTgtV xs ks) (h2 : RowsOk w2 isTgtV zs ls) {y : Str} (h : gV ks y ≠ gV ls y) : y ∈ xs ∨ y ∈ zs := by
  rcases gV_tgt h1 y with ⟨_, _, _, h3⟩ | ⟨e, _⟩
  · exact .inl h3
  · rcases gV_tgt h2 y with ⟨_, _, _, h3⟩ | ⟨e2, _⟩
    · exact .inr h3
    · exact absurd (e.trans e2.symm) h
theorem val_keys {us : List Str} (f : Str → V) (nd : us.Nodup) {y : Str} (hy : y ∈ us) : valV (us.map fun x => ((.inr x : Key), f x)) (.inr y) = some (f y) :=
  valV_some (k := .inr y) (by rw [List.map_map]; exact nd.map (fun x : Str => (Sum.inr x : Key)) fun a b h e => h (Sum.inr.inj e)) (List.mem_map.mpr ⟨y, hy, rfl⟩)
theorem prd_map {α β γ : Type} {R : α → γ → Prop} (f : β → γ) : ∀ {as : List α} {bs : List β}, Paired (fun a b => R a (f b)) as bs → Paired R as (bs.map f)
  | _, _, .nil => .nil
  | _, _, .cons h t => .cons h (prd_map f t)
theorem prd_zip {H : Hp} (n : Str → Int) : ∀ {ts : List Addr} {us : List Str}, Paired (fun t u => H t = some (.tup [.int (n u), .str u])) ts us →
    ∃ zs : List (Addr × Int × Str), ts = zs.map (·.1) ∧ us = zs.map (·.2.2) ∧ ∀ z ∈ zs, z.2.1 = n z.2.2 ∧ H z.1 = some (.tup [.int z.2.1, .str z.2.2])
  | _, _, .nil => ⟨[], rfl, rfl, fun _ h => absurd h List.not_mem_nil⟩
  | _, _, .cons (a := t) (b := u) h r => by
    obtain ⟨zs, e1, e2, e3⟩ := prd_zip n r
    refine ⟨(t, n u, u) :: zs, by rw [e1]; rfl, by rw [e2]; rfl, fun z hz => ?_⟩
    rcases List.mem_cons.mp hz with rfl | hz
    · exact ⟨rfl, h⟩
    · exact e3 z hz
/-- what a dict says of some keys, as tuples in their order -/
structure Picked (H : Hp) (n : Str → Int) (us : List Str) (vs : List (Addr × Int × Str)) : Prop where
  at_ : ∀ z ∈ vs, H z.1 = some (.tup [.int z.2.1, .str z.2.2])
  perm : (vs.map (·.2.2)).Perm us
  up : (vs.map (·.2.2)).Pairwise fun x y => leIS (n x, x) (n y, y)
theorem Picked.same {H H' : Hp} {n : Str → Int} {us : List Str} {vs : List (Addr × Int × Str)} (s : Same H H') (h : Picked H n us vs) : Picked H' n us vs := ⟨fun z hz => s _ _ (h.at_ z hz), h.perm, h.up⟩
theorem Picked.of {H : Hp} {n : Str → Int} {us : List Str} {zs vs : List (Addr × Int × Str)} (hz : ∀ z ∈ zs, z.2.1 = n z.2.2 ∧ H z.1 = some (.tup [.int z.2.1, .str z.2.2])) (e : us = zs.map (·.2.2)) (p : vs.Perm zs) (pw : vs.Pairwise fun a b => leIS a.2 b.2) : Picked H n us vs := by
  refine ⟨fun z h => (hz z (p.mem_iff.mp h)).2, by rw [e]; exact p.map _, ?_⟩
  rw [List.pairwise_map]
  refine pw.imp_of_mem fun {a b} ha hb h => ?_
  have e1 := (hz a (p.mem_iff.mp ha)).1
  have e2 := (hz b (p.mem_iff.mp hb)).1
  rw [← e1, ← e2]
  exact h
theorem at_seq {t u : TS} {D : Ends} {σ : L2.St} {H : Hp} (h : t { D with nx := u D } σ H) : tSeq t u D σ H := h
theorem at_nm {k : Nat} {v : V} {σ : L2.St} {H : Hp} {Q : L2.St → Hp → Prop} (h : Q (σ.set k (some v)) H) : gName k v σ H Q := h
theorem at_as {te : TE} {tg : TG} {D : Ends} {σ : L2.St} {H : Hp} (h : te σ H fun x H1 => tg x σ H1 D.nx) : tAsg te tg D σ H := h
theorem at_rt {te : TE} {D : Ends} {σ : L2.St} {H : Hp} (h : te σ H D.rt) : tRet te D σ H := h
theorem at_cb1 {r : List V → Hp → VK → Prop} {t : TE} {σ : L2.St} {H : Hp} {Q : VK} (h : t σ H fun x H1 => r [x] H1 Q) : tCB r (tCons t tNil) σ H Q := h
theorem at_cons {t : TE} {ts : TA} {σ : L2.St} {H : Hp} {Q : List V → Hp → Prop} (h : t σ H fun x H1 => ts σ H1 fun xs H2 => Q (x :: xs) H2) : tCons t ts σ H Q := h
/-- sorted([(n(k), k) for k in d if b(k)]) -/
theorem pick {K : PySem.W.Frag} {i : Nat} {td : TE} {tt : TT} {te : TE} {σ : L2.St} {H : Hp} {Q : VK} {d : Addr} {W : List (Key × V)} {us : List Str} (st : Str → L2.St) (b : Str → Bool) (n : Str → Int) (hd : H d = some (.dK W)) (hk : W.map (·.1) = us.map Sum.inr) (few : us.length ≤ 900)
    (htd : ∀ H' (Q' : VK), Q' (.ref d) H' → td σ H' Q') (hst : ∀ u, (wipe σ [i]).set i (some (.str u)) = st u) (hw : ∀ u, wipe (st u) [i] = wipe σ [i])
    (ht : ∀ u ∈ us, ∀ od H' (Q' : Bool → Hp → Prop), H' d = some (.frz od (.dK W)) → Q' (b u) H' → tt (st u) H' Q')
    (he : ∀ u ∈ us, ∀ H' (Q' : VK), (∀ T, H' T = none → Q' (.ref T) (upd H' T (.tup [.int (n u), .str u]))) → te (st u) H' Q')
    (q : ∀ (p : Addr) (H' : Hp) (vs : List (Addr × Int × Str)), H p = none → Same H H' → H' p = some (.lst (vs.map fun z => V.ref z.1)) → Picked H' n (us.filter b) vs → Q (.ref p) H') :
    tLockE (tLc (iKeys td) (gName i) tt te [i]) σ H fun x H1 => rSortIS K [x] H1 Q := by
  refine ⟨d, .dK W, hd, trivial, fun od => htd _ _ ⟨d, od, rfl, .inl ⟨W, upd_same, fun D nD => ?_⟩⟩⟩
  obtain ⟨nDd, nD2⟩ := upd_free nD
  have hdf := upd_same (H := H) (a := d) (o := .frz od (.dK W))
  have keep : ∀ c o, c ≠ d → H c = some o → (upd H d (.frz od (.dK W))) c = some o := fun c o hc e => by rw [upd_ne hc]; exact e
  have free : ∀ c, (upd H d (.frz od (.dK W))) c = none → c ≠ d ∧ H c = none := fun c e => upd_free e
  revert hdf keep free nD
  generalize upd H d (.frz od (.dK W)) = Hf
  intro nD hdf keep free
  refine lc_tups walk_keys us V.str st b (fun u => .int (n u)) V.str (keys_len hk) nD (by rw [← keys_len hk]; omega) (fun _ s => s _ _ hdf) (keysY hk) (fun u _ H' Q' _ h => ?_) (fun u _ => hw u) (fun u hu H' Q' s h => ht u hu od H' Q' (s _ _ hdf) h) (fun u hu _ H' Q' s h => he u hu H' Q' h) fun H' ts s hD hp => ⟨s _ _ hdf, ?_⟩
  · show Q' ((wipe σ [i]).set i (some (.str u))) H'
    rw [hst]
    exact h
  · have s2 : Same H (upd H' d (.dK W)) := fun c o e => by
      by_cases hc : c = d
      · rw [hc, upd_same, ← hd, ← hc, e]
      · rw [upd_ne hc]
        exact s _ _ (keep c o hc e)
    obtain ⟨zs, e1, e2, e3⟩ := prd_zip (H := upd H' d (.dK W)) n (hp.mono fun t u h => by rw [upd_ne (free t h.2.1).1]; exact h.1)
    have lz : zs.length ≤ us.length := by
      have := congrArg List.length e2
      rw [List.length_map] at this
      rw [← this]
      exact List.length_filter_le _ _
    refine ⟨D, zs, rfl, SqL.of ?_, by omega, fun z hz => SqT.of (e3 z hz).2, fun p vs np pm pw => ?_⟩
    · rw [upd_ne nDd, hD, e1, List.map_map]
      rfl
    · refine q p _ vs (s2.free np) (s2.trans (same_upd np)) upd_same ?_
      exact (Picked.of e3 e2 pm pw).same (same_upd np)
theorem pk_len {H : Hp} {n : Str → Int} {us : List Str} {b : Str → Bool} {vs : List (Addr × Int × Str)} (h : Picked H n (us.filter b) vs) : vs.length ≤ us.length := by
  have := h.perm.length_eq
  rw [List.length_map] at this
  rw [this]
  exact List.length_filter_le _ _
/-- both halves give the sequence -/
theorem seq_of {H H' : Hp} {ks ls W : List (Key × V)} {us : List Str} {vs vs2 : List (Addr × Int × Str)} {ts : List Addr} (wo : WantOk ks ls us W) (h1 : Picked H (fun u => -(u.length : Int)) (us.filter fun u => !decide (gV ls u = .non)) vs) (h2 : Picked H (fun u => (u.length : Int)) (us.filter fun u => decide (gV ls u = .non)) vs2)
    (hp : Paired (fun t (z : Addr × Int × Str) => H' t = some (.tup [.str z.2.2, gV ls z.2.2])) ts (vs ++ vs2)) :
    ∃ cs, Paired (fun t (c : Str × V) => H' t = some (.tup [.str c.1, c.2])) ts cs ∧ IsSeq ks ls cs (vs.map (·.2.2)) (vs2.map (·.2.2)) := by
  refine ⟨(vs ++ vs2).map fun z => (z.2.2, gV ls z.2.2), prd_map _ hp, ⟨?_, fun y => ?_, fun y => ?_, ?_, ?_, h1.up, h2.up, ?_⟩⟩
  · rw [List.map_append, List.map_map, List.map_map]
    rfl
  · rw [h1.perm.mem_iff, List.mem_filter, wo.mem]
    by_cases e : gV ls y = .non
    · rw [decide_eq_true e]
      exact ⟨fun q => absurd q.2 (by decide), fun q => absurd e q.2⟩
    · rw [decide_eq_false e]
      exact ⟨fun q => ⟨q.1, e⟩, fun q => ⟨q.1, rfl⟩⟩
  · rw [h2.perm.mem_iff, List.mem_filter, wo.mem]
    by_cases e : gV ls y = .non
    · rw [decide_eq_true e]
      exact ⟨fun q => ⟨q.1, e⟩, fun q => ⟨q.1, rfl⟩⟩
    · rw [decide_eq_false e]
      exact ⟨fun q => absurd q.2 (by decide), fun q => absurd q.2 e⟩
  · exact h1.perm.nodup_iff.mpr (wo.nd.filter _)
  · exact h2.perm.nodup_iff.mpr (wo.nd.filter _)
  · rw [h1.perm.length_eq, h2.perm.length_eq]
    have e := wo.few
    have z : ∀ l : List Str, (l.filter fun u => !decide (gV ls u = .non)).length + (l.filter fun u => decide (gV ls u = .non)).length = l.length := fun l => by
      induction l with
      | nil => rfl
      | cons a l ih =>
        by_cases q : gV ls a = .non
        · rw [List.filter_cons_of_neg (by rw [decide_eq_true q]; decide), List.filter_cons_of_pos (by rw [decide_eq_true q]), List.length_cons, List.length_cons]
          omega
        · rw [List.filter_cons_of_pos (by rw [decide_eq_false q]; rfl), List.filter_cons_of_neg (by rw [decide_eq_false q]; decide), List.length_cons, List.length_cons]
          omega
    rw [z us]
    exact e
theorem iteNT {c A B : Prop} [Decidable c] (hc : ¬ c) (h : A) : if (!decide c) = true then A else B := by
  rw [decide_eq_false hc]
  exact iteT h
theorem map_put {us : List Str} {f : Str → V} {u : Str} (h : u ∉ us) : putK (us.map fun x => ((.inr x : Key), f x)) (.inr u) (f u) = (us ++ [u]).map fun x => ((.inr x : Key), f x) := by
  rw [putK_end, List.map_append]
  · rfl
  · rw [List.map_map]
    intro hm
    obtain ⟨y, hy1, hy2⟩ := List.mem_map.mp hm
    exact h (by rw [← Sum.inr.inj hy2]; exact hy1)
theorem notin_take {us : List Str} {i : Nat} {u : Str} (nd : us.Nodup) (h : us[i]? = some u) (b : Str → Bool) : u ∉ (us.take i).filter b := by
  intro hm
  obtain ⟨j, hj, ej⟩ := List.mem_take_iff_getElem.mp (List.mem_filter.mp hm).1
  have h1 : us[j]? = some u := by rw [← ej]; exact List.getElem?_eq_getElem _
  have := (List.getElem?_inj (List.getElem?_eq_some_iff.mp h1).1 nd).mp (h1.trans h.symm)
  omega
theorem rows_map {w : Nat} {xs ys : List Str} {kvs : List (Key × V)} (ok : RowsOk w isTgtV xs kvs) (nd : ys.Nodup) (h : ∀ y ∈ ys, y ∈ xs) : RowsOk w isTgtV ys (ys.map fun u => ((.inr u : Key), gV kvs u)) := by
  refine ⟨by rw [List.map_map]; rfl, ⟨nd, fun y hy => ok.pfx.bits y (h y hy), fun y hy => ok.pfx.len y (h y hy)⟩, fun kv hk => ?_⟩
  obtain ⟨y, hy, rfl⟩ := List.mem_map.mp hk
  rcases gV_tgt ok y with ⟨t, e, ht, _⟩ | ⟨_, e⟩
  · show isTgtV (gV kvs y)
    rw [e]
    exact ht
  · exact absurd (h y hy) e
theorem gV_map {ys : List Str} (f : Str → V) (nd : ys.Nodup) (z : Str) : gV (ys.map fun u => ((.inr u : Key), f u)) z = if z ∈ ys then f z else .non := by
  unfold gV
  by_cases h : z ∈ ys
  · rw [val_keys f nd h, if_pos h]
    rfl
  · rw [if_neg h]
    cases e : valV (ys.map fun u => ((.inr u : Key), f u)) (.inr z) with
    | none => rfl
    | some v =>
      have hm := valV_in e
      rw [List.map_map] at hm
      obtain ⟨y, hy, e2⟩ := List.mem_map.mp hm
      exact absurd hy (by rw [Sum.inr.inj e2]; exact h)
theorem gV_put (kvs : List (Key × V)) (y : Str) (v : V) (z : Str) : gV (putK kvs (.inr y) v) z = if z = y then v else gV kvs z := by
  unfold gV
  rw [valV_put]
  by_cases h : z = y
  · rw [if_pos (by rw [h]), if_pos h]
    rfl
  · rw [if_neg (fun e => h (Sum.inr.inj e)), if_neg h]
theorem mergeK_map {ys : List Str} (f : Str → V) (nd : ys.Nodup) : mergeK [] (ys.map fun u => ((.inr u : Key), f u)) = ys.map fun u => ((.inr u : Key), f u) := by
  rw [mergeK_nd, List.nil_append]
  rw [List.nil_append, List.map_map]
  exact nd.map (fun x : Str => (Sum.inr x : Key)) fun a b h e => h (Sum.inr.inj e)
/-- dict([(k, v(k)) for k in d if b(k)]) -/
theorem redict {K : PySem.W.Frag} {i : Nat} {td : TE} {tt : TT} {te : TE} {σ : L2.St} {H : Hp} {Q : VK} {d : Addr} {W : List (Key × V)} {us : List Str} (st : Str → L2.St) (b : Str → Bool) (f : Str → V) (hd : H d = some (.dK W)) (hk : W.map (·.1) = us.map Sum.inr) (nd : us.Nodup) (few : us.length ≤ 900)
    (htd : ∀ H' (Q' : VK), Q' (.ref d) H' → td σ H' Q') (hst : ∀ u, (wipe σ [i]).set i (some (.str u)) = st u) (hw : ∀ u, wipe (st u) [i] = wipe σ [i])
    (ht : ∀ u ∈ us, ∀ od H' (Q' : Bool → Hp → Prop), H' d = some (.frz od (.dK W)) → Q' (b u) H' → tt (st u) H' Q')
    (he : ∀ u ∈ us, ∀ od H' (Q' : VK), H' d = some (.frz od (.dK W)) → (∀ T, H' T = none → Q' (.ref T) (upd H' T (.tup [.str u, f u]))) → te (st u) H' Q')
    (q : ∀ (p : Addr) (H' : Hp), H p = none → Same H H' → H' p = some (.dK ((us.filter b).map fun u => (.inr u, f u))) → Q (.ref p) H') :
    tLockE (tLc (iKeys td) (gName i) tt te [i]) σ H fun x H1 => rDictP K [x] H1 Q := by
  refine ⟨d, .dK W, hd, trivial, fun od => htd _ _ ⟨d, od, rfl, .inl ⟨W, upd_same, fun D nD => ?_⟩⟩⟩
  obtain ⟨nDd, nD2⟩ := upd_free nD
  have hdf := upd_same (H := H) (a := d) (o := .frz od (.dK W))
  have keep : ∀ c o, c ≠ d → H c = some o → (upd H d (.frz od (.dK W))) c = some o := fun c o hc e => by rw [upd_ne hc]; exact e
  have free : ∀ c, (upd H d (.frz od (.dK W))) c = none → c ≠ d ∧ H c = none := fun c e => upd_free e
  revert hdf keep free nD
  generalize upd H d (.frz od (.dK W)) = Hf
  intro nD hdf keep free
  refine lc_tups walk_keys us V.str st b V.str f (keys_len hk) nD (by rw [← keys_len hk]; omega) (fun _ s => s _ _ hdf) (keysY hk) (fun u _ H' Q' _ h => ?_) (fun u _ => hw u) (fun u hu H' Q' s h => ht u hu od H' Q' (s _ _ hdf) h) (fun u hu _ H' Q' s h => he u hu od H' Q' (s _ _ hdf) h) fun H' ts s hD hp => ⟨s _ _ hdf, ?_⟩
  · show Q' ((wipe σ [i]).set i (some (.str u))) H'
    rw [hst]
    exact h
  · have s2 : Same H (upd H' d (.dK W)) := fun c o e => by
      by_cases hc : c = d
      · rw [hc, upd_same, ← hd, ← hc, e]
      · rw [upd_ne hc]
        exact s _ _ (keep c o hc e)
    refine ⟨D, ts, (us.filter b).map fun u => (.inr u, f u), rfl, SqL.of (by rw [upd_ne nDd]; exact hD), prd_map (R := fun p (kv : Key × V) => SqT K (upd H' d (.dK W)) p [kV kv.1, kv.2]) _ (hp.mono fun t u h => SqT.of (by rw [upd_ne (free t h.2.1).1]; exact h.1)), fun p np => ?_⟩
    rw [mergeK_map f (nd.filter _)]
    exact q p _ (s2.free np) (s2.trans (same_upd np)) upd_same
theorem val_gV {w : Nat} {vok : V → Prop} {xs : List Str} {kvs : List (Key × V)} (ok : RowsOk w vok xs kvs) {u : Str} (h : u ∈ xs) : valV kvs (.inr u) = some (gV kvs u) := by
  have := valV_mem.mpr ((inr_mem ok.keys u).mpr h)
  unfold gV
  cases e : valV kvs (.inr u) with
  | none => rw [e] at this; cases this
  | some v => rfl
theorem cut_strs (xs : List Str) (hi : Option Int) : ∃ us : List Str, cutV (xs.map V.str) none hi = us.map V.str ∧ (∀ u ∈ us, u ∈ xs) ∧ us.length ≤ xs.length := by
  refine ⟨xs.take (HT.sIx xs.length xs.length hi), ?_, fun u hu => List.mem_of_mem_take hu, by rw [List.length_take]; exact Nat.min_le_right _ _⟩
  unfold cutV
  rw [List.length_map]
  show ((xs.map V.str).drop 0).take (_ - 0) = _
  rw [List.drop_zero, Nat.sub_zero, List.map_take]
theorem pen_ne {H : Hp} {p c : Addr} {n : Nat} {m : List V} (h : Pen H p c n m) {a : Addr} {o : HO} (ha : H a = some o) (hl : ∀ xs, o ≠ .lst xs) : a ≠ p ∧ a ≠ c := by
  obtain ⟨ns, i, s, q⟩ := h
  exact ⟨ne_of ha q.at_ (hl _), ne_of ha q.cells (hl _)⟩
theorem pen_put {H : Hp} {p c a : Addr} {n : Nat} {m : List V} {o o' : HO} (h : Pen H p c n m) (ha : H a = some o) (hl : ∀ xs, o ≠ .lst xs) : Pen (upd H a o') p c n m := h.off (pen_ne h ha hl).1 (pen_ne h ha hl).2
theorem preBits {x y : Str} (h : Pre x y) (hb : isBits y = true) : isBits x = true := bits_iff.mpr fun c hc => bits_iff.mp hb c (List.IsPrefix.subset h hc)
theorem gV_no {w : Nat} {xs : List Str} {kvs : List (Key × V)} (ok : RowsOk w isTgtV xs kvs) {y : Str} (h : y ∉ xs) : gV kvs y = .non := by
  rcases gV_tgt ok y with ⟨_, _, _, h2⟩ | ⟨e, _⟩
  · exact absurd h2 h
  · exact e
theorem gV_sorted {w : Nat} {xs ys : List Str} {kvs ks : List (Key × V)} (ok : RowsOk w isTgtV xs kvs) (ok2 : RowsOk w isTgtV ys ks) (hs : Sorted xs kvs ks ys) (y : Str) : gV ks y = gV kvs y := by
  by_cases h : y ∈ xs
  · unfold gV
    rw [hs.val y h]
  · rw [gV_no ok h, gV_no ok2 (fun q => h (hs.perm.mem_iff.mp q))]
theorem gV_or {w : Nat} {xs : List Str} {kvs : List (Key × V)} (ok : RowsOk w isTgtV xs kvs) (y : Str) : gV kvs y = .non ∨ isTgtV (gV kvs y) := by
  rcases gV_tgt ok y with ⟨t, e, h, _⟩ | ⟨e, _⟩
  · exact .inr (by rw [e]; exact h)
  · exact .inl e
theorem gV_iff {w : Nat} {xs : List Str} {kvs : List (Key × V)} (ok : RowsOk w isTgtV xs kvs) (y : Str) : y ∈ xs ↔ gV kvs y ≠ .non := by
  rcases gV_tgt ok y with ⟨t, e, h, h2⟩ | ⟨e, h2⟩
  · exact ⟨fun _ => (by rw [e]; exact fun z => nomatch z), fun _ => h2⟩
  · exact ⟨fun q => absurd q h2, fun q => absurd e q⟩
theorem prd_get {α β : Type} {F : α → β → Prop} : ∀ {l₁ : List α} {l₂ : List β} {j : Nat} {x : α}, Paired F l₁ l₂ → l₁[j]? = some x → ∃ y, l₂[j]? = some y ∧ F x y
  | _, _, j, x, .nil, h => by simp at h
  | _, _, 0, x, .cons (b := y) f _, h => by
    simp only [List.getElem?_cons_zero] at h
    cases h
    exact ⟨y, rfl, f⟩
  | _, _, j + 1, x, .cons _ t, h => by
    simp only [List.getElem?_cons_succ] at h
    obtain ⟨y, h1, h2⟩ := prd_get (j := j) t h
    exact ⟨y, by simpa using h1, h2⟩
/-- rows that say the same are equal dicts -/
theorem eqDA_of {w w2 : Nat} {xs zs : List Str} {ks ls : List (Key × V)} (ok1 : RowsOk w isTgtV xs ks) (ok2 : RowsOk w2 isTgtV zs ls) (h : ∀ y, gV ks y = gV ls y) : ks.length = ls.length ∧ ∀ p ∈ ks, valV ls p.1 = some p.2 ∧ flatB p.2 = true := by
  have pm := perm_of_mem ok1.pfx.nd ok2.pfx.nd fun y => by rw [gV_iff ok1, gV_iff ok2, h]
  refine ⟨by rw [← keys_len ok1.keys, ← keys_len ok2.keys]; exact pm.length_eq, fun p hp => ?_⟩
  obtain ⟨y, e1, _, _, h4⟩ := ok1.acc.all p hp
  have hy : y ∈ xs := (inr_mem ok1.keys y).mp (List.mem_map.mpr ⟨p, hp, e1⟩)
  have v1 := val_gV ok1 hy
  have v2 := valV_some ok1.acc.nd (k := p.1) (v := p.2) hp
  rw [e1, v1] at v2
  have e2 := Option.some.inj v2
  refine ⟨?_, ?_⟩
  · rw [e1, val_gV ok2 (pm.mem_iff.mp hy), ← h, e2]
  · obtain ⟨t, e3, _⟩ := tgt_sm h4
    rw [e3]
    rfl
/-! ### an own exception's __init__: super().__init__(e) of ValueError, then the rest -/
section
variable {P : Program} {w : World} {K : PySem.W.Frag} {mg : Str → Option Value} {base : Heap}
theorem ve_call {X : Cx} {pins : List (Addr × Obj)} {σ : L2.St} {H : Hp} {s : Shared} {a u C : Addr} {E : Value → Shared → Prop} {A : Around} {us : List Value} {Q : Value → Shared → Prop} (T : OexC X.K C) (I : Inv X ((u, PySem.W.kxs_mw "ValueError.__init__" a) :: pins) σ H s) (e : H a = some (exo a C none)) (hl : us.length ≤ sizeLine)
    (h : ∀ s', Inv X pins σ H s' → Q .none s') : wpAny (model X.prog X.w) A (call (.ref u) us) Q E s := by
  obtain ⟨nm, q, N, bs, bm, sn, sub, ab, col, dd, k0, k1, k2, k3, k5, hC, hbm⟩ := T.cls
  obtain ⟨t1, ho⟩ := exo_at I.hok e
  have hu := ClX.pin_at I
  have I' := ClX.unpin I
  obtain ⟨hp, g, d, t, os⟩ := s
  refine wpAny_call (codeAny_of_tree ?_)
  show wpAny _ A.in1 (callAny (.ref u) ⟨us, []⟩) _ _ _
  simp only [callAny]
  refine wpAny_bind (wpAny_load hu ?_)
  simp only [PySem.W.kxs_mw, show (Value.type "method-wrapper" == Value.type "method" || Value.type "method-wrapper" == Value.type "builtin_function_or_method" || Value.type "method-wrapper" == Value.type "method-wrapper") = true by decide, if_true]
  refine PySem.W.KFB.if_so (by decide) ?_
  refine wpAny_bind (PySem.ESX.check_bound F.excBase_ValueError (I.kIn _ _ hC) ho rfl ?_)
  refine wpAny_bind (wpAny_pure (wpAny_pure ?_))
  refine ⟨Code.quiet_builtin _ (by decide +kernel), codeAny_builtin F.excBase_ValueError.initEntry ?_⟩
  rw [Around.under_plainId F.excBase_ValueError.init.plain _]
  wp_walk
  have fin : ∀ h' t1, (∀ b o, b ≠ a → hp.get? b = some o → h'.get? b = some o) → h'.get? a = some (PySem.HandSPX.excO C t1) → Q .none ⟨h', g, d, t, os⟩ := fun h' t2 k hx => by
    have J := I'.write (t' := t) (x := a) (e := a) (o := exo a C none) (by rw [e]; exact True.intro) (.inl rfl) k ⟨_, hx⟩ (exo_ok hx)
    have eu : upd H a (exo a C none) = H := by
      funext b
      by_cases hb : b = a
      · rw [hb, upd_same, e]
      · rw [upd_ne hb]
    rw [eu] at J
    exact h _ J
  refine fin _ hp.objs.size (fun b o hb ho => ?_) ?_
  · rw [Heap.get?_update_other _ _ (Ne.symm hb)]
    exact Heap.get?_push_of_some _ ho
  · rw [Heap.get?_update_self _ (Heap.get?_push_of_some _ ho) rfl]
    rfl
theorem ok_esuper {x qual : Str} {st : Stmt} {f C : Addr} {fd : FuncData} {ps : List Str} {k : Nat} {file self : Str} {sp : Sp} {rest : List Stmt} {e : Expr} {es : List Expr} {p0 p1 ap pos sps : Pos}
    (FS : FunS K file x qual st f C fd) (S : ScS ps (defScope st)) (T : OexC K C) (hsub : PySem.W.mroIn K C (.ref C) = some true) (hm : PySem.W.ks_superIn K C C "__init__" = some (some (.builtin "ValueError.__init__"))) (hB : PySem.W.subIn K (.ref C) (.type "ValueError") = some true)
    (hop : PySem.W.nsIn K cStatics "thirdparty.any" = some none) (hsu : mg "super" = none)
    (hfile : ((P.main.file : Str) == file) = true) (htop : (P.main.scope.names.lookup ("super" : Str)).isSome = false)
    (hb : defBody st = .Expr (.Call (.Attribute (.Call (.Name "super" p0) [] [] p1) "__init__" ap) (e :: es) [] pos) sps :: rest) (hself : ∃ ar, ((defArgs st).posonlyargs ++ (defArgs st).args).head? = some ar ∧ ar.arg = self) (h0 : ps[0]? = some self)
    (hev : ∀ env, ∃ pl, eval (.Call (.Attribute (.Call (.Name "super" p0) [] [] p1) "__init__" ap) (e :: es) [] pos) env = (do
      let ov ← attributeBase (.Call (.Name "super" p0) [] [] p1) "__init__" env (eval (.Call (.Name "super" p0) [] [] p1) env)
      standAt ap.atName
      let (g, first) ← holding [ov] (getMethod ov "__init__" pl)
      callWith pos g first (backTo pos (starEach (e :: es) env)) []))
    (hsw : ∀ env, swapsWith (.Call (.Attribute (.Call (.Name "super" p0) [] [] p1) "__init__" ap) (e :: es) [] pos) none sps.line env = pure false)
    (hst : ∀ env, starEach (e :: es) env = (false, eval e env) :: starEach es env) (hpl : ∀ env, (backTo pos (starEach es env)).any (·.1) = false)
    (many : ∀ vs H Q E, sp vs H Q E → vs.length = ps.length) (hE : ∀ {vs H Q E}, sp vs H Q E → sp vs H Q E0)
    (want : ∀ (A : Around) (cda cc : Addr) (outer : List Env) (s : Shared) (H : Hp) (vs : List V) (Q : VK), Room (k + 1) A → sp vs H Q E0 → ∃ (a : Addr) (t : TA) (u : TS), vs[0]? = some (.ref a) ∧ H a = some (exo a C none) ∧ PA (cxS P w K mg base ps qual (defScope st) f (.ref cda) cc A outer s H) (e :: es) t ∧
      PSs (cxS P w K mg base ps qual (defScope st) f (.ref cda) cc A outer s H) rest u ∧ t (vs.map some) H (fun ws H1 => ws.length ≤ 1000 ∧ H1 a = some (exo a C none) ∧ u { nx := fun _ H' => Q .non H', rt := Q } (vs.map some) H1)) :
    FnOk P w K mg base CX0 (k + 1) f fd ps sp := by
  refine ⟨many, fun A outer s H args us vs Q E hr e0 bind rel hsp => ?_⟩
  obtain ⟨oc, od, kV, doc, pm, an, cda, cc, ct, osl, ck, cdd, cvs, ccs, tf, lk, ld, ls, rfl, lf, hcode, lcda, hvs, lcc⟩ := FS.ex
  have old : ∀ b o, base.get? b = some o → s.heap.get? b = some o := fun b o e => (e0.bs b o e).1
  have KX : K.In s.heap := e0.mod.kin.keeps old
  have lim : s.heap.NoLimit := e0.mod.nolimit.keeps old
  refine ks_codeAny_call_defAt (body := defBody st) (binds := ps.zip us) hr.depth (KX _ _ lf) rfl lim (PySem.W.codeRec_of KX hcode) rfl bind S.nocell (fun y hy => S.par _ (List.of_mem_zip (a := y.1) (b := y.2) hy).1) (fun h1 ns hk => ?_) S.co S.gen S.kind
  have I := inv_super (qual := qual) (f := f) (cd := .ref cda) (tk := s.toks + (ps.zip us).length) S hr.hd e0 (many _ _ _ _ hsp) rel lcc ns hk
  obtain ⟨x, t, u, hx0, hx, pa, pr, q⟩ := want A cda cc outer s H vs Q hr (hE hsp)
  obtain ⟨t1, hox⟩ := exo_at I.hok hx
  have J : PySem.W.InstAt h1 x _ C none := ⟨hox, rfl, rfl, trivial⟩
  obtain ⟨nm, qn, N, bs, bm, sn, sub, ab, col, dd, k0, k1, k2, k3, k5, hC, hbm⟩ := T.cls
  obtain ⟨cdC, hcC⟩ : ∃ cdC, PySem.W.clsIn K C = some cdC := by
    cases z : PySem.W.clsIn K C with
    | some c => exact ⟨c, rfl⟩
    | none =>
      unfold PySem.W.ks_superIn at hm
      rw [z] at hm
      cases hm
  have KX1 := I.kIn
  obtain ⟨oD, hD1, hD2⟩ : ∃ oD, h1.get? C = some oD ∧ oD.data = .cls cdC := by
    have hcD' := hcC
    unfold PySem.W.clsIn at hcD'
    split at hcD'
    · rename_i ho
      cases hcD'
      exact ⟨_, KX1 _ _ ho, rfl⟩
    · cases hcD'
  obtain ⟨mb, hb1, hb2⟩ := I.mod.blt
  obtain ⟨ar, har, ear⟩ := hself
  obtain ⟨ux, hux, rux⟩ := rel.get hx0
  obtain rfl : ux = Value.ref x := rux
  have hm' : PySem.W.alongIn K "__init__" ((cdC.mro.dropWhile (· != .ref C)).drop 1) = some (some (.builtin "ValueError.__init__")) := by
    unfold PySem.W.ks_superIn at hm
    rw [hcC] at hm
    exact hm
  have key : PySem.wpAt (model P w) (cxS P w K mg base ps qual (defScope st) f (.ref cda) cc A outer s H).A (.func (defBody st) (cxS P w K mg base ps qual (defScope st) f (.ref cda) cc A outer s H).env) (execs (defBody st) (cxS P w K mg base ps qual (defScope st) f (.ref cda) cc A outer s H).env)
      (SP (cxS P w K mg base ps qual (defScope st) f (.ref cda) cc A outer s H) [] { nx := fun _ H' => Q .non H', rt := Q }) (fun _ _ => False) { s with heap := h1, toks := s.toks + (ps.zip us).length } := by
    have e1 := congrArg (fun b => execs b (cxS P w K mg base ps qual (defScope st) f (.ref cda) cc A outer s H).env) hb
    rw [show execs (defBody st) (cxS P w K mg base ps qual (defScope st) f (.ref cda) cc A outer s H).env = _ from e1]
    obtain ⟨pl, epl⟩ := hev (cxS P w K mg base ps qual (defScope st) f (.ref cda) cc A outer s H).env
    refine ks_wpAt_execs_cons (ks_wpAt_Expr_any (ks_wpAt_MethodCall ?_ epl) (by show ((defScope st).kind == .module && _) = false; rw [S.kind]; rfl) (hsw _))
    refine ks_wpAt_super_base S.sup S.cls (by decide) rfl (KX1 _ _ lf) rfl har rfl (KX1 _ _ lcda) rfl hvs hfile htop ?_
    refine PySem.W.ks_loadName_global S.kind S.sup (PySem.Calls.loadGlobal_builtin (I.mod.glob.keeps I.bk) hsu (hb1.keeps I.bk) ((hb2 _ (by decide)).trans (by rfl)) ⟨rfl, ?_⟩)
    refine wpAny_loadName_free S.kind S.cls rfl ⟨_, KX1 _ _ lcc, rfl⟩ ?_
    refine wpAny_loadName_local S.kind (by rw [ear]; exact S.par self (List.mem_of_getElem? h0)) ns (by rw [ear]; exact rev_get S.nd h0 hux) ?_
    refine ks_wpAny_isType_cls hD1 hD2 ⟨rfl, ?_⟩
    refine ks_wpAny_call_super hD1 hD2 J.at_ J.cls (fun c e => ?_) (PySem.W.looks_mroIn KX1 hsub) (fun h' e ke => ?_)
    · have z := J.no
      unfold PySem.W.notCls at z
      rw [e] at z
      cases z
    have I1 := ClX.pin_new (t' := s.toks + (ps.zip us).length) I ke (Nat.le_refl _) e (fun v z => nomatch z)
    have J1 : PySem.W.InstAt h' x _ C none := ⟨ke _ _ hox, rfl, rfl, trivial⟩
    have hI : PySem.W.Looks (model P w) h' (isInstance (.ref x) (.type "ValueError")) true := J1.type.andThen (PySem.W.looks_subIn I1.kIn hB)
    refine PySem.W.kxs_getMethod PySem.W.kxs_ValueError e (PySem.W.looks_opaque I1.kIn hop) (l₀ := cdC.mro) (fun A Q E s k q => wpAny_bind ((PySem.W.looks_clsIn I1.kIn hcC) A _ E s k (wpAny_pure q))) rfl I1.kIn hm' hI (PySem.W.ks_ne KX1 J hcC) (by decide) ?_
    have I2 := ClX.pin_new (t' := s.toks + (ps.zip us).length + 1) (h' := h'.push (PySem.W.kxs_mw "ValueError.__init__" x)) I1 (fun _ _ z => Heap.get?_push_of_some _ z) (Nat.le_refl _) (Heap.get?_push_size _ rfl) (fun v z => nomatch z)
    dsimp only
    have hst' := hst (cxS P w K mg base ps qual (defScope st) f (.ref cda) cc A outer s H).env
    have hpl' := hpl (cxS P w K mg base ps qual (defScope st) f (.ref cda) cc A outer s H).env
    rw [hst']
    refine PySem.W.kxs_callWith (i := "ValueError.__init__") (x := x) (by show (false || (backTo pos (starEach es _)).any (·.1)) = false; rw [hpl']; rfl) ?_
    refine PySem.Calls.evalArgs_plain ?_
    have z := pa.run pos _ _ _ H _ I2 q
    rw [hst'] at z
    refine thn z fun ws s3 ⟨zs, H2, I3, rv, hl, ea, q2⟩ => ⟨ClX.pin_at I3, ?_⟩
    refine ve_call T I3 ea (by show ws.length ≤ _; rw [← Paired.length rv, sizeLine_eq]; omega) fun s4 I4 => ?_
    exact PySem.wpAt_of_wpAny (pr.run [] _ _ H2 _ (ClX.unpin I4) q2)
  refine ks_wpAt_mono key (fun fl s' hs => ?_) fun _ _ z => False.elim z
  cases fl with
  | ret v =>
    obtain ⟨v', σ', H', J, rv, q⟩ := hs
    exact ⟨v', H', J.os, J.bare, J.base, J.hok, rv, q⟩
  | next =>
    obtain ⟨σ', H', J, q⟩ := hs
    exact ⟨V.non, H', J.os, J.bare, J.base, J.hok, rfl, q⟩
  | brk =>
    obtain ⟨_, _, _, q⟩ := hs
    exact q.elim
  | cont =>
    obtain ⟨_, _, _, q⟩ := hs
    exact q.elim
end
/-! ### a kept exception with a dict: isinstance, a field of it -/
section
open PySem.W PySem.Calls
variable {prog : Program} {w : World} {K : PySem.W.Frag} {x D : Addr} {ox : Obj} {od : Option Obj}
theorem findObj_dataD {C : Addr} {name : Str} {a g : Value} (hc : (clsIn K C).isSome = true) (ha : findIn K (.ref C) name = some (some a)) (hg : specialIn K a "__get__" = some (some g)) (ht : takesIn K a = some true) : findObj K C od name = some (.bind g a) := by
  cases z : clsIn K C with
  | none => rw [z] at hc; cases hc
  | some cd =>
    unfold findObj
    rw [z, Option.bind_some, ha, Option.bind_some]
    simp [hg, ht]
theorem class_excD {A : Around} {E : Value → Shared → Prop} {s : Shared} {Q : Option Value → Shared → Prop} (C : ExcC K D) (X : K.In s.heap) (I : InstAt s.heap x ox D od) (h : Q (some (.ref D)) { s with toks := s.toks + 1 }) : wpAny (model prog w) A (getAttr? (.ref x) "__class__") Q E s := by
  have hf : findObj K D od "__class__" = some (.bind (.builtin "getset_descriptor.__get__") (.builtin "object.__class__")) := findObj_dataD (by obtain ⟨cd, hc, _⟩ := any_some C.hd; rw [hc]; rfl) C.ha C.hn C.ht
  obtain ⟨hp, g, d, t, os⟩ := s
  have ty := I.type (M := model prog w)
  have sub : Looks (model prog w) hp (isInstance (.ref x) (.type "BaseException")) true := ty.andThen (looks_subIn X C.hs)
  have no : ¬ ((onTheHeap (Value.ref D) && Value.builtin "BaseException.__getattribute__" == Value.builtin "object.__getattribute__") = true) := by
    rw [show (Value.builtin "BaseException.__getattribute__" == Value.builtin "object.__getattribute__") = false by decide +kernel]
    exact Bool.false_ne_true
  unfold getAttr? getAttrBy? getAttrBy
  refine wpAny_bind (wpAny_mkText (wpAny_bind (wpAny_attempt (wpAny_holding (wpAny_bind (ty.at (wpAny_bind ((looks_findIn X C.hg).at ?_))))))))
  show wpAny _ _ (if (onTheHeap (Value.ref D) && Value.builtin "BaseException.__getattribute__" == Value.builtin "object.__getattribute__") = true then _ else _) _ _ _
  rw [if_neg no]
  unfold getAttrByItsOwn hookBefore
  refine wpAny_bind ?_
  rw [if_pos (show onTheHeap (Value.ref D) = true from rfl)]
  refine (looks_findIn X C.hk).at (wpAny_bind (wpAny_attempt (wpAny_holding ?_)))
  unfold callGetattribute
  rw [show (false && onTheHeap (Value.builtin "BaseException.__getattribute__")) = false from rfl, if_neg Bool.false_ne_true]
  unfold boundAndCalled
  rw [PySem.F.excAttr_ValueError.ga.bind (.ref x)]
  refine wpAny_bind (wpAny_pure ?_)
  show wpAny _ _ (call (.builtin "BaseException.__getattribute__") [.ref x, .str "__class__" t]) _ _ _
  refine wpAny_call (codeAny_call_builtin PySem.F.excAttr_ValueError.ga.plain PySem.F.entry_bexc_ga ?_)
  refine @check_slot (model prog w) _ _ ⟨hp, g, d, t + 1, os⟩ "BaseException.__getattribute__" "BaseException" "__getattribute__" (.ref x) [.str "__class__" t] [] _ (by decide +kernel) (by decide +kernel) sub (PySem.F.args_bexc_ga (.ref x) (.str "__class__" t)) ?_
  unfold Builtin.«object.__getattribute__»
  refine wpAny_bind (wpAny_of_eq (a := ((Value.ref x : Value), [Value.str "__class__" t])) (by first | rfl | (simp only [slotArgs]; rfl)) ?_)
  refine wpAny_bind (wpAny_pure (wpAny_bind (ty.at (wpAny_bind ((looks_find X I hf).at ?_)))))
  show wpAny _ _ (holding [Value.builtin "object.__class__"] (call (.builtin "getset_descriptor.__get__") [.builtin "object.__class__", .ref x, .ref D]) >>= ret) _ _ _
  refine wpAny_bind (wpAny_holding (wpAny_call (class_get (s := ⟨hp, g, d, t + 1, os⟩) (ox := ox) (od := od) X I C.hm ?_)))
  refine wpAny_pure ?_
  show wpAny _ _ (handedOut (.ref D)) _ _ _
  rw [handedOut_of (v := .ref D) rfl]
  first
    | exact wpAny_pure (wpAny_pure h)
    | exact wpAny_pure h
    | exact wpAny_pure (wpAny_bind (wpAny_pure (wpAny_pure h)))
theorem kitx_excD (C : ExcC K D) : KitX K (.ref x) (.ref D) (fun h => InstAt h x ox D od) :=
  have Z := PySem.W.handS_kitx_exc (x := x) (ox := ox) C.hg C.hk C.hs C.hd C.ha C.hn C.ht C.hm
  { ty := fun _ _ _ I => I.type
    it := fun M h X _ => by
      obtain ⟨cdD, hcD, _⟩ := any_some C.hd
      unfold clsIn at hcD
      split at hcD
      · rename_i c' d' cd' sl' ho
        intro A' Q' E' s' k q
        unfold isType loadHead
        exact wpAny_bind (wpAny_loadPart (k _ _ (X _ _ ho)) (wpAny_pure q))
      · cases hcD
    ne := Z.ne
    ca := fun X I k => class_excD C X I k }
end
theorem exK_instD {X : Cx} {pins : List (Addr × Obj)} {σ : L2.St} {H : Hp} {s : Shared} {a D dd : Addr} {fs : List (Str × V)} (I : Inv X pins σ H s) (ha : H a = some (ExK (.ref D) (some dd) a)) (hd : H dd = some (.xd fs)) :
    ∃ oe od, PySem.W.InstAt s.heap a oe D (some od) ∧ oe.cls = .ref D ∧ ∃ mA : Str → Option Value, (∀ n, PySem.W.lookIn n od = some (mA n)) ∧ ∀ f, RelO (fs.lookup f) (mA f) := by
  obtain ⟨⟨oe, vs, g1, z1, d1⟩, _⟩ := (show ObjOk X.prog X.w H s.heap a (ExK (.ref D) (some dd) a) from I.hok a _ ha)
  have hx : ObjOk X.prog X.w H s.heap dd (.xd fs) := I.hok dd _ hd
  obtain ⟨mA, hns, hr⟩ := hx
  obtain ⟨od, ho, hl⟩ := lookIn_ns hns
  refine ⟨oe, od, ?_, z1.1, mA, hl, hr⟩
  obtain ⟨oc, od', oda, osl⟩ := oe
  obtain ⟨h1, h2⟩ := z1
  dsimp only at h1 h2 d1
  subst h1 h2 d1
  exact ⟨g1, rfl, rfl, ho⟩
def rIsXd (K : PySem.W.Frag) : List V → Hp → VK → Prop := fun xs H Q => ∃ (a D dd : Addr) (fs : List (Str × V)) (c : V) (u : Value) (b : Bool), xs = [.ref a, c] ∧ H a = some (ExK (.ref D) (some dd) a) ∧ H dd = some (.xd fs) ∧ ExcC K D ∧ ClsV c u ∧ PySem.W.kitOne K (.ref D) u = some b ∧ Q (.bl b) H
theorem call_isXd {X : Cx} : CallR X (.builtin "isinstance") (rIsXd X.K) := by
  intro pins s σ H xs us Q I r h
  obtain ⟨a, D, dd, fs, c, u, b, rfl, ha, hd, C, k, e, q⟩ := h
  obtain ⟨u1, u2, rfl, r1, r2⟩ := vals2 r
  have e2 := k.eq r2
  subst e2
  cases (show u1 = Value.ref a from r1)
  obtain ⟨oe, od, J, _⟩ := exK_instD I ha hd
  exact PySem.W.kia_one (kitx_excD C) I.kIn J e (fun z => nomatch z) fun tk => ⟨.bl b, H, I.tok tk, rfl, q⟩
/-- e.n, e a kept exception -/
def tXfK (K : PySem.W.Frag) (n : Str) (te : TE) : TE := fun σ H Q => te σ H fun x H1 => ∃ (a C dd : Addr) (fs : List (Str × V)) (v : V), x = .ref a ∧ H1 a = some (ExK (.ref C) (some dd) a) ∧ H1 dd = some (.xd fs) ∧ XfC K C ∧ PySem.W.findIn K (.ref C) n = some none ∧ fs.lookup n = some v ∧ Q v H1
theorem pe_xfK {X : Cx} {e : Expr} {te : TE} {pos : Pos} {n : Str} (he : PE X e te) (hb : attributeBase e n X.env (eval e X.env) = eval e X.env := by rfl) : PE X (.Attribute e n pos) (tXfK X.K n te) := by
  refine ⟨fun pins s σ H Q I h => ?_⟩
  refine attr_of hb (thn (he.run pins s σ H _ I h) fun u s1 hh => ?_)
  obtain ⟨x, H1, I1, rx, a, C, dd, fs, v, ex, ea, ed, T, hno, l, q⟩ := hh
  subst ex
  obtain rfl : u = Value.ref a := rx
  obtain ⟨oe, od, J, _, mA, hl, hr⟩ := exK_instD I1 ea ed
  obtain ⟨u, hu, ru⟩ := RelO.some_of (v := v) (o := mA n) (by rw [← l]; exact hr n)
  exact HandSPX.exc_get I1.kIn J T.ga T.gg T.exC (PySem.W.findObj_own T.hdC hno rfl (by rw [hl, hu])) (handed_of ru) ⟨v, H1, I1.tok _, ru, q⟩
/-! ### an own exception class with an __init__ that keeps one number -/
/-- what the written part says of the class, as one word -/
def oexB (K : PySem.W.Frag) (C : Addr) : Bool := match K.lookup C with
  | some ⟨.type "type", _, .cls cd, sl⟩ => (match cd.mro, sl.toList with
    | .ref C' :: bm, [_, _, _, _, some (.builtin n), _] => C' == C && n == "ValueError.__new__" && !cd.hasDel && cd.hasDict && PySem.HandSPX.refsVE bm
    | _, _ => false)
  | _ => false
theorem oexC_of {K : PySem.W.Frag} {C : Addr} (q : oexB K C = true) (sa : PySem.W.findIn K (.ref C) "__setattr__" = some (some (.builtin "object.__setattr__"))) (exC : PySem.W.subIn K (.ref C) (.type "BaseException") = some true) (tyC : PySem.W.typeIn K (.ref C) = some (.type "type")) (kC : PySem.W.keepIn K (.ref C) = true) : OexC K C := by
  refine ⟨?_, sa, exC, tyC, kC⟩
  unfold oexB at q
  split at q
  · rename_i dd cd sl ho
    split at q
    · rename_i C' bm k0 k1 k2 k3 n k5 hm hs
      simp only [Bool.and_eq_true, beq_iff_eq, Bool.not_eq_true'] at q
      obtain ⟨⟨⟨⟨rfl, rfl⟩, hdel⟩, hdict⟩, ht⟩ := q
      obtain ⟨nm, bs, mro, ns, qn, hd, sn, sub, ab, col, del⟩ := cd
      dsimp only at hm hdel hdict
      subst hm hdel hdict
      have hsl : sl = #[k0, k1, k2, k3, some (.builtin "ValueError.__new__"), k5] := by
        obtain ⟨l⟩ := sl
        simp only at hs
        rw [hs]
      subst hsl
      exact ⟨nm, qn, ns, bs, bm, sn, sub, ab, col, dd, k0, k1, k2, k3, k5, ho, ht⟩
    · cases q
  · cases q
def spExI (C : Addr) (f : Str) : Sp := fun vs H Q _ => ∃ (a : Addr) (n : Int), vs = [.ref a, .int n] ∧ n.natAbs.log2 < 1920 ∧ (toString n : Str).length ≤ 900 ∧ H a = some (exo a C none) ∧ ∀ d, H d = none → d ≠ a → Q .non (upd (upd H d (exd d [(f, .int n)])) a (exo a C (some d)))
theorem raise_int {C : Addr} {f : Str} {n : Int} {H : Hp} {Q : XK} (h1 : n.natAbs.log2 < 1920) (h2 : (toString n : Str).length ≤ 900) (h : ∀ d, H d = none → Q (.ref C) (some d) (upd H d (.xd [(f, .int n)]))) :
    ([V.int n]).length ≤ 1000 ∧ ∀ a, H a = none → spExI C f (.ref a :: ([V.int n] ++ [])) (upd H a (exo a C none))
      (fun v H2 => v = .non ∧ ∃ (d : Addr) (fs : List (Str × V)), H2 a = some (exo a C (some d)) ∧ H2 d = some (exd d fs) ∧ H d = none ∧ Q (.ref C) (some d) (upd (del H2 a) d (.xd fs))) (fun _ _ _ => False) := by
  refine ⟨by show 1 ≤ 1000; decide, fun a na => ⟨a, n, rfl, h1, h2, upd_same, fun d nd ne => ⟨rfl, d, _, upd_same, by rw [upd_ne ne, upd_same], by rw [upd_ne ne] at nd; exact nd, ?_⟩⟩⟩
  rw [upd_ne ne] at nd
  have e : upd (del (upd (upd (upd H a (exo a C none)) d (exd d [(f, .int n)])) a (exo a C (some d))) a) d (.xd [(f, .int n)]) = upd H d (.xd [(f, .int n)]) := by
    funext b
    by_cases hb : b = d
    · rw [hb, upd_same, upd_same]
    · rw [upd_ne hb, upd_ne hb]
      by_cases ha : b = a
      · rw [ha, del_same, na]
      · rw [del_ne ha, upd_ne ha, upd_ne hb, upd_ne ha]
  rw [e]
  exact h d nd
/-! ### the wish that the tables with the same meaning fulfil -/
def strO : Option V → Option Str
  | some (.str t) => some t
  | _ => none
def tabR (xs : List Str) (kvs : List (Key × V)) : WRows := xs.map fun y => (y, [strO (valV kvs (.inr y))])
def exR (xs : List Str) (kvs : List (Key × V)) : WRows := if ("" : Str) ∈ xs then tabR xs kvs else tabR xs kvs ++ [(("" : Str), [none])]
theorem tabR_keys (xs : List Str) (kvs : List (Key × V)) : (tabR xs kvs).map (·.1) = xs := by
  unfold tabR
  rw [List.map_map]
  exact List.map_id' _
theorem val_tgt {w : Nat} {xs : List Str} {kvs : List (Key × V)} (ok : RowsOk w isTgtV xs kvs) {y : Str} (hy : y ∈ xs) : ∃ t, valV kvs (.inr y) = some (.str t) ∧ isT t = true := by
  obtain ⟨v, hv, hm⟩ := val_at ok.keys hy
  have := ok.val _ hm
  obtain ⟨t, rfl, _⟩ := tgt_str this
  exact ⟨t, hv, this⟩
theorem tabR_ok {w : Nat} {xs : List Str} {kvs : List (Key × V)} (ok : RowsOk w isTgtV xs kvs) : RowsW isT w (tabR xs kvs) := by
  refine ⟨by rw [tabR_keys]; exact ok.pfx, fun r hr => ?_⟩
  obtain ⟨y, hy, rfl⟩ := List.mem_map.mp hr
  obtain ⟨t, ht, tt⟩ := val_tgt ok hy
  refine ⟨List.nodup_cons.mpr ⟨List.not_mem_nil, List.nodup_nil⟩, fun o ho => ?_, by show 1 ≤ 40; decide⟩
  rw [List.mem_singleton.mp ho, ht]
  exact tt
theorem exR_ok {w : Nat} {xs : List Str} {kvs : List (Key × V)} (ok : RowsOk w isTgtV xs kvs) : RowsW isT w (exR xs kvs) := by
  have h := tabR_ok ok
  unfold exR
  split
  · exact h
  · rename_i hn
    refine ⟨?_, fun r hr => ?_⟩
    · rw [List.map_append, tabR_keys]
      refine ⟨List.nodup_append.mpr ⟨ok.pfx.nd, List.nodup_cons.mpr ⟨List.not_mem_nil, List.nodup_nil⟩, fun a ha b hb e => hn ?_⟩, fun x hx => ?_, fun x hx => ?_⟩
      · have e : a = ("" : Str) := by rw [e, List.mem_singleton.mp hb]
        rw [← e]
        exact ha
      · rcases List.mem_append.mp hx with hx | hx
        · exact ok.pfx.bits x hx
        · rw [List.mem_singleton.mp hx]
          exact bits_empty
      · rcases List.mem_append.mp hx with hx | hx
        · exact ok.pfx.len x hx
        · rw [List.mem_singleton.mp hx]
          exact Nat.zero_le _
    · rcases List.mem_append.mp hr with hr | hr
      · exact h.ok r hr
      · rw [List.mem_singleton.mp hr]
        exact ⟨List.nodup_cons.mpr ⟨List.not_mem_nil, List.nodup_nil⟩, fun o ho => by rw [List.mem_singleton.mp ho]; trivial, by show 1 ≤ 40; decide⟩
theorem exR_len (xs : List Str) (kvs : List (Key × V)) : (exR xs kvs).length ≤ xs.length + 1 := by
  unfold exR
  have e : (tabR xs kvs).length = xs.length := List.length_map _
  split
  · omega
  · rw [List.length_append, e]
    exact Nat.le_refl _
theorem InVal.keep {K : PySem.W.Frag} {H H' : Hp} {d : Addr} {kvs : List (Key × V)} {rows : WRows} {k0 : List (Key × V)} (hd : H d = some (.dK k0)) (s : ∀ b o, b ≠ d → H b = some o → H' b = some o) (h : InVal K H kvs rows) : InVal K H' kvs rows := h.mono fun _ _ ⟨e, a, e2, ha⟩ => ⟨e, a, e2, by
  rcases ha with ((h | ⟨o, h⟩) | h) | ((h | ⟨o, h⟩) | h)
  · exact .inl (.inl (.inl (s _ _ (ne_of h hd (fun z => nomatch z)) h)))
  · exact .inl (.inl (.inr ⟨o, s _ _ (ne_of h hd (fun z => nomatch z)) h⟩))
  · exact .inl (.inr h)
  · exact .inr (.inl (.inl (s _ _ (ne_of h hd (fun z => nomatch z)) h)))
  · exact .inr (.inl (.inr ⟨o, s _ _ (ne_of h hd (fun z => nomatch z)) h⟩))
  · exact .inr (.inr h)⟩
/-! ### a new dict that is walked: it stays as it is from now on -/
def tFrz (td : TE) : TE := fun σ H Q => td σ H fun x H1 => ∃ d kvs, x = .ref d ∧ H1 d = some (.dK kvs) ∧ ∀ od, Q (.ref d) (upd H1 d (.frz od (.dK kvs)))
theorem pe_frz {X : Cx} {e : Expr} {td : TE} (h : PE X e td) : PE X e (tFrz td) := by
  refine ⟨fun pins s σ H Q I hw => thn (h.run pins s σ H _ I hw) fun u s1 ⟨x, H1, I1, rx, d, kvs, ex, hd, q⟩ => ?_⟩
  subst ex
  obtain ⟨od, I2⟩ := I1.lock hd trivial
  exact ⟨.ref d, _, I2, rx, q od⟩
/-! ### y = {k: v for ..} as a statement of its own -/
theorem swd_true {kx vx : Expr} {gs : List Comprehension} {scope : Scope} {pos py : Pos} {y : Str} {l : Nat} {env : Env} (hk : env.scope.kind = .function) (hy : env.scope.names.lookup y = some .local) (hl : (py.line == pos.line) = true)
    (ha : (scope.names.any fun (n, k) => n == y && (k == .local || k == .cell)) = false) : swapsWith (.DictComp kx vx gs scope pos) (some (.Name y py)) l env = pure true := by
  have ky : env.kindOf y = some .local := hy
  have hb : env.blockKind = .function := by unfold Env.blockKind; rw [hk]; rfl
  unfold swapsWith
  simp only [hb, ky, ha, Expr.pos, hl]
  rfl
section
variable {X : Cx}
theorem ps_setDc {i : Nat} {y : Str} {py : Pos} {kx vx tg iter : Expr} {ifs : List Expr} {scope : Scope} {own : List (Str × Nat)} {pos spos : Pos} {wi : TI} {g : TG} {tt : TT} {tk tv : TE} (hc : X.calm = true) (hN : X.N.Nodup) (hy : X.N[i]? = some y) (hyl : X.env.scope.names.lookup y = some .local)
    (hsw : swapsWith (.DictComp kx vx [⟨tg, iter, ifs, 0⟩] scope pos) (some (.Name y py)) spos.line X.env = pure true) (hi : PI X tg iter wi) (ok : BlkOk X.N X.env.scope scope own)
    (hg : ∀ (s : Shared) (H : Hp) (C : Addr) (cl : List (Str × Addr)) (fp : List Addr), PG (X.blk s H scope (compEnvC scope cl C X.env) fp) tg g) (ht : ∀ (s : Shared) (H : Hp) (C : Addr) (cl : List (Str × Addr)) (fp : List Addr), PTs (X.blk s H scope (compEnvC scope cl C X.env) fp) ifs tt)
    (hk : ∀ (s : Shared) (H : Hp) (C : Addr) (cl : List (Str × Addr)) (fp : List Addr), PE (X.blk s H scope (compEnvC scope cl C X.env) fp) kx tk)
    (he : ∀ (s : Shared) (H : Hp) (C : Addr) (cl : List (Str × Addr)) (fp : List Addr), PE (X.blk s H scope (compEnvC scope cl C X.env) fp) vx tv) (hs : ∀ x, foldedSetIterable iter X.env x = pure x := by intro _; rfl) :
    PS X (.Assign [.Name y py] (.DictComp kx vx [⟨tg, iter, ifs, 0⟩] scope pos) spos) (tAsg (tDc wi g tt tk tv (own.map (·.2))) (gName i)) := by
  refine ⟨fun pins s σ H D I h => ?_⟩
  rw [exec_Assign_Name_used _ _ _ _ hsw]
  refine wpAny_bind (wpAny_standAt (wpAny_bind ?_))
  show wpAny _ X.A (do let _ ← comprehension (.DictComp kx vx [⟨tg, iter, ifs, 0⟩] scope pos) scope X.env (firstIterPos [⟨tg, iter, ifs, 0⟩] pos) newDict false (eval iter X.env) (some (assign (.Name y py) X.env))) _ _ s
  have h : tDc wi g tt tk tv (own.map (·.2)) σ H (fun x H1 => gName i x σ H1 D.nx) := h
  refine wpAny_bind (thn (dc_core (Qf := fun _ s' => SP X pins D .next s') hc hN I hi ok hg ht hk he hs h fun L C s' m H' I' q hn f => ?_) fun _ s' hq => wpAny_pure (wpAny_pure hq))
  show wpAny _ _ (assign (.Name y py) X.env (.ref L)) _ _ _
  refine wpAny_assign_Name (store_ok2 (v := V.ref L) I' hN hy (.inl hyl) rfl (fun s2 I2 ⟨a, sb, ha⟩ => ?_) (.inr hyl))
  obtain ⟨f0, f1, f2, f3, f4, f5⟩ := f
  have haC : C ≠ a := by
    rcases ha with z | z
    · rw [z]; exact f1
    · exact fun e => f4 y a z e.symm
  refine ⟨m, hn.sameBut sb haC, fun h3 sb3 => ?_⟩
  exact ⟨_, H', I2.turned (t' := s2.toks) (fun b o hb e => (sb3.2 b hb).trans e) f0 f1 f3 f4 f5, q⟩
end

def wd : Option Str → Str
  | none => "-"
  | some t => t
def hd0 (y : Str) : Str := if y = "" then "*" else y
/-- the line of a row -/
def lineW (r : Str × List (Option Str)) : Str := Txt.join " " (hd0 r.1 :: r.2.map wd)
def numS (w : Nat) : Str := toString ((w : Nat) : Int)
def headW (word : Str) (w : Nat) : Str := word ++ " " ++ numS w
/-- the text of a map -/
def textW (word : Str) (w : Nat) (ws : WRows) : Str := Txt.join (Str.ofString "\n") (headW word w :: ws.map lineW)
def spFRow (K : PySem.W.Frag) : Sp := fun vs H Q _ => ∃ (y : Str) (t : Addr) (l : List (Option Str)), vs = [.str y, .ref t] ∧ SqT K H t (l.map optV) ∧ OkL isT l ∧ y.length ≤ 32 ∧ ∀ H', Same H H' → Q (.str (lineW (y, l))) H'
theorem okl_wd {l : List (Option Str)} (ok : OkL isT l) : ∀ x ∈ l.map wd, x.length ≤ 8 := fun x hx => by
  obtain ⟨o, ho, rfl⟩ := List.mem_map.mp hx
  cases o with
  | none => show (Str.length "-") ≤ 8; decide
  | some t =>
    obtain ⟨t', e, h8, _⟩ := tgt_str (show isTgtV (.str t) from ok.tg _ ho)
    rw [← V.str.inj e] at h8
    exact h8
theorem hd0_len {y : Str} (h : y.length ≤ 32) : (hd0 y).length ≤ 32 := by
  unfold hd0
  split
  · show (Str.length "*") ≤ 32; decide
  · exact h
theorem sum_le {xs : List Str} {m : Nat} (h : ∀ x ∈ xs, x.length ≤ m) : (xs.map (·.length)).sum ≤ xs.length * m := by
  induction xs with
  | nil => exact Nat.zero_le _
  | cons x xs ih =>
    rw [List.map_cons, List.sum_cons, List.length_cons, Nat.succ_mul]
    have := ih fun z hz => h z (List.mem_cons_of_mem _ hz)
    have := h x List.mem_cons_self
    omega
theorem join_len (s : Str) {xs : List Str} {m : Nat} (h : ∀ x ∈ xs, x.length ≤ m) : (Txt.join s xs).length ≤ xs.length * (m + s.length) := by
  rw [TL.join_eq]
  cases xs with
  | nil => exact Nat.zero_le _
  | cons a l =>
    rw [len_join_cons]
    have := sum_le h
    have e : (a :: l).length * (m + s.length) = (a :: l).length * m + (a :: l).length * s.length := Nat.mul_add _ _ _
    have : l.length * s.length ≤ (a :: l).length * s.length := Nat.mul_le_mul_right _ (Nat.le_succ _)
    omega
theorem lineW_len {y : Str} {l : List (Option Str)} (ok : OkL isT l) (h : y.length ≤ 32) : (lineW (y, l)).length ≤ 1400 := by
  refine Nat.le_trans (join_len " " (m := 32) fun x hx => ?_) ?_
  · rcases List.mem_cons.mp hx with rfl | hx
    · exact hd0_len h
    · exact Nat.le_trans (okl_wd ok x hx) (by decide)
  · have := ok.few
    rw [List.length_cons, List.length_map]
    show (l.length + 1) * (32 + 1) ≤ 1400
    omega
abbrev sFr : Stmt := top 25
section
variable {P : Program} {w : World} {K : PySem.W.Frag} {mg : Str → Option Value} {base : Heap}
abbrev NFr : List Str := ["prefix", "targets", "words", "target"]
theorem scFr : FnScope NFr ["prefix", "targets"] (defScope sFr) := ⟨rfl, rfl, rfl, by decide +kernel, rfl, by decide +kernel, by decide +kernel⟩
set_option maxHeartbeats 8000000 in
theorem ok_Fr {f : Addr} {fd : FuncData} {k : Nat} {tkEp tkNt : Tok} (F : Fun K "format_row" "format_row" sFr f fd)
    (wEp : mg "EMPTY_PREFIX" = some (.str "*" tkEp))
    (wNt : mg "NO_TARGET" = some (.str "-" tkNt))
    : FnOk P w K mg base CX0 (k + 1) f fd ["prefix", "targets"] (spFRow K) := by
  refine F.ok scFr (fun vs H Q E h => ?_) (fun cdv A outer s H vs Q E hr h => ?_)
  · obtain ⟨y, t, l, rfl, _⟩ := h
    rfl
  · obtain ⟨y, t, l, rfl, ht, ok, yl, q⟩ := h
    have nd := scFr.nd
    have hu := hr.units
    have hu1 := hu_of hr
    have hr1 := hr
    refine ⟨_, C8.pss_cut (ps_set (i := 2) nd rfl (.inl rfl) (pe_lst (pa_cons (pe_ifExp (pt_cmpR op_eq (pv 0) pe_str (nomark _)) (pe_glob (v := .str "*") rfl wEp ⟨_, rfl⟩) (pv 0)) pa_nil)))
      (pss_cons (ps_for PassesOwn.never rfl (pi_tup (pv 1)) (pg_name (i := 3) nd rfl (.inl rfl))
        (pss_one (ps_expr (pe_bm PySem.F.plainAttrs_list PySem.F.slot_list_append PySem.F.type_list_append mt_append (pv 2) (pa_cons (pe_ifExp (pt_cmpR op_isN (pv 3) pe_non (nomark _)) (pe_glob (v := .str "-") rfl wNt ⟨_, rfl⟩) (pv 3)) pa_nil)))))
      (pss_one (ps_ret (pe_join pe_str (pv 2))))), ?_⟩
    refine ⟨fun σ H' => ∃ F, σ = [some (.str y), some (.ref t), some (.ref F), none] ∧ Same H H' ∧ H F = none ∧ H' F = some (.lst [.str (hd0 y)]), ?_, ?_⟩
    · refine ⟨.str y, rfl, rfl, _, rfl, ?_⟩
      by_cases h : y = ""
      · subst h
        rw [decide_eq_true rfl]
        exact iteT ⟨by show 1 ≤ sizeLine; decide, fun F nF => ⟨F, rfl, same_upd nF, nF, upd_same⟩⟩
      · rw [decide_eq_false (fun z => h (V.str.inj z))]
        exact iteF ⟨.str y, rfl, by show 1 ≤ sizeLine; decide, fun F nF => ⟨F, rfl, same_upd nF, nF, by rw [upd_same]; unfold hd0; rw [if_neg h]⟩⟩
    rintro σ H1 ⟨F, rfl, s1, nF, hF⟩
    refine ⟨.ref t, rfl, t, rfl, ⟨_, SqT.same s1 ht⟩, for_tup (K := K) (a := t) (xs := l.map optV) (fun i σ H' => (∃ x3, σ = [some (.str y), some (.ref t), some (.ref F), x3]) ∧ H' F = some (.lst ((hd0 y :: (l.take i).map wd).map V.str)) ∧ ∀ b o, b ≠ F → H1 b = some o → H' b = some o) ⟨⟨_, rfl⟩, hF, fun _ _ _ h => h⟩ (fun _ _ H' _ h => SqT.same (fun b o eb => h.2.2 b o (ne_of_none eb nF) (s1 _ _ eb)) ht) ?_ ?_⟩
    · rintro i v σ H2 hv ⟨⟨x3, rfl⟩, hF2, keep⟩
      rw [List.getElem?_map] at hv
      obtain ⟨o, ho, rfl⟩ := Option.map_eq_some_iff.mp hv
      have hi := (List.getElem?_eq_some_iff.mp ho).1
      have few := ok.few
      have et : l.take (i + 1) = l.take i ++ [o] := by rw [List.take_add_one, ho]; rfl
      have fin : (upd H2 F (.lst ((hd0 y :: (l.take i).map wd).map V.str ++ [.str (wd o)]))) F = some (.lst ((hd0 y :: (l.take (i + 1)).map wd).map V.str)) := by
        rw [upd_same, et, List.map_append, ← List.cons_append, List.map_append]
        rfl
      have kp : ∀ b o', b ≠ F → H1 b = some o' → (upd H2 F (.lst ((hd0 y :: (l.take i).map wd).map V.str ++ [.str (wd o)]))) b = some o' := fun b o' n e => by
        rw [upd_ne n]
        exact keep b o' n e
      have big : ((hd0 y :: (l.take i).map wd).map V.str).length < sizeLine := by
        rw [List.length_map, List.length_cons, List.length_map, List.length_take]
        exact big_lt (by omega)
      cases o with
      | none => exact ⟨.ref F, rfl, .inl ⟨rfl, _, SqL.of hF2⟩, .non, rfl, rfl, _, rfl, iteT ⟨F, _, _, rfl, rfl, hF2, big, ⟨_, rfl⟩, fin, kp⟩⟩
      | some z => exact ⟨.ref F, rfl, .inl ⟨rfl, _, SqL.of hF2⟩, .str z, rfl, rfl, _, rfl, iteF ⟨.str z, rfl, F, _, _, rfl, rfl, hF2, big, ⟨_, rfl⟩, fin, kp⟩⟩
    · rintro σ H2 ⟨⟨x3, rfl⟩, hF2, keep⟩
      rw [List.length_map, List.take_length] at hF2
      have few := ok.few
      refine ⟨⟨_, rfl⟩, .ref F, rfl, " ", F, hd0 y :: l.map wd, rfl, rfl, .inl (SqL.of hF2), ?_, q H2 (fun b o eb => keep b o (ne_of_none eb nF) (s1 _ _ eb))⟩
      have := sum_le (xs := hd0 y :: l.map wd) (m := 32) fun x hx => by
        rcases List.mem_cons.mp hx with rfl | hx
        · exact hd0_len yl
        · exact Nat.le_trans (okl_wd ok x hx) (by decide)
      rw [List.length_cons, List.length_map] at *
      have e1 : Str.length " " = 1 := by decide
      show _ + (l.length + 1) * (Str.length " ") ≤ _
      rw [e1]
      omega
end

/-- the lines of rows, as a text and as many rows -/
def RowsC (ws : WRows) : Prop := (∀ r ∈ ws, OkL isT r.2 ∧ r.1.length ≤ 32) ∧ ws.length ≤ 60
theorem rowsC_of {w : Nat} {ws : WRows} (ok : RowsW isT w ws) (w32 : w ≤ 32) (l : ws.length ≤ 60) : RowsC ws := ⟨fun r hr => ⟨ok.ok r hr, Nat.le_trans (ok.pfx.len _ (List.mem_map.mpr ⟨r, hr, rfl⟩)) w32⟩, l⟩
theorem numS_len {w : Nat} (h : w ≤ 32) : (numS w).length ≤ 2 := by
  have : ∀ k : Fin 33, (numS k).length ≤ 2 := by decide +kernel
  exact this ⟨w, by omega⟩
theorem str_app_len (a b : Str) : (a ++ b).length = a.length + b.length := Str.length_append a b
def spFmt (K : PySem.W.Frag) (C W : Addr) : Sp := fun vs H Q _ => ∃ (x e : Addr) (w : Nat), vs = [.ref x] ∧ w ≤ 32 ∧
  ((∃ ys ka, MapAt C H x e w ka ∧ RowsOk w isTgtV ys ka ∧ ys.length ≤ 60 ∧ ∀ H', Same H H' → Q (.str (textW "table" w (tabR ys ka))) H') ∨ ∃ ws, WishAt W H x e w ws ∧ RowsW isT w ws ∧ ws.length ≤ 60 ∧ ∀ H', Same H H' → Q (.str (textW "wish" w ws)) H')
abbrev sFm : Stmt := top 24
section
variable {P : Program} {w : World} {K : PySem.W.Frag} {mg : Str → Option Value} {base : Heap}
abbrev NFm : List Str := ["some", "lines", "allowed", "prefix", "target", "targets"]
theorem scFm : FnScope NFm ["some"] (defScope sFm) := ⟨rfl, rfl, rfl, by decide +kernel, rfl, by decide +kernel, by decide +kernel⟩
set_option maxHeartbeats 8000000 in
theorem ok_Fm {f fPw pPw fR pR fWPw pWPw fWR pWR fFr CC CW : Addr} {fd fdPw fdR fdWPw fdWR fdFr : FuncData} {k : Nat} (F : Fun K "format_map" "format_map" sFm f fd) (OCC : ObjC K CC) (OCW : ObjC K CW) (kC : PySem.W.kitOne K (.ref CC) (.ref CC) = some true) (kW : PySem.W.kitOne K (.ref CW) (.ref CC) = some false)
    (gC : mg "Table" = some (.ref CC))
    (m_isinstance : mg "isinstance" = none)
    (GPw : FnOk P w K mg base CX0 k fPw fdPw ["self"] (spWidthP CC))
    (PPw : PropOf K CC "width" pPw fPw) (bPw : Binds K fdPw ["self"] [])
    (clC : Cls K CC)
    (GR : FnOk P w K mg base CX0 k fR fdR ["self"] (spRows CC))
    (PR : PropOf K CC "rows" pR fR) (bR : Binds K fdR ["self"] [])
    (GWPw : FnOk P w K mg base CX0 k fWPw fdWPw ["self"] (spWidthP CW))
    (PWPw : PropOf K CW "width" pWPw fWPw) (bWPw : Binds K fdWPw ["self"] [])
    (clW : Cls K CW)
    (GWR : FnOk P w K mg base CX0 k fWR fdWR ["self"] (spRows CW))
    (PWR : PropOf K CW "rows" pWR fWR) (bWR : Binds K fdWR ["self"] [])
    (GFr : FnOk P w K mg base CX0 k fFr fdFr ["prefix", "targets"] (spFRow K))
    (FFr : Fun K "format_row" "format_row" sFr fFr fdFr) (bFr : Binds K fdFr ["prefix", "targets"] []) (gFr : mg "format_row" = some (.ref fFr))
    : FnOk P w K mg base CX0 (k + 2) f fd ["some"] ((spFmt K CC CW)) := by
  refine F.ok scFm (fun vs H Q E h => ?_) (fun cdv A outer s H vs Q E hr h => ?_)
  · obtain ⟨x, e, w, rfl, _⟩ := h
    rfl
  · obtain ⟨x, e, w, rfl, w32, hxx⟩ := h
    have nd := scFm.nd
    have hu := hr.units
    have hu1 := hu_of hr
    have hr1 := hr.mono (Nat.le_succ k)
    refine ⟨_, C8.pss_cut (ps_if (pt_val (pe_callB call_isi (by rfl) m_isinstance (by decide +kernel) (pa_cons (pv 0) (pa_cons (pe_glob (v := .ref CC) rfl gC rfl) pa_nil))))
        (pss_cons (ps_set (i := 1) nd rfl (.inl rfl) (pe_lst (pa_cons (pe_joined (.cons pe_str (.cons (pe_fmt (pe_prop (pv 0) clC PPw GPw hr bPw .nil pass0 rfl)) .nil))) pa_nil)))
        (pss_one (ps_setDc (i := 2) (own := [("prefix", 3), ("target", 4)]) (g := gTup K 2 (gCons (gName 3) (gCons (gName 4) gNil))) (tt := tYes) rfl nd rfl rfl (swd_true rfl rfl rfl (by decide +kernel)) ((pi_items (pe_frz (pe_prop (pv 0) clC PR GR hr bR .nil pass0 rfl)))) (blkOk_by (N := NFm) (sc := defScope sFm) (by decide +kernel)) (fun _ _ _ _ _ => pg_tup rfl (pgs_cons (pg_name (i := 3) nd rfl (.inl rfl)) (pgs_cons (pg_name (i := 4) nd rfl (.inl rfl)) pgs_nil))) (fun _ _ _ _ _ => pts_nil) (fun _ _ _ _ _ => (pv 3)) (fun _ _ _ _ _ => (pe_tup (pa_cons (pv 4) pa_nil)))))) (pss_cons (ps_set (i := 1) nd rfl (.inl rfl) (pe_lst (pa_cons (pe_joined (.cons pe_str (.cons (pe_fmt (pe_prop (pv 0) clW PWPw GWPw hr bWPw .nil pass0 rfl)) .nil))) pa_nil)))
        (pss_one (ps_set (i := 2) nd rfl (.inl rfl) (pe_prop (pv 0) clW PWR GWR hr bWR .nil pass0 rfl)))))
      (pss_cons (ps_lock (ps_for PassesOwn.never rfl (pi_items (pv 2)) (pg_tup rfl (pgs_cons (pg_name (i := 3) nd rfl (.inl rfl)) (pgs_cons (pg_name (i := 5) nd rfl (.inl rfl)) pgs_nil)))
        (pss_one (ps_expr (pe_bm PySem.F.plainAttrs_list PySem.F.slot_list_append PySem.F.type_list_append mt_append (pv 1) (pa_cons (pe_call GFr hr1 (by rfl) gFr FFr.kp bFr .nil pass0 (pa_cons (pv 3) (pa_cons (pv 5) pa_nil))) pa_nil))))))
      (pss_one (ps_ret (pe_join pe_str (pv 1))))), ?_⟩
    refine ⟨fun σ H' => ∃ (F G : Addr) (word : Str) (ws : WRows) (kvs : List (Key × V)) (x4 : Option V), σ = [some (.ref x), some (.ref F), some (.ref G), none, x4, none] ∧ Same H H' ∧ H F = none ∧ H' F = some (.lst [.str (headW word w)]) ∧ H' G = some (.dK kvs) ∧ WVal H' kvs ws ∧ RowsC ws ∧ word.length ≤ 5 ∧ ∀ H', Same H H' → Q (.str (textW word w ws)) H', ?_, ?_⟩
    · have lw : ((w : Nat) : Int).natAbs.log2 < 1920 := Nat.lt_of_le_of_lt (Nat.log2_le_self w) (by omega)
      have nl := numS_len w32
      rcases hxx with ⟨ys, ka, hm, ok, few, q⟩ | ⟨ws, hm, ok, few, q⟩
      · obtain ⟨⟨dx, hx⟩, he⟩ := id hm
        refine ⟨.ref x, rfl, .ref x, .ref CC, .ref CC, .ref CC, _, rfl, .own _, .base (.ins hx clC OCC.ca OCC.cg OCC.ct OCC.ob), kC, _, rfl, iteT ?_⟩
        have eh : (Str.empty ++ "table " : Str) ++ numS w = headW "table" w := by
          unfold headW
          rw [show (Str.empty ++ "table " : Str) = "table" ++ " " by decide +kernel]
        refine ⟨"table ", rfl, by show (Str.length (Str.empty ++ "table " : Str)) ≤ sizeLine; decide +kernel, .ref x, rfl, x, dx, _, rfl, hx, x, e, w, ka, rfl, hm, .inr ⟨w, rfl, lw, numS w, rfl, ?_, by show 1 ≤ sizeLine; decide, fun F nF => ?_⟩⟩
        · rw [str_app_len]
          have : (Str.length (Str.empty ++ "table " : Str)) = 6 := by decide +kernel
          exact big_of (by omega)
        rw [eh]
        have s0 := same_upd (o := .lst [.str (headW "table" w)]) nF
        have hF0 := upd_same (H := H) (a := F) (o := .lst [.str (headW "table" w)])
        have hx0 := s0 _ _ hx
        have hm0 := hm.same s0
        have kn : (ka.map (·.1)).Nodup := ok.acc.nd
        have kl := rows_len ok
        revert s0 hF0 hx0 hm0
        generalize upd H F (.lst [.str (headW "table" w)]) = H0
        intro s0 hF0 hx0 hm0
        refine ⟨.ref x, rfl, x, dx, _, rfl, hx0, x, e, w, ka, rfl, hm0, fun d nd1 => ⟨d, ka, rfl, upd_same, fun od => ?_⟩⟩
        rw [upd_upd]
        have s1 := same_upd (o := .frz od (.dK ka)) nd1
        have hd1 : (upd H0 d (.frz od (.dK ka))) d = some (.frz od (.dK ka)) := upd_same
        revert s1 hd1
        generalize upd H0 d (.frz od (.dK ka)) = H1
        intro s1 hd1
        refine ⟨d, od, ka, rfl, hd1, fun G nG => ?_⟩
        refine dc_it walk_items (fun i H' => ∃ kvs', H' G = some (.dK kvs') ∧ WVal H' kvs' (tabR (ys.take i) ka) ∧ Same H1 H') ⟨[], upd_same, .nil, same_upd nG⟩ (fun _ _ _ h => by obtain ⟨_, _, _, s⟩ := h; exact s _ _ hd1) ?_ ?_
        · rintro i u H2 H3 hi ⟨kvs', hG, hin, s2⟩ ⟨T, k, v, rfl, nT, rfl, h1, h2⟩
          obtain ⟨kv, hkv⟩ : ∃ kv, ka[i]? = some kv := ⟨ka[i], List.getElem?_eq_getElem hi⟩
          have h1a : (ka[i]?.map fun kv => kV kv.1) = some k := h1
          have h2a : (ka[i]?.map Prod.snd) = some v := h2
          rw [hkv] at h1a h2a
          have h1' : kV kv.1 = k := Option.some.inj h1a
          have h2' : kv.2 = v := Option.some.inj h2a
          obtain ⟨k0, v0⟩ := kv
          obtain ⟨y, hy, rfl⟩ := key_at ok.keys hkv
          have e1 : k = .str y := h1'.symm
          have e2 : v0 = v := h2'
          subst e1 e2
          have hym := List.mem_of_getElem? hy
          have hvm := List.mem_of_getElem? hkv
          have vv := valV_some kn hvm
          obtain ⟨t, ht, tt⟩ := val_tgt ok hym
          obtain rfl : v0 = .str t := by rw [vv] at ht; exact Option.some.inj ht
          have s3 := same_upd (o := .tup [.str y, .str t]) nT
          refine ⟨T, _, rfl, SqT.of upd_same, rfl, _, _, rfl, _, _, rfl, rfl, rfl, yes_if ?_⟩
          refine ⟨.str y, rfl, .str t, rfl, by show 1 ≤ sizeLine; decide, fun t1 nt1 => ?_⟩
          have s4 := same_upd (o := .tup [.str t]) nt1
          have hG4 := s4 _ _ (s3 _ _ hG)
          have et : ys.take (i + 1) = ys.take i ++ [y] := by rw [List.take_add_one, hy]; rfl
          have kl2 := rows_len2 hin.keys
          have hnew : (Sum.inr y : Key) ∉ kvs'.map (·.1) := by
            rw [hin.keys, tabR_keys, List.mem_map]
            rintro ⟨z, hz, e⟩
            obtain ⟨j, hj, ej⟩ := List.mem_take_iff_getElem.mp hz
            have hi2 := List.getElem?_eq_some_iff.mp hy
            have e2 : ys[j]'(by omega) = ys[i]'hi2.1 := by rw [ej, hi2.2]; exact Sum.inr.inj e
            have := (List.getElem_inj ok.pfx.nd).mp e2
            omega
          refine ⟨kvs', .inr y, rfl, hG4, big_lt ?_, kvs' ++ [(.inr y, .ref t1)], by rw [upd_same, putK_end hnew], ?_, fun b o eb => ?_⟩
          · have : (tabR (ys.take i) ka).length = (ys.take i).length := List.length_map _
            rw [List.length_take] at this
            omega
          · have e : tabR (ys.take (i + 1)) ka = tabR (ys.take i) ka ++ [(y, [some t])] := by
              unfold tabR
              rw [et, List.map_append, List.map_cons, vv]
              rfl
            rw [e]
            have w4 : WVal (upd (upd H2 T (.tup [.str y, .str t])) t1 (.tup [.str t])) (kvs' ++ [(.inr y, .ref t1)]) (tabR (ys.take i) ka ++ [(y, [some t])]) := paired_app ((hin.same s3).same s4) (.cons ⟨rfl, t1, rfl, upd_same⟩ .nil)
            exact w4.mono fun _ _ ⟨e, a, e2, ha⟩ => ⟨e, a, e2, by rw [upd_ne (ne_of ha hG4 (fun z => nomatch z))]; exact ha⟩
          · rw [upd_ne (ne_of_none eb nG)]
            exact s4 _ _ (s3 _ _ (s2 _ _ eb))
        · rintro H2 ⟨kvs', hG, hin, s2⟩
          rw [kl, List.take_of_length_le (Nat.le_refl _)] at hin
          have s02 := s1.trans s2
          exact ⟨F, G, "table", tabR ys ka, kvs', _, rfl, s0.trans s02, nF, s02 _ _ hF0, hG, hin, rowsC_of (tabR_ok ok) w32 (by show (List.map _ ys).length ≤ 60; rw [List.length_map]; exact few), by decide, q⟩
      · obtain ⟨⟨dx, hx⟩, kvs, he, hv⟩ := id hm
        refine ⟨.ref x, rfl, .ref x, .ref CC, .ref CW, .ref CC, _, rfl, .own _, .base (.ins hx clW OCW.ca OCW.cg OCW.ct OCW.ob), kW, _, rfl, iteF ?_⟩
        have eh : (Str.empty ++ "wish " : Str) ++ numS w = headW "wish" w := by
          unfold headW
          rw [show (Str.empty ++ "wish " : Str) = "wish" ++ " " by decide +kernel]
        refine ⟨"wish ", rfl, by show (Str.length (Str.empty ++ "wish " : Str)) ≤ sizeLine; decide +kernel, .ref x, rfl, x, dx, _, rfl, hx, x, e, w, kvs, rfl, ⟨⟨dx, hx⟩, he⟩, .inr ⟨w, rfl, lw, numS w, rfl, ?_, by show 1 ≤ sizeLine; decide, fun F nF => ?_⟩⟩
        · rw [str_app_len]
          have : (Str.length (Str.empty ++ "wish " : Str)) = 5 := by decide +kernel
          exact big_of (by omega)
        rw [eh]
        have s0 := same_upd (o := .lst [.str (headW "wish" w)]) nF
        have hF0 := upd_same (H := H) (a := F) (o := .lst [.str (headW "wish" w)])
        refine ⟨.ref x, rfl, x, dx, _, rfl, s0 _ _ hx, x, e, w, kvs, rfl, ⟨⟨dx, s0 _ _ hx⟩, s0 _ _ he⟩, fun G nG => ?_⟩
        have s1 := same_upd (o := .dK kvs) nG
        exact ⟨F, G, "wish", ws, kvs, _, rfl, s0.trans s1, nF, s1 _ _ hF0, upd_same, hv.same (s0.trans s1), rowsC_of ok w32 few, by decide, q⟩
    rintro σ H1 ⟨F, G, word, ws, kvs, x4, rfl, s1, nF, hF, hG, hv, ⟨hok, few⟩, wl, q⟩
    have GF : G ≠ F := ne_of hG hF (fun z => nomatch z)
    have kl := prd_len hv
    refine ⟨G, .dK kvs, hG, trivial, fun od => ⟨.ref G, rfl, G, od, kvs, rfl, upd_same, for_it walk_items (fun i σ H' => (∃ x3 x5, σ = [some (.ref x), some (.ref F), some (.ref G), x3, x4, x5]) ∧ H' F = some (.lst ((headW word w :: (ws.take i).map lineW).map V.str)) ∧ ∀ b o, b ≠ F → (upd H1 G (.frz od (.dK kvs))) b = some o → H' b = some o) ⟨⟨_, _, rfl⟩, by rw [upd_ne GF.symm]; exact hF, fun _ _ _ h => h⟩ (fun _ _ _ _ h => h.2.2 _ _ GF upd_same) ?_ ?_⟩⟩
    · rintro i v σ H5 H6 hi ⟨⟨x3, x5, rfl⟩, hF5, keep⟩ ⟨T, k, v', rfl, nT, rfl, h1, h2⟩
      obtain ⟨kv, hkv⟩ : ∃ kv, kvs[i]? = some kv := ⟨kvs[i], List.getElem?_eq_getElem hi⟩
      have h1a : (kvs[i]?.map fun kv => kV kv.1) = some k := h1
      have h2a : (kvs[i]?.map Prod.snd) = some v' := h2
      rw [hkv] at h1a h2a
      obtain ⟨r, hr, e1, a, e2, ha⟩ := prd_get hv hkv
      obtain ⟨k0, v0⟩ := kv
      obtain ⟨y, l⟩ := r
      dsimp only at e1 e2 ha h1a h2a
      subst e1 e2
      obtain rfl : k = .str y := (Option.some.inj h1a).symm
      obtain rfl : V.ref a = v' := Option.some.inj h2a
      obtain ⟨okl, yl⟩ := hok (y, l) (List.mem_of_getElem? hr)
      have sT := same_upd (o := .tup [.str y, .ref a]) nT
      have aF : a ≠ F := ne_of ha hF (fun z => nomatch z)
      have aG : a ≠ G := ne_of ha hG (fun z => nomatch z)
      have ha6 := sT _ _ (keep _ _ aF (by rw [upd_ne aG]; exact ha))
      have hF6 := sT _ _ hF5
      refine ⟨T, _, rfl, SqT.of upd_same, rfl, _, _, rfl, _, _, rfl, rfl, ?_⟩
      have et : ws.take (i + 1) = ws.take i ++ [(y, l)] := by rw [List.take_add_one, hr]; rfl
      have big : ((headW word w :: (ws.take i).map lineW).map V.str).length < sizeLine := by
        rw [List.length_map, List.length_cons, List.length_map, List.length_take]
        exact big_lt (by omega)
      refine ⟨.ref F, rfl, .inl ⟨rfl, _, SqL.of hF6⟩, .str y, rfl, .ref a, rfl, y, a, l, rfl, SqT.of ha6, okl, yl, fun H7 s7 => ⟨F, _, .str (lineW (y, l)), rfl, rfl, s7 _ _ hF6, big, ⟨_, _, rfl⟩, ?_, fun b o n h => ?_⟩⟩
      · rw [upd_same, et, List.map_append, ← List.cons_append, List.map_append]
        rfl
      · rw [upd_ne n]
        exact s7 _ _ (sT _ _ (keep _ _ n h))
    · rintro σ H5 ⟨⟨x3, x5, rfl⟩, hF5, keep⟩
      rw [kl, List.take_length] at hF5
      refine ⟨keep _ _ GF upd_same, ?_⟩
      have hF6 : (upd H5 G (.dK kvs)) F = some (.lst ((headW word w :: ws.map lineW).map V.str)) := by rw [upd_ne GF.symm]; exact hF5
      refine ⟨⟨_, rfl⟩, .ref F, rfl, Str.ofString "\n", F, headW word w :: ws.map lineW, rfl, rfl, .inl (SqL.of hF6), ?_, q _ fun b o eb => ?_⟩
      · have := sum_le (xs := headW word w :: ws.map lineW) (m := 1400) fun x hx => by
          rcases List.mem_cons.mp hx with rfl | hx
          · unfold headW
            rw [str_app_len, str_app_len]
            have := numS_len w32
            have e1 : Str.length " " = 1 := by decide
            omega
          · obtain ⟨r, hr, rfl⟩ := List.mem_map.mp hx
            exact lineW_len (hok r hr).1 (hok r hr).2
        rw [List.length_cons, List.length_map] at *
        have e1 : Str.length (Str.ofString "\n") = 1 := by decide
        rw [e1]
        omega
      · have nb : b ≠ F := ne_of_none eb nF
        by_cases hb : b = G
        · subst hb
          rw [upd_same]
          have := s1 _ _ eb
          rw [hG] at this
          exact this
        · rw [upd_ne hb]
          exact keep _ _ nb (by rw [upd_ne hb]; exact s1 _ _ eb)
end

/-- a prefix is written so -/
def pw (x : Str) (w : Nat) : Bool := decide (x = "*") || (!decide (x = "") && isPfx (.str x) (w : Int))
def spIpw : Sp := fun vs H Q _ => ∃ (x : Str) (w : Nat), vs = [.str x, .int w] ∧ x.length ≤ sizeLine ∧ w ≤ 32 ∧ Q (.bl (pw x w)) H
theorem bits_nstar {y : Str} (h : isBits y = true) : y ≠ "*" := fun z => by
  rw [z] at h
  exact absurd h (by decide +kernel)
theorem pw_of {y : Str} {w : Nat} (hb : isBits y = true) (yl : y.length ≤ w) : pw (hd0 y) w = true := by
  unfold pw
  by_cases h : y = ""
  · subst h
    rw [decide_eq_true (show hd0 "" = "*" from rfl)]
    rfl
  · have e : hd0 y = y := by unfold hd0; rw [if_neg h]
    rw [e, decide_eq_false h]
    have ep : isPfx (.str y) (w : Int) = true := by
      show (decide ((y.length : Int) ≤ w) && isBits y) = true
      rw [decide_eq_true (by omega), hb]
      rfl
    rw [ep]
    simp
abbrev sIp : Stmt := top 29
section
variable {P : Program} {w : World} {K : PySem.W.Frag} {mg : Str → Option Value} {base : Heap}
abbrev NIp : List Str := ["word", "width"]
theorem scIp : FnScope NIp ["word", "width"] (defScope sIp) := ⟨rfl, rfl, rfl, by decide +kernel, rfl, by decide +kernel, by decide +kernel⟩
set_option maxHeartbeats 8000000 in
theorem ok_Ip {f fI : Addr} {fd fdI : FuncData} {k : Nat} {tkEp : Tok} (F : Fun K "is_prefix_word" "is_prefix_word" sIp f fd)
    (GI : FnOk P w K mg base CX0 k fI fdI ["thing", "width"] (spPfx K))
    (FI : Fun K "is_prefix" "is_prefix" sI fI fdI) (bI : Binds K fdI ["thing", "width"] []) (gI : mg "is_prefix" = some (.ref fI))
    (wEp : mg "EMPTY_PREFIX" = some (.str "*" tkEp))
    : FnOk P w K mg base CX0 (k + 1) f fd ["word", "width"] spIpw := by
  refine F.ok scIp (fun vs H Q E h => ?_) (fun cdv A outer s H vs Q E hr h => ?_)
  · obtain ⟨x, z, rfl, _⟩ := h
    rfl
  · obtain ⟨x, z, rfl, xl, w32, q⟩ := h
    have nd := scIp.nd
    have hu := hr.units
    have hu1 := hu_of hr
    have hr1 := hr
    refine ⟨_, pss_one (ps_ret (pe_or (pe_cmpR op_eq (pv 0) (pe_glob (v := .str "*") rfl wEp ⟨_, rfl⟩) (nomark _)) (pe_one (pe_and (pe_cmpR op_ne (pv 0) pe_str (nomark _)) (pe_one (pe_call GI hr1 (by rfl) gI FI.kp bI .nil pass0 (pa_cons (pv 0) (pa_cons (pv 1) pa_nil)))))))), ?_⟩
    unfold pw at q
    refine ⟨.str x, rfl, rfl, _, rfl, ?_⟩
    by_cases h : x = "*"
    · rw [decide_eq_true h, Bool.true_or] at q
      rw [decide_eq_true (show V.str x = V.str "*" by rw [h])]
      exact iteT q
    · rw [decide_eq_false h, Bool.false_or] at q
      rw [decide_eq_false (fun z => h (V.str.inj z))]
      refine iteF ⟨.str x, rfl, rfl, _, rfl, ?_⟩
      by_cases h2 : x = ""
      · rw [decide_eq_true h2] at q
        rw [decide_eq_true (show V.str x = V.str "" by rw [h2])]
        exact iteF q
      · rw [decide_eq_false h2] at q
        rw [decide_eq_false (fun z => h2 (V.str.inj z))]
        exact iteT ⟨.str x, rfl, .int z, rfl, .str x, z, rfl, TyS.of (N := fun _ => True) (.str x), fun u e => by rw [← V.str.inj e]; exact xl, q⟩
end
theorem cut_one (xs : List V) : cutV xs (some 1) none = xs.drop 1 := by
  unfold cutV
  rw [show HT.sIx xs.length 0 (some 1) = min 1 xs.length from HT.sIx_nat _ _ 1, HT.sIx_none]
  cases xs with
  | nil => rfl
  | cons x r =>
    rw [show min 1 (x :: r).length = 1 by rw [List.length_cons]; omega]
    exact List.take_of_length_le (by rw [List.length_drop]; exact Nat.le_refl _)
theorem lay_sm {n : Nat} {x : Str} (h : Sm n x) : PyData.canLay0 (.str x) = true := by
  simp only [PyData.canLay0]
  unfold PyData.strOk
  rw [Array.all_eq_true']
  intro c hc
  have := h.ch c (Array.mem_toList_iff.mpr hc)
  exact decide_eq_true (by omega)
theorem lay_all {ds : List PyData} (h : ∀ d ∈ ds, PyData.canLay0 d = true) : PyData.canLayAll0 ds = true := by
  induction ds with
  | nil => simp only [PyData.canLayAll0]
  | cons d ds ih =>
    simp only [PyData.canLayAll0]
    rw [h d List.mem_cons_self, ih fun x hx => h x (List.mem_cons_of_mem _ hx)]
    rfl

theorem t_signs {x : Str} (h : isT x = true) : (∀ c ∈ sg x, 97 ≤ c ∧ c ≤ 122) ∧ sg x ≠ [] := by
  obtain ⟨z, e, _, h1, h2⟩ := tgt_str (show isTgtV (.str x) from h)
  cases V.str.inj e
  have hl : ∀ c ∈ letters.cps.toList, 97 ≤ c ∧ c ≤ 122 := by decide +kernel
  unfold onlyOf at h2
  rw [List.all_eq_true] at h2
  refine ⟨fun c hc => hl c ?_, fun z => ?_⟩
  · have := h2 c hc
    rw [Array.contains_iff_mem] at this
    exact Array.mem_toList_iff.mpr this
  · have : x.length = (sg x).length := (sg_len x).symm
    rw [z] at this
    simp at this
    omega
theorem t_dash {x : Str} (h : isT x = true) : x ≠ "-" := fun e => by
  have := (t_signs h).1 45 (by rw [e]; decide)
  omega
theorem wd_free {l : List (Option Str)} (ok : OkL isT l) {s : Nat} (h1 : s ≠ 45) (h2 : s < 97) : ∀ x ∈ l.map wd, s ∉ sg x := fun x hx hm => by
  obtain ⟨o, ho, rfl⟩ := List.mem_map.mp hx
  cases o with
  | none =>
    have : s ∈ [45] := hm
    exact h1 (List.mem_singleton.mp this)
  | some t =>
    have := (t_signs (ok.tg _ ho)).1 s hm
    omega
theorem hd0_free {y : Str} (h : isBits y = true) {s : Nat} (h1 : s ≠ 42) (h2 : s ≠ 48) (h3 : s ≠ 49) : s ∉ sg (hd0 y) := fun hm => by
  unfold hd0 at hm
  split at hm
  · have : s ∈ [42] := hm
    exact h1 (List.mem_singleton.mp this)
  · rcases bits_iff.mp h s hm with e | e
    · exact h2 e
    · exact h3 e
theorem names_up {l : List (Option Str)} (ok : OkL isT l) (ca : ascO l = l) : sortedS (l.map wd) = true := by
  rw [← ca]
  unfold ascO
  rw [List.map_append, List.map_map, show ((sortS (l.filterMap id)).map (wd ∘ some)) = sortS (l.filterMap id) from List.map_id' _]
  have up := sortS_up (l.filterMap id)
  split
  · show sortedS ("-" :: sortS (l.filterMap id)) = true
    have hm : ∀ x ∈ sortS (l.filterMap id), isT x = true := fun x hx => by
      obtain ⟨o, ho, e⟩ := List.mem_filterMap.mp (mem_sortS.mp hx)
      have e' : o = some x := e
      rw [e'] at ho
      exact ok.tg _ ho
    revert up hm
    cases sortS (l.filterMap id) with
    | nil => exact fun _ _ => rfl
    | cons x r =>
      intro up hm
      show (!ltCps (sg x) (sg "-") && risingS x r) = true
      rw [show risingS x r = true from up, Bool.and_true, ltCps_eq]
      have hs := t_signs (hm x List.mem_cons_self)
      have : ¬ sg x < sg "-" := by
        cases e : sg x with
        | nil => exact absurd e hs.2
        | cons c cs =>
          have hc := hs.1 c (by rw [e]; exact List.mem_cons_self)
          intro z
          have z' : (c :: cs) < [45] := z
          rcases List.cons_lt_cons_iff.mp z' with q | q
          · omega
          · exact absurd q.1 (by omega)
      simpa using this
  · exact up
theorem names_nd {l : List (Option Str)} (ok : OkL isT l) : (l.map wd).Nodup := by
  refine List.pairwise_map.mpr (ok.nd.imp_of_mem fun {a b} ha hb hne e => hne ?_)
  cases a with
  | none =>
    cases b with
    | none => rfl
    | some t => exact absurd e.symm (t_dash (ok.tg _ hb))
  | some t =>
    cases b with
    | none => exact absurd e (t_dash (ok.tg _ ha))
    | some u => exact congrArg some e
theorem strs_data {xs : List Str} (h : ∀ x ∈ xs, Sm 32 x) : SeqAt.shaped (.list (xs.map PyData.str)) = true := by
  unfold SeqAt.shaped
  rw [Bool.and_eq_true]
  refine ⟨?_, decide_eq_true ?_⟩
  · simp only [PyData.canLay0]
    refine lay_all fun d hd => ?_
    obtain ⟨x, hx, rfl⟩ := List.mem_map.mp hd
    exact lay_sm (h x hx)
  · have := depthAll_le (L := 0) (ds := xs.map PyData.str) fun d hd => by
      obtain ⟨x, hx, rfl⟩ := List.mem_map.mp hd
      simp only [PyData.depth]
      decide
    simp only [PyData.depth]
    omega
theorem strs_eqv : ∀ xs : List Str, PyData.eqvAll (xs.map PyData.str) (xs.map PyData.str) = true
  | [] => rfl
  | x :: xs => by
    show ((x == x) && PyData.eqvAll (xs.map PyData.str) (xs.map PyData.str)) = true
    rw [strs_eqv xs, Bool.and_true]
    exact beq_self_eq_true x
def wdsK (n : Nat) : List (Key × V) := (List.range n).map fun j => (.inr (numS (j + 1)), .int ((j + 1 : Nat) : Int))
theorem wds_put : ∀ i : Fin 32, putK (wdsK i) (.inr (numS (i + 1))) (.int ((i + 1 : Nat) : Int)) = wdsK (i + 1) ∧ (wdsK i).length ≤ 32 := by
  intro i
  have inj : ∀ a b : Fin 33, numS a = numS b → a = b := by decide +kernel
  have hn : ∀ i : Fin 32, (Sum.inr (numS (i + 1)) : Key) ∉ (wdsK i).map (·.1) := by
    intro i h
    obtain ⟨kv, hk, e⟩ := List.mem_map.mp h
    obtain ⟨j, hj, rfl⟩ := List.mem_map.mp hk
    have hj' := List.mem_range.mp hj
    have := Fin.mk.inj (inj ⟨j + 1, by omega⟩ ⟨i + 1, by omega⟩ (Sum.inr.inj e))
    omega
  refine ⟨?_, by unfold wdsK; rw [List.length_map, List.length_range]; omega⟩
  rw [putK_end (hn i)]
  unfold wdsK
  rw [List.range_succ, List.map_append]
  rfl
theorem wds_at : ∀ i : Fin 32, valV (wdsK 32) (.inr (numS (i + 1))) = some (.int ((i + 1 : Nat) : Int)) := by decide +kernel

abbrev sQ : Stmt := inClass (top 3) 0
theorem scQ : ScS ["self", "line"] (defScope sQ) := ⟨rfl, rfl, rfl, by decide +kernel, by decide +kernel, by decide +kernel, by decide +kernel, by decide +kernel, by decide +kernel⟩
section
variable {P : Program} {w : World} {K : PySem.W.Frag} {mg : Str → Option Value} {base : Heap}
set_option maxHeartbeats 8000000 in
theorem ok_perr {f C : Addr} {fd : FuncData} {k : Nat} {file : Str} (FS : FunS K file "__init__" "ParseError.__init__" sQ f C fd) (T : OexC K C) (hsub : PySem.W.mroIn K C (.ref C) = some true) (hm : PySem.W.ks_superIn K C C "__init__" = some (some (.builtin "ValueError.__init__"))) (hB : PySem.W.subIn K (.ref C) (.type "ValueError") = some true)
    (hop : PySem.W.nsIn K cStatics "thirdparty.any" = some none) (hsu : mg "super" = none) (hfile : ((P.main.file : Str) == file) = true) (htop : (P.main.scope.names.lookup ("super" : Str)).isSome = false) (hno : PySem.W.findIn K (.ref C) "line" = some none) :
    FnOk P w K mg base CX0 (k + 1) f fd ["self", "line"] (spExI C "line") := by
  refine ok_esuper (self := "self") FS scQ T hsub hm hB hop hsu hfile htop rfl ⟨_, rfl, rfl⟩ rfl (fun _ => ⟨_, rfl⟩) (fun _ => rfl) (fun _ => rfl) (fun _ => rfl) (fun vs H Q E h => ?_) (fun h => h) (fun A cda cc outer s H vs Q hr h => ?_)
  · obtain ⟨a, n, rfl, _⟩ := h
    rfl
  · obtain ⟨a, n, rfl, n1, n2, ha, q⟩ := h
    refine ⟨a, _, _, rfl, ha, pa_cons (pe_joined (.cons pe_str (.cons (pe_fmt (pv 1)) (.cons pe_str .nil)))) pa_nil, pss_one (ps_ost (pv 0) (pv 1)), ?_⟩
    have e1 : (Str.length (Str.empty ++ "line " : Str)) = 5 := by decide +kernel
    have e2 : (Str.length (" is wrong" : Str)) = 9 := by decide +kernel
    refine ⟨"line ", rfl, by rw [e1]; exact big_of (by omega), .int n, rfl, .inr ⟨n, rfl, n1, toString n, rfl, ?_, " is wrong", rfl, ?_, by show 1 ≤ 1000; decide, ha, ?_⟩⟩
    · rw [str_app_len, e1]
      exact big_of (by omega)
    · rw [str_app_len, str_app_len, e1, e2]
      exact big_of (by omega)
    · exact ⟨.int n, rfl, .ref a, rfl, a, C, rfl, T, hno, .inl ⟨ha, fun dx nd ne => q dx nd ne⟩⟩
end

def ErrAt (C : Addr) (j : Nat) (H : Hp) (E : XK) : Prop := ∀ d H', Same H H' → H' d = some (.xd [("line", .int (j : Nat))]) → E (.ref C) (some d) H'
theorem num_sm {j : Nat} (h : j ≤ 100) : ((j : Nat) : Int).natAbs.log2 < 1920 ∧ (toString ((j : Nat) : Int) : Str).length ≤ 900 := by
  have : ∀ k : Fin 101, (toString ((k.val : Nat) : Int) : Str).length ≤ 900 := by decide +kernel
  exact ⟨Nat.lt_of_le_of_lt (Nat.log2_le_self j) (by omega), this ⟨j, by omega⟩⟩
theorem err_at {C : Addr} {j : Nat} {H H1 : Hp} {E : XK} (h : j ≤ 100) (s : Same H H1) (e : ErrAt C j H E) : ([V.int (j : Nat)]).length ≤ 1000 ∧ ∀ a, H1 a = none → spExI C "line" (.ref a :: ([V.int (j : Nat)] ++ [])) (upd H1 a (exo a C none))
      (fun v H2 => v = .non ∧ ∃ (d : Addr) (fs : List (Str × V)), H2 a = some (exo a C (some d)) ∧ H2 d = some (exd d fs) ∧ H1 d = none ∧ E (.ref C) (some d) (upd (del H2 a) d (.xd fs))) (fun _ _ _ => False) :=
  raise_int (num_sm h).1 (num_sm h).2 fun d nd => e d _ (s.trans (same_upd nd)) upd_same

theorem ErrAt.same {C : Addr} {j : Nat} {H H1 : Hp} {E : XK} (e : ErrAt C j H E) (s : Same H H1) : ErrAt C j H1 E := fun d H' s2 h => e d H' (s.trans s2) h

theorem mem_joinL {s : Nat} {S : List Nat} : ∀ {ps : List (List Nat)}, s ∈ TL.joinL S ps → s ∈ S ∨ ∃ p ∈ ps, s ∈ p
  | [], h => by cases h
  | [p], h => .inr ⟨p, List.mem_cons_self, h⟩
  | p :: q :: r, h => by
    have h' : s ∈ p ++ (S ++ TL.joinL S (q :: r)) := h
    rcases List.mem_append.mp h' with h | h
    · exact .inr ⟨p, List.mem_cons_self, h⟩
    · rcases List.mem_append.mp h with h | h
      · exact .inl h
      · rcases mem_joinL h with h | ⟨z, hz, h⟩
        · exact .inl h
        · exact .inr ⟨z, List.mem_cons_of_mem _ hz, h⟩
theorem join_free {s : Nat} {y : Str} {ps : List Str} (hy : s ∉ sg y) (hp : ∀ p ∈ ps, s ∉ sg p) : s ∉ sg (Txt.join y ps) := fun h => by
  rw [TL.join_eq] at h
  have h' : s ∈ TL.tl (Str.join y ps) := h
  rw [TL.tl_join] at h'
  rcases mem_joinL h' with h | ⟨p, hm, h⟩
  · exact hy h
  · obtain ⟨z, hz, rfl⟩ := List.mem_map.mp hm
    exact hp z hz h
theorem line_free {y : Str} {l : List (Option Str)} (hb : isBits y = true) (ok : OkL isT l) : 10 ∉ sg (lineW (y, l)) := join_free (by decide) fun p hp => by
  rcases List.mem_cons.mp hp with rfl | hp
  · exact hd0_free hb (by decide) (by decide) (by decide)
  · exact wd_free ok (by decide) (by decide) p hp
theorem head_free {word : Str} {w : Nat} (h : word = "table" ∨ word = "wish") (hw : w ≤ 32) : 10 ∉ sg (headW word w) := by
  have h1 : ∀ k : Fin 33, 10 ∉ sg (headW "table" k) ∧ 10 ∉ sg (headW "wish" k) := by decide +kernel
  rcases h with rfl | rfl
  · exact (h1 ⟨w, by omega⟩).1
  · exact (h1 ⟨w, by omega⟩).2
/-- rows in their order, each as it is kept -/
structure Can (w : Nat) (ws : WRows) : Prop where
  ok : RowsW isT w ws
  up : (ws.map (·.1)).Pairwise fun a b => sg a < sg b
  asc : ∀ r ∈ ws, ascO r.2 = r.2
theorem Can.keys {w : Nat} {ws : WRows} (c : Can w ws) : sortS (ws.map (·.1)) = ws.map (·.1) := (sortS_of (.refl _) (pw_up (c.up.imp fun h => List.le_of_lt h))).symm
theorem Can.sort {w : Nat} {ws : WRows} (c : Can w ws) : sortW ws = ws := by
  unfold sortW
  rw [c.keys, List.map_map]
  conv => rhs; rw [← List.map_id ws]
  refine List.map_congr_left fun r hr => ?_
  show (r.1, ascO (look ws r.1)) = r
  rw [look_mem c.ok.pfx.nd (y := r.1) (l := r.2) hr, c.asc r hr]
theorem Can.take {w : Nat} {ws : WRows} (c : Can w ws) (n : Nat) : Can w (ws.take n) := by
  have sub : (ws.take n).Sublist ws := List.take_sublist _ _
  have subk := sub.map (·.1)
  exact ⟨⟨⟨c.ok.pfx.nd.sublist subk, fun y hy => c.ok.pfx.bits y (subk.subset hy), fun y hy => c.ok.pfx.len y (subk.subset hy)⟩, fun r hr => c.ok.ok r (sub.subset hr)⟩, c.up.sublist subk, fun r hr => c.asc r (sub.subset hr)⟩
/-- the rows of a table -/
def tgt0 : List (Option Str) → V
  | [some t] => .str t
  | _ => .non
def kvT (ws : WRows) : List (Key × V) := ws.map fun r => (.inr r.1, tgt0 r.2)
theorem line_split {y : Str} {l : List (Option Str)} (hb : isBits y = true) (ok : OkL isT l) : Txt.split (lineW (y, l)) " " = hd0 y :: l.map wd := TL.split_join (y := (" " : Str)) (s := 32) (S := []) rfl (by decide +kernel) (by simp) fun p hp => by
  rcases List.mem_cons.mp hp with rfl | hp
  · exact hd0_free hb (by decide) (by decide) (by decide)
  · exact wd_free ok (by decide) (by decide) p hp
theorem names_sm {l : List (Option Str)} (ok : OkL isT l) : ∀ x ∈ l.map wd, Sm 32 x := fun x hx => by
  obtain ⟨o, ho, rfl⟩ := List.mem_map.mp hx
  cases o with
  | none => exact ⟨by show (Str.length "-") ≤ 32; decide, fun c hc => by have : c ∈ [45] := hc; rw [List.mem_singleton.mp this]; decide⟩
  | some u =>
    have hs := t_signs (ok.tg _ ho)
    exact ⟨Nat.le_trans (okl_wd ok u (List.mem_map.mpr ⟨some u, ho, rfl⟩)) (by decide), fun c hc => by have := hs.1 c hc; omega⟩
/-- a text with more lines behind the rows -/
def textX (word : Str) (w : Nat) (ws : WRows) (tl : List Str) : Str := Txt.join (Str.ofString "\n") (headW word w :: (ws.map lineW ++ tl))
theorem textX_nil (word : Str) (w : Nat) (ws : WRows) : textX word w ws [] = textW word w ws := by
  unfold textX textW
  rw [List.append_nil]

/-! ### texts cut at one sign -/
theorem spl1 {s : Nat} : ∀ (l acc : List Nat), s ∉ acc → (TL.spl [s] 0 acc l).length = l.count s + 1 ∧ ∀ p ∈ TL.spl [s] 0 acc l, s ∉ p
  | [], acc, h => ⟨rfl, fun p hp => by
    rw [TL.spl_nil] at hp
    rw [List.mem_singleton.mp hp]
    exact h⟩
  | c :: r, acc, h => by
    by_cases e : c = s
    · subst e
      rw [TL.spl_hit (S := [c]) (acc := acc) (r := r) (c := c) (show (([c] : List Nat) == [c]) = true from beq_self_eq_true _)]
      obtain ⟨h1, h2⟩ := spl1 r [] List.not_mem_nil
      refine ⟨?_, fun p hp => ?_⟩
      · show (TL.spl [c] 0 [] r).length + 1 = _
        rw [h1, List.count_cons_self]
      · rcases List.mem_cons.mp hp with rfl | hp
        · exact h
        · exact h2 p hp
    · rw [TL.spl_miss (TL.pre_of_head [] r e), List.count_cons_of_ne e]
      exact spl1 r (acc ++ [c]) fun hm => by
        rcases List.mem_append.mp hm with hm | hm
        · exact h hm
        · exact e (List.mem_singleton.mp hm).symm
theorem split_one {y : Str} {s : Nat} (ey : sg y = [s]) (hk : y.cps.all (· < 256) = true) (x : Str) : (Txt.split x y).length = (sg x).count s + 1 ∧ ∀ p ∈ Txt.split x y, s ∉ sg p := by
  have e := TL.split_spl x y (by show sg y ≠ []; rw [ey]; simp) (TL.kind_ok hk)
  have e' : (Txt.split x y).map sg = TL.spl [s] 0 [] (sg x) := by rw [← ey]; exact e
  obtain ⟨h1, h2⟩ := spl1 (s := s) (sg x) [] List.not_mem_nil
  refine ⟨?_, fun p hp => ?_⟩
  · rw [← h1, ← e', List.length_map]
  · exact h2 _ (by rw [← e']; exact List.mem_map.mpr ⟨p, hp, rfl⟩)
theorem split_sp (x : Str) : (Txt.split x " ").length = (sg x).count 32 + 1 ∧ ∀ p ∈ Txt.split x " ", 32 ∉ sg p := split_one (y := " ") rfl (by decide +kernel) x
theorem split_nl (x : Str) : (Txt.split x (Str.ofString "\n")).length = (sg x).count 10 + 1 ∧ ∀ p ∈ Txt.split x (Str.ofString "\n"), 10 ∉ sg p := split_one (y := Str.ofString "\n") rfl (by decide +kernel) x
theorem join_back (x y : Str) : Txt.join y (Txt.split x y) = x := by
  rw [TL.join_eq]
  exact StrLaws.join_split x y
theorem joinL_part {S p : List Nat} : ∀ {ps : List (List Nat)}, p ∈ ps → p.length ≤ (TL.joinL S ps).length ∧ ∀ c ∈ p, c ∈ TL.joinL S ps
  | [], h => absurd h List.not_mem_nil
  | [q], h => by
    rw [List.mem_singleton.mp h]
    exact ⟨Nat.le_refl _, fun _ h => h⟩
  | q :: r :: t, h => by
    show p.length ≤ (q ++ (S ++ TL.joinL S (r :: t))).length ∧ ∀ c ∈ p, c ∈ q ++ (S ++ TL.joinL S (r :: t))
    rw [List.length_append, List.length_append]
    rcases List.mem_cons.mp h with rfl | h
    · exact ⟨by omega, fun c hc => List.mem_append_left _ hc⟩
    · obtain ⟨h1, h2⟩ := joinL_part (S := S) (p := p) h
      exact ⟨by omega, fun c hc => List.mem_append_right _ (List.mem_append_right _ (h2 c hc))⟩
theorem part_of {x y p : Str} (h : p ∈ Txt.split x y) : p.length ≤ x.length ∧ ∀ c ∈ sg p, c ∈ sg x := by
  have e := congrArg sg (join_back x y)
  rw [TL.join_eq] at e
  have e' : TL.joinL (sg y) ((Txt.split x y).map sg) = sg x := by
    rw [← e]
    exact (TL.tl_join y _).symm
  have := joinL_part (S := sg y) (p := sg p) (ps := (Txt.split x y).map sg) (List.mem_map.mpr ⟨p, h, rfl⟩)
  rw [e', sg_len, sg_len] at this
  exact this
/-- how long the texts are, with a sign behind each -/
def tot (xs : List Str) : Nat := (xs.map fun x => x.length + 1).sum
theorem tot_cons (x : Str) (xs : List Str) : tot (x :: xs) = x.length + 1 + tot xs := rfl
theorem tot_app (xs ys : List Str) : tot (xs ++ ys) = tot xs + tot ys := by
  unfold tot
  rw [List.map_append, List.sum_append]
theorem tot_mem {xs : List Str} {x : Str} (h : x ∈ xs) : x.length + 1 ≤ tot xs := by
  induction xs with
  | nil => cases h
  | cons y r ih =>
    rw [tot_cons]
    rcases List.mem_cons.mp h with rfl | h
    · omega
    · have := ih h
      omega
theorem tot_le {xs : List Str} {m : Nat} (h : ∀ x ∈ xs, x.length ≤ m) : tot xs ≤ xs.length * (m + 1) := by
  induction xs with
  | nil => exact Nat.zero_le _
  | cons y r ih =>
    rw [tot_cons, List.length_cons, Nat.succ_mul]
    have := ih fun z hz => h z (List.mem_cons_of_mem _ hz)
    have := h y List.mem_cons_self
    omega
theorem tot_set (xs : List Str) (i : Nat) (v : Str) : tot (xs.set i v) ≤ tot xs + v.length + 1 := by
  induction xs generalizing i with
  | nil => rw [List.set_nil]; omega
  | cons y r ih =>
    cases i with
    | zero => rw [List.set_cons_zero, tot_cons, tot_cons]; omega
    | succ i =>
      rw [List.set_cons_succ, tot_cons, tot_cons]
      have := ih i
      omega
theorem tot_cut (xs : List Str) {i j : Nat} (h : i ≤ j) : tot (xs.take i) + tot (xs.drop j) ≤ tot xs := by
  have e : xs.drop i = (xs.drop i).take (j - i) ++ xs.drop j := by
    conv => lhs; rw [← List.take_append_drop (j - i) (xs.drop i)]
    rw [List.drop_drop, show i + (j - i) = j by omega]
  have h1 : tot xs = tot (xs.take i) + tot (xs.drop i) := by rw [← tot_app, List.take_append_drop]
  rw [h1, e, tot_app]
  omega
theorem joinL_tot {s : Nat} : ∀ ps : List (List Nat), (TL.joinL [s] ps).length ≤ (ps.map fun p => p.length + 1).sum ∧ ((ps ≠ [] → (ps.map fun p => p.length + 1).sum = (TL.joinL [s] ps).length + 1)) ∧ (TL.joinL [s] ps).count s = (ps.map fun p => p.count s).sum + (ps.length - 1)
  | [] => ⟨Nat.zero_le _, fun h => absurd rfl h, rfl⟩
  | [p] => ⟨by show p.length ≤ p.length + 1 + 0; omega, fun _ => rfl, by show p.count s = p.count s + 0 + 0; omega⟩
  | p :: q :: r => by
    obtain ⟨h1, h2, h3⟩ := joinL_tot (s := s) (q :: r)
    have h2' := h2 (by simp)
    have e : TL.joinL [s] (p :: q :: r) = p ++ ([s] ++ TL.joinL [s] (q :: r)) := rfl
    have e1 : ((p :: q :: r).map fun p => p.length + 1).sum = p.length + 1 + ((q :: r).map fun p => p.length + 1).sum := rfl
    have e2 : ((p :: q :: r).map fun p => p.count s).sum = p.count s + ((q :: r).map fun p => p.count s).sum := rfl
    rw [e, e1, e2, List.length_append, List.length_append, List.count_append, List.count_append, h3, List.count_singleton_self]
    have e3 : (p :: q :: r).length = r.length + 2 := rfl
    have e4 : (q :: r).length = r.length + 1 := rfl
    rw [e3, e4]
    refine ⟨?_, fun _ => ?_, ?_⟩
    · show p.length + (1 + _) ≤ _
      omega
    · show _ = p.length + (1 + _) + 1
      omega
    · omega
theorem sum_map_sg (f : List Nat → Nat) (ps : List Str) : ((ps.map sg).map f).sum = (ps.map fun p => f (sg p)).sum := by rw [List.map_map]; rfl
theorem join1_len {y : Str} {s : Nat} (ey : sg y = [s]) (ps : List Str) : (Txt.join y ps).length ≤ tot ps ∧ (ps ≠ [] → tot ps = (Txt.join y ps).length + 1) ∧ (sg (Txt.join y ps)).count s = (ps.map fun p => (sg p).count s).sum + (ps.length - 1) := by
  have e : sg (Txt.join y ps) = TL.joinL [s] (ps.map sg) := by
    rw [TL.join_eq, ← ey]
    exact TL.tl_join y ps
  obtain ⟨h1, h2, h3⟩ := joinL_tot (s := s) (ps.map sg)
  have et : tot ps = ((ps.map sg).map fun p => p.length + 1).sum := by
    unfold tot
    rw [List.map_map]
    congr 1
  rw [← sg_len, e, et]
  refine ⟨h1, fun hn => h2 fun z => hn (List.map_eq_nil_iff.mp z), ?_⟩
  rw [h3, List.length_map, List.map_map]
  rfl
/-- lines: how many, how long, how many blanks in each, their signs -/
structure Ls (xs : List Str) (n W T : Nat) : Prop where
  few : xs.length ≤ n
  tt : tot xs ≤ T
  sp : ∀ x ∈ xs, (sg x).count 32 ≤ W
  ch : ∀ x ∈ xs, ∀ c ∈ sg x, c < 128 ∧ c ≠ 10
theorem Ls.mono {xs : List Str} {n W T n' W' T' : Nat} (h : Ls xs n W T) (h1 : n ≤ n') (h2 : W ≤ W') (h3 : T ≤ T') : Ls xs n' W' T' := ⟨Nat.le_trans h.few h1, Nat.le_trans h.tt h3, fun x hx => Nat.le_trans (h.sp x hx) h2, h.ch⟩
/-- some of the lines, and one in their middle -/
theorem Ls.sub {xs ys : List Str} {n W T : Nat} (h : Ls xs n W T) (hs : ∀ y ∈ ys, y ∈ xs) (hl : ys.length ≤ xs.length) (ht : tot ys ≤ tot xs) : Ls ys n W T := ⟨Nat.le_trans hl h.few, Nat.le_trans ht h.tt, fun y hy => h.sp y (hs y hy), fun y hy => h.ch y (hs y hy)⟩
theorem Ls.mid {xs : List Str} {n W T i j : Nat} {u : Str} (h : Ls xs n W T) (ij : i ≤ j) (hu : u.length ≤ 2 * T + 5002) (su : (sg u).count 32 ≤ W + 2) (cu : ∀ c ∈ sg u, c < 128 ∧ c ≠ 10) : Ls (xs.take i ++ ([u] ++ xs.drop j)) (n + 1) (W + 2) (3 * T + 5003) := by
  have h1 := tot_cut xs ij
  have h2 := h.tt
  have h3 := h.few
  have m : ∀ x ∈ xs.take i ++ ([u] ++ xs.drop j), x = u ∨ x ∈ xs := fun x hx => by
    rcases List.mem_append.mp hx with hx | hx
    · exact .inr (List.mem_of_mem_take hx)
    · rcases List.mem_append.mp hx with hx | hx
      · exact .inl (List.mem_singleton.mp hx)
      · exact .inr (List.mem_of_mem_drop hx)
  refine ⟨?_, ?_, fun x hx => ?_, fun x hx => ?_⟩
  · rw [List.length_append, List.length_append, List.length_take, List.length_drop, List.length_singleton]
    omega
  · rw [tot_app, tot_app]
    have : tot [u] = u.length + 1 + 0 := rfl
    omega
  · rcases m x hx with rfl | hx
    · exact su
    · exact Nat.le_trans (h.sp x hx) (Nat.le_add_right _ _)
  · rcases m x hx with rfl | hx
    · exact cu
    · exact h.ch x hx
/-- a word put among the words of a line -/
theorem put_word {x v : Str} {i T : Nat} {W : Nat} (hx : x.length + 1 ≤ T) (sx : (sg x).count 32 ≤ W) (cx : ∀ c ∈ sg x, c < 128 ∧ c ≠ 10) (hv : v.length ≤ T + 5000) (sv : (sg v).count 32 ≤ 2) (cv : ∀ c ∈ sg v, c < 128 ∧ c ≠ 10) : (Txt.join " " ((Txt.split x " ").set i v)).length ≤ 2 * T + 5002 ∧ (sg (Txt.join " " ((Txt.split x " ").set i v))).count 32 ≤ W + 2 ∧ ∀ c ∈ sg (Txt.join " " ((Txt.split x " ").set i v)), c < 128 ∧ c ≠ 10 := by
  obtain ⟨l1, l2⟩ := split_sp x
  have j1 := join1_len (y := " ") (s := 32) rfl (Txt.split x " ")
  rw [join_back] at j1
  have t1 := j1.2.1 (fun z => by rw [z] at l1; cases l1)
  obtain ⟨k1, _, k3⟩ := join1_len (y := " ") (s := 32) rfl ((Txt.split x " ").set i v)
  have t2 := tot_set (Txt.split x " ") i v
  refine ⟨by omega, ?_, fun c hc => ?_⟩
  · rw [k3, List.length_set, l1]
    have : (((Txt.split x " ").set i v).map fun p => (sg p).count 32).sum ≤ 2 := by
      have zero : ((Txt.split x " ").map fun p => (sg p).count 32).sum = 0 := by
        have : ∀ l : List Str, (∀ p ∈ l, 32 ∉ sg p) → (l.map fun p => (sg p).count 32).sum = 0 := fun l => by
          induction l with
          | nil => exact fun _ => rfl
          | cons a r ih =>
            intro h
            rw [List.map_cons, List.sum_cons, ih fun p hp => h p (List.mem_cons_of_mem _ hp), List.count_eq_zero.mpr (h a List.mem_cons_self)]
        exact this _ l2
      have gen : ∀ (l : List Str) (i : Nat), ((l.set i v).map fun p => (sg p).count 32).sum ≤ (l.map fun p => (sg p).count 32).sum + 2 := fun l => by
        induction l with
        | nil => intro i; rw [List.set_nil]; omega
        | cons a r ih =>
          intro i
          cases i with
          | zero => rw [List.set_cons_zero, List.map_cons, List.sum_cons, List.map_cons, List.sum_cons]; omega
          | succ i =>
            rw [List.set_cons_succ, List.map_cons, List.sum_cons, List.map_cons, List.sum_cons]
            have := ih i
            omega
      have := gen (Txt.split x " ") i
      omega
    omega
  · rw [TL.join_eq] at hc
    have hc' : c ∈ TL.tl (Str.join " " ((Txt.split x " ").set i v)) := hc
    rw [TL.tl_join] at hc'
    rcases mem_joinL hc' with h | ⟨p, hm, h⟩
    · have : c ∈ [32] := h
      rw [List.mem_singleton.mp this]
      decide
    · obtain ⟨z, hz, rfl⟩ := List.mem_map.mp hm
      rcases List.mem_or_eq_of_mem_set hz with hz | rfl
      · exact cx c ((part_of hz).2 c h)
      · exact cv c h

/-! ### which lines fit -/
def wordB (t : Bool) : Str := if t then "table" else "wish"
theorem wordB_or (t : Bool) : wordB t = "table" ∨ wordB t = "wish" := by cases t; exact .inr rfl; exact .inl rfl
def HeadFits (b : Str) : Prop := ∃ (t : Bool) (z : Nat), b = headW (wordB t) z ∧ 1 ≤ z ∧ z ≤ 32
/-- of the words of a first line: a table or not, and its width -/
def hfW : List Str → Option (Bool × Nat)
  | [a, c] => if a = "table" ∨ a = "wish" then ((List.range 32).find? fun k => decide (c = numS (k + 1))).map fun k => (decide (a = "table"), k + 1) else none
  | _ => none
theorem head_split {t : Bool} {z : Nat} : Txt.split (headW (wordB t) z) " " = [wordB t, numS z] := by
  have e : headW (wordB t) z = Txt.join " " [wordB t, numS z] := by
    rw [TL.join_eq]
    rfl
  rw [e]
  refine TL.split_join (y := (" " : Str)) (s := 32) (S := []) rfl (by decide +kernel) (by simp) fun p hp => ?_
  rcases List.mem_cons.mp hp with rfl | hp
  · cases t <;> decide
  · rw [List.mem_singleton.mp hp]
    show 32 ∉ TL.tl (Str.ofString (toString ((z : Nat) : Int)))
    rw [TL.tl_num]
    exact TL.numL_free (.inl (by decide))
theorem hfW_some {b : Str} {t : Bool} {z : Nat} (h : hfW (Txt.split b " ") = some (t, z)) : b = headW (wordB t) z ∧ 1 ≤ z ∧ z ≤ 32 := by
  have ej := join_back b " "
  revert h ej
  generalize Txt.split b " " = xs
  intro h ej
  match xs, h with
  | [a, c], h =>
    have h' : (if a = "table" ∨ a = "wish" then ((List.range 32).find? fun k => decide (c = numS (k + 1))).map fun k => (decide (a = "table"), k + 1) else none) = some (t, z) := h
    split at h'
    · rename_i hw
      obtain ⟨k, hk, e⟩ := Option.map_eq_some_iff.mp h'
      have hk1 := List.find?_some hk
      have hk2 := List.mem_range.mp (List.mem_of_find?_eq_some hk)
      have ec := of_decide_eq_true hk1
      have e1 : decide (a = "table") = t := congrArg Prod.fst e
      have e2 : k + 1 = z := congrArg Prod.snd e
      refine ⟨?_, by omega, by omega⟩
      rw [← ej, ec, ← e2]
      have ea : a = wordB t := by
        rw [← e1]
        rcases hw with rfl | rfl
        · rfl
        · rfl
      rw [ea, TL.join_eq]
      rfl
    · cases h'
  | [], h => cases h
  | [_], h => cases h
  | _ :: _ :: _ :: _, h => cases h
theorem hfW_head {t : Bool} {z : Nat} (z1 : 1 ≤ z) (z32 : z ≤ 32) : ∃ q, hfW [wordB t, numS z] = some q := by
  have hs : ((List.range 32).find? fun k => decide (numS z = numS (k + 1))).isSome = true := List.find?_isSome.mpr ⟨z - 1, List.mem_range.mpr (by omega), decide_eq_true (by rw [show z - 1 + 1 = z by omega])⟩
  obtain ⟨k, hk⟩ := Option.isSome_iff_exists.mp hs
  refine ⟨(decide (wordB t = "table"), k + 1), ?_⟩
  show (if wordB t = "table" ∨ wordB t = "wish" then ((List.range 32).find? fun k => decide (numS z = numS (k + 1))).map fun k => (decide (wordB t = "table"), k + 1) else none) = _
  rw [if_pos (wordB_or t), hk]
  rfl
theorem hfW_none {b : Str} (h : hfW (Txt.split b " ") = none) : ¬ HeadFits b := by
  rintro ⟨t, z, rfl, z1, z32⟩
  rw [head_split] at h
  obtain ⟨q, e⟩ := hfW_head (t := t) z1 z32
  rw [e] at h
  cases h
/-- the words of a row -/
structure GoodRow (x : Str) (ns : List Str) (w : Nat) (y : Str) (l : List (Option Str)) : Prop where
  hd : x = hd0 y
  bits : isBits y = true
  len : y.length ≤ w
  nm : ns = l.map wd
  ok : OkL isT l
  asc : ascO l = l
def fineW (u : Str) : Bool := decide (u = "-") || isT u
theorem fine_wd {o : Option Str} (h : tgtO isT o) : fineW (wd o) = true := by
  unfold fineW
  cases o with
  | none => rfl
  | some u =>
    rw [Bool.or_eq_true]
    exact .inr h
theorem GoodRow.pw {x : Str} {ns : List Str} {w : Nat} {y : Str} {l : List (Option Str)} (g : GoodRow x ns w y l) : Kt.pw x w = true := by
  rw [g.hd]
  exact pw_of g.bits g.len
theorem GoodRow.nd {x : Str} {ns : List Str} {w : Nat} {y : Str} {l : List (Option Str)} (g : GoodRow x ns w y l) : ns.Nodup := by
  rw [g.nm]
  exact names_nd g.ok
theorem GoodRow.up {x : Str} {ns : List Str} {w : Nat} {y : Str} {l : List (Option Str)} (g : GoodRow x ns w y l) : sortedS ns = true := by
  rw [g.nm]
  exact names_up g.ok g.asc
theorem GoodRow.fine {x : Str} {ns : List Str} {w : Nat} {y : Str} {l : List (Option Str)} (g : GoodRow x ns w y l) : ∀ u ∈ ns, fineW u = true := fun u hu => by
  rw [g.nm] at hu
  obtain ⟨o, ho, rfl⟩ := List.mem_map.mp hu
  exact fine_wd (g.ok.tg o ho)
def bkW (u : Str) : Option Str := if u = "-" then none else some u
def bk0 (x : Str) : Str := if x = "*" then "" else x
theorem bk0_hd0 {y : Str} (h : isBits y = true) : bk0 (hd0 y) = y := by
  unfold hd0
  split
  · rename_i e
    rw [e]
    rfl
  · unfold bk0
    rw [if_neg (bits_nstar h)]
theorem wd_bk (u : Str) : wd (bkW u) = u := by
  unfold bkW
  split
  · rename_i e
    exact e.symm
  · rfl
theorem dash_sg : sg (("-" : String) : Str) = [45] := by decide +kernel
theorem t_over {x : Str} (h : isT x = true) : [45] < sg x ∧ ¬ sg x ≤ [45] := by
  obtain ⟨h1, h2⟩ := t_signs h
  cases e : sg x with
  | nil => exact absurd e h2
  | cons c r =>
    have hc := h1 c (by rw [e]; exact List.mem_cons_self)
    have lt : [45] < c :: r := List.cons_lt_cons_iff.mpr (.inl (by omega))
    exact ⟨lt, fun hle => hle lt⟩
theorem fine_t {u : Str} (h : fineW u = true) (n : u ≠ "-") : isT u = true := by
  unfold fineW at h
  rw [Bool.or_eq_true] at h
  rcases h with h | h
  · exact absurd (of_decide_eq_true h) n
  · exact h
theorem asc_bk {ns : List Str} (nd : ns.Nodup) (up : sortedS ns = true) (fi : ∀ u ∈ ns, fineW u = true) : ascO (ns.map bkW) = ns.map bkW := by
  have some_map : ∀ r : List Str, ("-" : Str) ∉ r → r.map bkW = r.map some := fun r hr => List.map_congr_left fun u hu => by
    unfold bkW
    rw [if_neg fun e => hr (by rw [← e]; exact hu)]
  have srt : ∀ r : List Str, r.Pairwise LeS → sortS r = r := fun r hr => (sortS_of (.refl _) (pw_up hr)).symm
  have pw := up_pw up
  by_cases hd : ("-" : Str) ∈ ns
  · cases ns with
    | nil => cases hd
    | cons a r =>
      have ea : a = "-" := by
        rcases List.mem_cons.mp hd with e | hm
        · exact e.symm
        · refine Classical.byContradiction fun ne => ?_
          have := (List.pairwise_cons.mp pw).1 _ hm
          have h2 : sg a ≤ sg (("-" : String) : Str) := this
          rw [dash_sg] at h2
          exact (t_over (fine_t (fi a List.mem_cons_self) ne)).2 h2
      subst ea
      have nr := (List.nodup_cons.mp nd).1
      rw [List.map_cons, some_map r nr]
      unfold ascO
      rw [if_pos (by show none ∈ bkW "-" :: r.map some; exact List.mem_cons_self)]
      show [none] ++ (sortS ((r.map some).filterMap id)).map some = none :: r.map some
      rw [filt_some, srt r (List.pairwise_cons.mp pw).2]
      rfl
  · rw [some_map ns hd]
    unfold ascO
    rw [if_neg (fun h => by obtain ⟨_, _, e⟩ := List.mem_map.mp h; cases e), filt_some, srt ns pw]
    rfl
theorem pw_back {x : Str} {w : Nat} (h : Kt.pw x w = true) : x = hd0 (bk0 x) ∧ isBits (bk0 x) = true ∧ (bk0 x).length ≤ w := by
  unfold Kt.pw at h
  rw [Bool.or_eq_true] at h
  by_cases e : x = "*"
  · subst e
    exact ⟨rfl, by decide +kernel, Nat.zero_le _⟩
  · have h := h.resolve_left fun z => e (of_decide_eq_true z)
    rw [Bool.and_eq_true] at h
    have ne : x ≠ "" := fun z => by
      have := h.1
      rw [decide_eq_true z] at this
      cases this
    have h2 : (decide ((x.length : Int) ≤ w) && isBits x) = true := h.2
    rw [Bool.and_eq_true, decide_eq_true_iff] at h2
    have eb : bk0 x = x := by unfold bk0; rw [if_neg e]
    rw [eb]
    refine ⟨?_, h2.2, by omega⟩
    unfold hd0
    rw [if_neg ne]
theorem good_of {x : Str} {ns : List Str} {w : Nat} (hp : Kt.pw x w = true) (nd : ns.Nodup) (up : sortedS ns = true) (fi : ∀ u ∈ ns, fineW u = true) (few : ns.length ≤ 40) : GoodRow x ns w (bk0 x) (ns.map bkW) := by
  obtain ⟨h1, h2, h3⟩ := pw_back hp
  refine ⟨h1, h2, h3, ?_, ⟨?_, fun o ho => ?_, by rw [List.length_map]; exact few⟩, asc_bk nd up fi⟩
  · rw [List.map_map]
    conv => lhs; rw [← List.map_id ns]
    refine List.map_congr_left fun u _ => ?_
    exact (wd_bk u).symm
  · refine List.pairwise_map.mpr (nd.imp fun {a b} ne e => ne ?_)
    rw [← wd_bk a, ← wd_bk b, e]
  · obtain ⟨u, hu, rfl⟩ := List.mem_map.mp ho
    unfold bkW
    split
    · trivial
    · rename_i ne
      exact fine_t (fi u hu) ne
/-- the line of a row behind the row of a prefix -/
def RowFits (t : Bool) (z : Nat) (last : Option Str) (b : Str) : Prop := ∃ y l, b = lineW (y, l) ∧ isBits y = true ∧ y.length ≤ z ∧ OkL isT l ∧ ascO l = l ∧ (∀ p, last = some p → sg p < sg y) ∧ (t = true → ∃ u, l = [some u])
theorem good_line {b x : Str} {ns : List Str} {w : Nat} {y : Str} {l : List (Option Str)} (e : Txt.split b " " = x :: ns) (g : GoodRow x ns w y l) : b = lineW (y, l) := by
  rw [← join_back b " ", e, g.hd, g.nm]
  rfl
theorem line_good {y : Str} {l : List (Option Str)} {w : Nat} (h1 : isBits y = true) (h2 : y.length ≤ w) (h3 : OkL isT l) (h4 : ascO l = l) : Txt.split (lineW (y, l)) " " = hd0 y :: l.map wd ∧ GoodRow (hd0 y) (l.map wd) w y l := ⟨line_split h1 h3, rfl, h1, h2, rfl, h3, h4⟩
/-- how the law sees the names in their order -/
def eW (u : Str) : Str := if u = "-" then "" else u
theorem eW_lt {u v : Str} (hu : fineW u = true) (hv : fineW v = true) : sg (eW u) < sg (eW v) ↔ sg u < sg v := by
  unfold eW
  by_cases h1 : u = "-"
  · by_cases h2 : v = "-"
    · rw [if_pos h1, if_pos h2, h1, h2]
      exact ⟨fun h => absurd h (List.lt_irrefl _), fun h => absurd h (List.lt_irrefl _)⟩
    · rw [if_pos h1, if_neg h2, h1, dash_sg]
      have ht := fine_t hv h2
      refine ⟨fun _ => (t_over ht).1, fun _ => ?_⟩
      have := (t_signs ht).2
      cases e : sg v with
      | nil => exact absurd e this
      | cons c r => exact List.nil_lt_cons c r
  · by_cases h2 : v = "-"
    · rw [if_neg h1, if_pos h2, h2, dash_sg]
      have ht := t_over (fine_t hu h1)
      exact ⟨fun h => absurd h (by show ¬ (sg u < []); exact List.not_lt_nil _), fun h => absurd (List.le_of_lt h) ht.2⟩
    · rw [if_neg h1, if_neg h2]
theorem strict_up {xs : List Str} (nd : xs.Nodup) (up : (xs).Pairwise LeS) : xs.Pairwise fun a b => sg a < sg b := (nd.and up).imp fun {a b} h => by
  rcases List.le_iff_lt_or_eq.mp h.2 with q | q
  · exact q
  · exact absurd (str_ext q) h.1
/-- each less than the next -/
def adjB (xs : List Str) : Bool := (List.range (xs.length - 1)).all fun k => decide (sg (xs.getD k "") < sg (xs.getD (k + 1) ""))
theorem adj_pw {xs : List Str} : adjB xs = true ↔ xs.Pairwise fun a b => sg a < sg b := by
  unfold adjB
  rw [List.all_eq_true]
  constructor
  · intro h
    have step : ∀ k, k + 1 < xs.length → sg (xs.getD k "") < sg (xs.getD (k + 1) "") := fun k hk => of_decide_eq_true (h k (List.mem_range.mpr (by omega)))
    have far : ∀ d i, i + d + 1 < xs.length → sg (xs.getD i "") < sg (xs.getD (i + d + 1) "") := fun d => by
      induction d with
      | zero => exact fun i hi => step i hi
      | succ d ih =>
        intro i hi
        have h1 := ih i (by omega)
        have h2 := step (i + d + 1) (by omega)
        exact List.lt_trans h1 h2
    refine List.pairwise_iff_getElem.mpr fun i j hi hj hij => ?_
    have := far (j - i - 1) i (by omega)
    rw [show i + (j - i - 1) + 1 = j by omega] at this
    rw [List.getD_eq_getElem?_getD, List.getD_eq_getElem?_getD, List.getElem?_eq_getElem hi, List.getElem?_eq_getElem hj] at this
    exact this
  · intro h k hk
    have hk := List.mem_range.mp hk
    have := List.pairwise_iff_getElem.mp h k (k + 1) (by omega) (by omega) (by omega)
    refine decide_eq_true ?_
    rw [List.getD_eq_getElem?_getD, List.getD_eq_getElem?_getD, List.getElem?_eq_getElem (show k < xs.length by omega), List.getElem?_eq_getElem (show k + 1 < xs.length by omega)]
    exact this
theorem adj_names {ns : List Str} (fi : ∀ u ∈ ns, fineW u = true) : adjB (ns.map eW) = true ↔ ns.Nodup ∧ sortedS ns = true := by
  rw [adj_pw, List.pairwise_map]
  constructor
  · intro h
    have h2 : ns.Pairwise fun a b => sg a < sg b := h.imp_of_mem fun ha hb q => (eW_lt (fi _ ha) (fi _ hb)).mp q
    exact ⟨h2.imp fun q e => by rw [e] at q; exact List.lt_irrefl _ q, pw_up (h2.imp fun q => List.le_of_lt q)⟩
  · rintro ⟨nd, up⟩
    have h2 : ns.Pairwise fun a b => sg a < sg b := strict_up nd (up_pw up)
    exact h2.imp_of_mem fun ha hb q => (eW_lt (fi _ ha) (fi _ hb)).mpr q
def lastB : Option Str → Str → Bool
  | none, _ => true
  | some p, y => decide (sg p < sg y)
/-- of the words of a line: whether it is a row -/
def rfB (t : Bool) (z : Nat) (last : Option Str) : List Str → Bool
  | [] => false
  | x :: ns => Kt.pw x z && (lastB last (bk0 x) && (if t then decide (ns.length = 1) && isT (ns.getD 0 "") else ns.all fineW && adjB (ns.map eW)))
theorem lastB_iff {last : Option Str} {y : Str} : lastB last y = true ↔ ∀ p, last = some p → sg p < sg y := by
  cases last with
  | none => exact ⟨fun _ p e => (by cases e), fun _ => rfl⟩
  | some p => exact ⟨fun h q e => by rw [← Option.some.inj e]; exact of_decide_eq_true h, fun h => decide_eq_true (h p rfl)⟩
theorem rf_iff {t : Bool} {z : Nat} {last : Option Str} {b : Str} (few : (Txt.split b " ").length ≤ 41) : rfB t z last (Txt.split b " ") = true ↔ RowFits t z last b := by
  constructor
  · intro h
    cases e : Txt.split b " " with
    | nil => rw [e] at h; cases h
    | cons x ns =>
      rw [e] at h few
      have few : ns.length + 1 ≤ 41 := few
      have h' : (Kt.pw x z && (lastB last (bk0 x) && (if t then decide (ns.length = 1) && isT (ns.getD 0 "") else ns.all fineW && adjB (ns.map eW)))) = true := h
      rw [Bool.and_eq_true, Bool.and_eq_true, lastB_iff] at h'
      obtain ⟨hp, hl, hr⟩ := h'
      cases t with
      | true =>
        rw [if_pos rfl, Bool.and_eq_true, decide_eq_true_iff] at hr
        obtain ⟨u, eu⟩ : ∃ u, ns = [u] := List.length_eq_one_iff.mp hr.1
        subst eu
        have ht : isT u = true := hr.2
        have g := good_of hp (List.nodup_cons.mpr ⟨List.not_mem_nil, List.nodup_nil⟩) rfl (fun v hv => by rw [List.mem_singleton.mp hv]; unfold fineW; rw [ht, Bool.or_true]) (show 1 ≤ 40 by decide)
        have eb : bkW u = some u := by unfold bkW; rw [if_neg (t_dash ht)]
        exact ⟨_, _, good_line e g, g.bits, g.len, g.ok, g.asc, hl, fun _ => ⟨u, by rw [List.map_cons, eb]; rfl⟩⟩
      | false =>
        rw [if_neg Bool.false_ne_true, Bool.and_eq_true, List.all_eq_true] at hr
        obtain ⟨nd, up⟩ := (adj_names hr.1).mp hr.2
        have g := good_of hp nd up hr.1 (by omega)
        exact ⟨_, _, good_line e g, g.bits, g.len, g.ok, g.asc, hl, fun z => by cases z⟩
  · rintro ⟨y, l, rfl, h1, h2, h3, h4, h5, h6⟩
    obtain ⟨e, g⟩ := line_good (w := z) h1 h2 h3 h4
    rw [e]
    show (Kt.pw (hd0 y) z && (lastB last (bk0 (hd0 y)) && (if t then decide ((l.map wd).length = 1) && isT ((l.map wd).getD 0 "") else (l.map wd).all fineW && adjB ((l.map wd).map eW)))) = true
    rw [bk0_hd0 h1, g.pw, Bool.and_eq_true, Bool.and_eq_true, lastB_iff]
    refine ⟨rfl, h5, ?_⟩
    cases t with
    | true =>
      obtain ⟨u, rfl⟩ := h6 rfl
      rw [if_pos rfl, Bool.and_eq_true]
      exact ⟨rfl, h3.tg (some u) List.mem_cons_self⟩
    | false =>
      rw [if_neg Bool.false_ne_true, Bool.and_eq_true, List.all_eq_true]
      exact ⟨g.fine, (adj_names g.fine).mpr ⟨g.nd, g.up⟩⟩
/-- the index of the first line that does not fit, from the line k on -/
def rowsB (t : Bool) (z : Nat) : Option Str → Nat → List Str → Option Nat
  | _, _, [] => none
  | last, k, b :: bs => if rfB t z last (Txt.split b " ") then rowsB t z (some (bk0 ((Txt.split b " ").getD 0 ""))) (k + 1) bs else some k
def outB : List Str → Option Nat
  | [] => some 0
  | h :: bs => match hfW (Txt.split h " ") with
    | none => some 0
    | some q => rowsB q.1 q.2 none 1 bs
def lastP (ws : WRows) : Option Str := (ws.map (·.1)).getLast?
theorem Can.snoc {z : Nat} {ws : WRows} {y : Str} {l : List (Option Str)} (c : Can z ws) (h1 : isBits y = true) (h2 : y.length ≤ z) (h3 : OkL isT l) (h4 : ascO l = l) (h5 : ∀ p, lastP ws = some p → sg p < sg y) : Can z (ws ++ [(y, l)]) := by
  have up : (ws.map (·.1)).Pairwise (fun a b => sg a < sg b) := c.up
  have all : ∀ p ∈ ws.map (·.1), sg p < sg y := fun p hp => by
    have ne : ws.map (·.1) ≠ [] := List.ne_nil_of_mem hp
    have hl := List.getLast?_eq_some_getLast ne
    have hlt := h5 _ hl
    have e : (ws.map (·.1)).dropLast ++ [(ws.map (·.1)).getLast ne] = ws.map (·.1) := List.dropLast_concat_getLast ne
    rw [← e] at hp up
    rcases List.mem_append.mp hp with hp | hp
    · exact List.lt_trans ((List.pairwise_append.mp up).2.2 p hp _ (List.mem_singleton.mpr rfl)) hlt
    · rw [List.mem_singleton.mp hp]
      exact hlt
  have up2 : ((ws ++ [(y, l)]).map (·.1)).Pairwise (fun a b => sg a < sg b) := by
    rw [List.map_append]
    refine List.pairwise_append.mpr ⟨c.up, List.pairwise_singleton _ _, fun a ha b hb => ?_⟩
    rw [List.mem_singleton.mp hb]
    exact all a ha
  refine ⟨⟨⟨up2.imp fun q e => by rw [e] at q; exact List.lt_irrefl _ q, fun x hx => ?_, fun x hx => ?_⟩, fun r hr => ?_⟩, up2, fun r hr => ?_⟩
  · rw [List.map_append] at hx
    rcases List.mem_append.mp hx with hx | hx
    · exact c.ok.pfx.bits x hx
    · rw [List.mem_singleton.mp hx]
      exact h1
  · rw [List.map_append] at hx
    rcases List.mem_append.mp hx with hx | hx
    · exact c.ok.pfx.len x hx
    · rw [List.mem_singleton.mp hx]
      exact h2
  · rcases List.mem_append.mp hr with hr | hr
    · exact c.ok.ok r hr
    · rw [List.mem_singleton.mp hr]
      exact h3
  · rcases List.mem_append.mp hr with hr | hr
    · exact c.asc r hr
    · rw [List.mem_singleton.mp hr]
      exact h4
theorem Can.nil (z : Nat) : Can z [] := ⟨⟨⟨List.nodup_nil, fun _ h => absurd h List.not_mem_nil, fun _ h => absurd h List.not_mem_nil⟩, fun _ h => absurd h List.not_mem_nil⟩, List.Pairwise.nil, fun _ h => absurd h List.not_mem_nil⟩
/-- of a table each row has one target -/
def KindB (t : Bool) (ws : WRows) : Prop := t = true → ∀ r ∈ ws, ∃ u, r.2 = [some u]
theorem rows_out {t : Bool} {z : Nat} : ∀ (bs : List Str) (ws : WRows) (k : Nat), (∀ b ∈ bs, (Txt.split b " ").length ≤ 41) → Can z ws → KindB t ws → k = ws.length + 1 →
    (∃ ws2, bs = ws2.map lineW ∧ Can z (ws ++ ws2) ∧ KindB t (ws ++ ws2) ∧ rowsB t z (lastP ws) k bs = none) ∨
    (∃ ws2 bd more, bs = ws2.map lineW ++ bd :: more ∧ Can z (ws ++ ws2) ∧ KindB t (ws ++ ws2) ∧ ¬ RowFits t z (lastP (ws ++ ws2)) bd ∧ rowsB t z (lastP ws) k bs = some (ws.length + ws2.length + 1))
  | [], ws, k, _, c, kd, e => .inl ⟨[], rfl, by rw [List.append_nil]; exact c, by rw [List.append_nil]; exact kd, rfl⟩
  | b :: bs, ws, k, few, c, kd, e => by
    have fb := few b List.mem_cons_self
    have eq : rowsB t z (lastP ws) k (b :: bs) = if rfB t z (lastP ws) (Txt.split b " ") then rowsB t z (some (bk0 ((Txt.split b " ").getD 0 ""))) (k + 1) bs else some k := rfl
    by_cases h : rfB t z (lastP ws) (Txt.split b " ") = true
    · obtain ⟨y, l, rfl, h1, h2, h3, h4, h5, h6⟩ := (rf_iff fb).mp h
      have c2 := c.snoc h1 h2 h3 h4 h5
      have kd2 : KindB t (ws ++ [(y, l)]) := fun ht r hr => by
        rcases List.mem_append.mp hr with hr | hr
        · exact kd ht r hr
        · rw [List.mem_singleton.mp hr]
          exact h6 ht
      have el : some (bk0 ((Txt.split (lineW (y, l)) " ").getD 0 "")) = lastP (ws ++ [(y, l)]) := by
        rw [line_split h1 h3]
        show some (bk0 (hd0 y)) = ((ws ++ [(y, l)]).map (·.1)).getLast?
        rw [bk0_hd0 h1, List.map_append]
        exact List.getLast?_concat.symm
      rw [eq, if_pos h, el]
      have ih := rows_out bs (ws ++ [(y, l)]) (k + 1) (fun b hb => few b (List.mem_cons_of_mem _ hb)) c2 kd2 (by rw [List.length_append]; show k + 1 = ws.length + 1 + 1; omega)
      rcases ih with ⟨ws2, e1, c3, k3, o⟩ | ⟨ws2, bd, more, e1, c3, k3, nf, o⟩
      · exact .inl ⟨(y, l) :: ws2, by rw [List.map_cons, e1], by rw [List.append_assoc] at c3; exact c3, by rw [List.append_assoc] at k3; exact k3, o⟩
      · refine .inr ⟨(y, l) :: ws2, bd, more, by rw [List.map_cons, e1]; rfl, by rw [List.append_assoc] at c3; exact c3, by rw [List.append_assoc] at k3; exact k3, by rw [List.append_assoc] at nf; exact nf, ?_⟩
        rw [o, List.length_append]
        show some (ws.length + 1 + ws2.length + 1) = some (ws.length + (ws2.length + 1) + 1)
        congr 1
        omega
    · refine .inr ⟨[], b, bs, rfl, by rw [List.append_nil]; exact c, by rw [List.append_nil]; exact kd, by rw [List.append_nil]; exact fun q => h ((rf_iff fb).mpr q), ?_⟩
      rw [eq, if_neg h, e]
      rfl
/-- what becomes of the lines of a text -/
theorem out_cases {h : Str} {bs : List Str} (few : ∀ b ∈ bs, (Txt.split b " ").length ≤ 41) :
    (¬ HeadFits h ∧ outB (h :: bs) = some 0) ∨ ∃ t z, h = headW (wordB t) z ∧ 1 ≤ z ∧ z ≤ 32 ∧
      ((∃ ws, bs = ws.map lineW ∧ Can z ws ∧ KindB t ws ∧ outB (h :: bs) = none) ∨ ∃ ws bd more, bs = ws.map lineW ++ bd :: more ∧ Can z ws ∧ KindB t ws ∧ ¬ RowFits t z (lastP ws) bd ∧ outB (h :: bs) = some (ws.length + 1)) := by
  have eq : outB (h :: bs) = match hfW (Txt.split h " ") with
    | none => some 0
    | some q => rowsB q.1 q.2 none 1 bs := rfl
  cases e : hfW (Txt.split h " ") with
  | none => exact .inl ⟨hfW_none e, by rw [eq, e]⟩
  | some q =>
    obtain ⟨t, z⟩ := q
    obtain ⟨e1, z1, z32⟩ := hfW_some e
    refine .inr ⟨t, z, e1, z1, z32, ?_⟩
    rw [eq, e]
    dsimp only
    rcases rows_out (t := t) (z := z) bs [] 1 few (Can.nil z) (fun _ r hr => absurd hr List.not_mem_nil) rfl with ⟨ws, e2, c, k, o⟩ | ⟨ws, bd, more, e2, c, k, nf, o⟩
    · exact .inl ⟨ws, e2, c, k, o⟩
    · refine .inr ⟨ws, bd, more, e2, c, k, nf, ?_⟩
      have o' : rowsB t z none 1 bs = some (0 + ws.length + 1) := o
      rw [o', Nat.zero_add]

theorem in_words {a : Str} : inV (.str a) [.str "table", .str "wish"] = true ↔ a = "table" ∨ a = "wish" := by
  show ((("table" : Str) == a) || ((("wish" : Str) == a) || false)) = true ↔ _
  rw [Bool.or_false, Bool.or_eq_true, beq_iff_eq, beq_iff_eq]
  exact ⟨fun h => h.imp Eq.symm Eq.symm, fun h => h.imp Eq.symm Eq.symm⟩
theorem part_head (b : Str) : ∃ a m c, Txt.partition b " " = (a, m, c) ∧ (∀ t z, b = headW (wordB t) z → 1 ≤ z → z ≤ 32 → a = wordB t ∧ c = numS z) ∧ ((a = "table" ∨ a = "wish") → (∃ k, k < 32 ∧ c = numS (k + 1)) → HeadFits b) := by
  cases hx : Txt.partition b " " with
  | mk a r =>
  obtain ⟨m, c⟩ := r
  refine ⟨a, m, c, rfl, fun t z e _ _ => ?_, ?_⟩
  · rw [e, show Txt.partition (headW (wordB t) z) " " = (wordB t, (" " : Str), numS z) from TL.partition_app (y := (" " : Str)) (s := 32) (S := []) rfl (by cases t <;> decide)] at hx
    exact ⟨(congrArg Prod.fst hx).symm, (congrArg (fun p => p.2.2) hx).symm⟩
  · by_cases hm : 32 ∈ sg b
    · obtain ⟨as, bs, e, hn⟩ := List.eq_append_cons_of_mem hm
      have eb : b = (⟨as.toArray⟩ : Str) ++ " " ++ (⟨bs.toArray⟩ : Str) := TL.ext_tl (by
        rw [TL.tl_append, TL.tl_append]
        show sg b = (as ++ [32]) ++ bs
        rw [e, List.append_assoc]
        rfl)
      have ep : Txt.partition b " " = ((⟨as.toArray⟩ : Str), (" " : Str), (⟨bs.toArray⟩ : Str)) := by
        rw [eb]
        exact TL.partition_app (y := (" " : Str)) (s := 32) (S := []) rfl hn
      rw [ep] at hx
      obtain rfl : (⟨as.toArray⟩ : Str) = a := congrArg Prod.fst hx
      obtain rfl : (⟨bs.toArray⟩ : Str) = c := congrArg (fun p => p.2.2) hx
      rintro hw' ⟨k, hk, ek'⟩
      rw [ek'] at eb
      rcases hw' with h | h
      · exact ⟨true, k + 1, by rw [eb, h]; rfl, by omega, by omega⟩
      · exact ⟨false, k + 1, by rw [eb, h]; rfl, by omega, by omega⟩
    · have ep : Txt.partition b " " = (b, Str.empty, Str.empty) := TL.partition_none (y := (" " : Str)) (s := 32) (S := []) rfl hm
      rw [ep] at hx
      obtain rfl : Str.empty = c := congrArg (fun p => p.2.2) hx
      rintro _ ⟨k, hk, ek'⟩
      have : ∀ k : Fin 32, ¬ Str.empty = numS (k.val + 1) := by decide +kernel
      exact absurd ek' (this ⟨k, hk⟩)
theorem wds_in {c : Str} : (valV (wdsK 32) (.inr c)).isSome = true ↔ ∃ k, k < 32 ∧ c = numS (k + 1) := by
  rw [valV_mem]
  unfold wdsK
  constructor
  · intro h
    obtain ⟨kv, hk, e⟩ := List.mem_map.mp h
    obtain ⟨j, hj, rfl⟩ := List.mem_map.mp hk
    exact ⟨j, List.mem_range.mp hj, (Sum.inr.inj e).symm⟩
  · rintro ⟨k, hk, rfl⟩
    exact List.mem_map.mpr ⟨(.inr (numS (k + 1)), .int ((k + 1 : Nat) : Int)), List.mem_map.mpr ⟨k, List.mem_range.mpr hk, rfl⟩, rfl⟩
def spHeadX (C : Addr) : Sp := fun vs H Q E => ∃ b : Str, vs = [.str b] ∧ b.length ≤ 1000000 ∧ ((¬ HeadFits b ∧ ErrAt C 0 H E) ∨ ∃ (t : Bool) (w : Nat), b = headW (wordB t) w ∧ 1 ≤ w ∧ w ≤ 32 ∧ ∀ tp H', Same H H' → H' tp = some (.tup [.str (wordB t), .int w]) → Q (.ref tp) H')
abbrev sPh : Stmt := top 27
section
variable {P : Program} {w : World} {K : PySem.W.Frag} {mg : Str → Option Value} {base : Heap}
abbrev NPh : List Str := ["line", "word", "_", "digits", "widths", "width"]
theorem scPh : FnScope NPh ["line"] (defScope sPh) := ⟨rfl, rfl, rfl, by decide +kernel, rfl, by decide +kernel, by decide +kernel⟩
set_option maxHeartbeats 8000000 in
theorem ok_Ph {f fQ CPE : Addr} {fd fdQ : FuncData} {k : Nat} {tkZ : Tok} (F : Fun K "parse_head" "parse_head" sPh f fd)
    (m_range : mg "range" = none)
    (wZ : mg "WIDEST" = some (.int 32 tkZ))
    (GQ : FnOk P w K mg base CX0 k fQ fdQ ["self", "line"] ((spExI CPE "line")))
    (OPE : OexC K CPE) (gPE : mg "ParseError" = some (.ref CPE)) (aQ : PySem.W.findIn K (.ref CPE) "__init__" = some (some (.ref fQ))) (tyQ : PySem.W.typeIn K (.ref fQ) = some (.type "function")) (bQ : Binds K fdQ ["self", "line"] [])
    : FnOk P w K mg base (L2.CX P w) (k + 2) f fd ["line"] ((spHeadX CPE)) := by
  refine F.okX scPh (fun vs H Q E h => ?_) (fun cdv A outer s H vs Q E hr h => ?_)
  · obtain ⟨b, rfl, _⟩ := h
    rfl
  · obtain ⟨b, rfl, hl, alt⟩ := h
    have nd := scPh.nd
    have hu := hr.units
    have hu1 := hu_of hr
    have hr1 := hr.mono (Nat.le_succ k)
    refine ⟨_, pss_cons (ps_asg (pe_partition (pv 0) pe_str) (pg_tup rfl (pgs_cons (pg_name (i := 1) nd rfl (.inl rfl)) (pgs_cons (pg_name (i := 2) nd rfl (.inl rfl)) (pgs_cons (pg_name (i := 3) nd rfl (.inl rfl)) pgs_nil)))))
      (pss_cons (ps_setDc (i := 4) (own := [("width", 5)]) (g := gName 5) (tt := tYes) rfl nd rfl rfl (swd_true rfl rfl rfl (by decide +kernel)) (pi_range2 (by rfl) m_range (pa_cons pe_int (pa_cons (pe_op op_add (pe_glob (v := .int 32) rfl wZ ⟨_, rfl⟩) pe_int) pa_nil))) (blkOk_by (N := NPh) (sc := defScope sPh) (by decide +kernel)) (fun _ _ _ _ _ => pg_name (i := 5) nd rfl (.inl rfl)) (fun _ _ _ _ _ => pts_nil) (fun _ _ _ _ _ => (pe_joined1 (pe_fmt (pv 5)))) (fun _ _ _ _ _ => (pv 5)))
      (pss_cons (ps_if (PW.pt (pw_or (pt_cmpR op_notIn_seq (pv 1) (pe_tup (pa_cons pe_str (pa_cons pe_str pa_nil))) (by rfl)) (pw_or1 (pt_cmp (pc_dnotin hu1 (pv 3) (pv 4))))))
        (pss_one (ps_raise rfl (takes_of rfl rfl rfl rfl) (pmk_oex OPE aQ tyQ GQ hr bQ .nil pass0 (by rfl) gPE (pa_cons pe_int pa_nil)))) pss_nil)
      (pss_one (ps_ret (pe_tup (pa_cons (pv 1) (pa_cons (pe_dget hu1 (pv 4) (pv 3) (fun _ _ => rfl)) pa_nil))))))), ?_⟩
    obtain ⟨a, m, c, ep, pg, pf⟩ := part_head b
    refine ⟨.str b, rfl, ⟨_, rfl⟩, b, " ", rfl, rfl, by decide, Nat.le_trans hl (by decide), fun T nT => ?_⟩
    rw [ep]
    have s1 := same_upd (o := .tup [.str a, .str m, .str c]) nT
    refine ⟨T, _, rfl, SqT.of upd_same, rfl, _, _, rfl, _, _, rfl, _, _, rfl, rfl, ?_⟩
    revert s1
    generalize upd H T (.tup [.str a, .str m, .str c]) = H1
    intro s1
    refine ⟨32, 1, rfl, rfl, 1, 33, rfl, ⟨by decide, by decide, by decide, by decide⟩, fun G nG => ?_⟩
    refine dc_it (walk_range (lo := 1) (n := 32)) (fun i H' => H' G = some (.dK (wdsK i)) ∧ Same H1 H') ⟨upd_same, same_upd nG⟩ (fun _ _ _ _ => trivial) ?_ ?_
    · rintro i v HA HB hi ⟨hG, sA⟩ ⟨rfl, rfl⟩
      have ei : (1 : Int) + (i : Nat) = ((i + 1 : Nat) : Int) := by omega
      show gName 5 (V.int ((1 : Int) + (i : Nat))) _ HB _
      rw [ei]
      obtain ⟨e1, e2⟩ := wds_put ⟨i, hi⟩
      dsimp only at e1 e2
      refine ⟨rfl, yes_if ?_⟩
      refine ⟨.int ((i + 1 : Nat) : Int), rfl, .inr ⟨_, rfl, Nat.lt_of_le_of_lt (Nat.log2_le_self (i + 1)) (by omega), .int ((i + 1 : Nat) : Int), rfl, wdsK i, .inr (numS (i + 1)), rfl, hG, big_lt (by omega), ?_, fun b o eb => ?_⟩⟩
      · rw [upd_same, e1]
      · rw [upd_ne (ne_of_none eb nG)]
        exact sA _ _ eb
    · rintro H2 ⟨hG, s2⟩
      refine ⟨.str a, rfl, by show 2 ≤ sizeLine; decide, fun T2 nT2 => ?_⟩
      have s3 := same_upd (o := .tup [.str "table", .str "wish"]) nT2
      have hG3 := s3 _ _ hG
      have s13 := s1.trans (s2.trans s3)
      refine ⟨T2, _, rfl, .inr (SqT.of upd_same), rfl, by rfl, _, rfl, ?_⟩
      by_cases hin : inV (.str a) [.str "table", .str "wish"] = true
      · rw [hin]
        refine iteF ⟨.str c, rfl, .ref G, rfl, G, _, rfl, DGet.k (k := .inr c) hG3, _, rfl, ?_⟩
        by_cases hk : (valV (wdsK 32) (.inr c)).isSome = true
        · rw [hk]
          rcases alt with ⟨nf, _⟩ | ⟨t, w, e, w1, w32, q⟩
          · exact absurd (pf (in_words.mp hin) (wds_in.mp hk)) nf
          obtain ⟨rfl, rfl⟩ := pg t w e w1 w32
          have hval := wds_at ⟨w - 1, by omega⟩
          dsimp only at hval
          rw [show w - 1 + 1 = w by omega] at hval
          refine iteF ⟨.str (wordB t), rfl, .ref G, rfl, .str (numS w), rfl, G, .int w, rfl, by rw [← hval]; exact DGet.k (k := .inr (numS w)) hG3, by show 2 ≤ sizeLine; decide, fun t nt => ?_⟩
          exact q t _ (s13.trans (same_upd nt)) upd_same
        · rw [Bool.not_eq_true] at hk
          rw [hk]
          rcases alt with ⟨_, er⟩ | ⟨t, w, e, w1, w32, q⟩
          · exact iteT (err_at (j := 0) (by decide) s13 er)
          · obtain ⟨rfl, rfl⟩ := pg t w e w1 w32
            have := wds_in.mpr ⟨w - 1, by omega, by rw [show w - 1 + 1 = w by omega]⟩
            rw [hk] at this
            cases this
      · rcases alt with ⟨_, er⟩ | ⟨t, w, e, w1, w32, q⟩
        · rw [Bool.not_eq_true] at hin
          rw [hin]
          exact iteT (err_at (j := 0) (by decide) s13 er)
        · obtain ⟨rfl, rfl⟩ := pg t w e w1 w32
          exact absurd (in_words.mpr (wordB_or t)) hin
end

theorem strs_data' {n : Nat} {xs : List Str} (h : ∀ x ∈ xs, Sm n x) : SeqAt.shaped (.list (xs.map PyData.str)) = true := by
  unfold SeqAt.shaped
  rw [Bool.and_eq_true]
  refine ⟨?_, decide_eq_true ?_⟩
  · simp only [PyData.canLay0]
    refine lay_all fun d hd => ?_
    obtain ⟨x, hx, rfl⟩ := List.mem_map.mp hd
    exact lay_sm (h x hx)
  · have := depthAll_le (L := 0) (ds := xs.map PyData.str) fun d hd => by
      obtain ⟨x, hx, rfl⟩ := List.mem_map.mp hd
      simp only [PyData.depth]
      decide
    simp only [PyData.depth]
    omega
theorem strs_eqv2 : ∀ xs ys : List Str, PyData.eqvAll (xs.map PyData.str) (ys.map PyData.str) = decide (xs = ys)
  | [], [] => rfl
  | [], _ :: _ => rfl
  | _ :: _, [] => rfl
  | x :: xs, y :: ys => by
    show ((x == y) && PyData.eqvAll (xs.map PyData.str) (ys.map PyData.str)) = _
    rw [strs_eqv2 xs ys, Bool.eq_iff_iff, Bool.and_eq_true, beq_iff_eq, decide_eq_true_iff, decide_eq_true_iff, List.cons.injEq]
theorem sm_part {n : Nat} {x y p : Str} (h : Sm n x) (hp : p ∈ Txt.split x y) : Sm n p := ⟨Nat.le_trans (part_of hp).1 h.ln, fun c hc => h.ch c ((part_of hp).2 c hc)⟩
/-- a line's words -/
def spPRow (K : PySem.W.Frag) (C : Addr) : Sp := fun vs H Q E => ∃ (b x : Str) (w j : Nat) (ns : List Str), vs = [.str b, .int w, .int j] ∧ Txt.split b " " = x :: ns ∧ Sm 1000000 b ∧ w ≤ 32 ∧ j ≤ 100 ∧ ns.length ≤ 40 ∧
  ((∃ y l, GoodRow x ns w y l ∧ ∀ t a H', Same H H' → H' t = some (.tup [.str y, .ref a]) → H' a = some (.lst (l.map optV)) → Q (.ref t) H') ∨ ((∀ y l, ¬ GoodRow x ns w y l) ∧ ErrAt C j H E))
abbrev sPr : Stmt := top 28
section
variable {P : Program} {w : World} {K : PySem.W.Frag} {mg : Str → Option Value} {base : Heap}
abbrev NPr : List Str := ["line", "width", "index", "words", "names", "name", "prefix"]
theorem scPr : FnScope NPr ["line", "width", "index"] (defScope sPr) := ⟨rfl, rfl, rfl, by decide +kernel, rfl, by decide +kernel, by decide +kernel⟩
set_option maxHeartbeats 8000000 in
theorem ok_Pr {f fIp fQ fG pG CPE CC : Addr} {fd fdIp fdQ fdG : FuncData} {k : Nat} {tkNt tkEp : Tok} (F : Fun K "parse_row" "parse_row" sPr f fd)
    (m_set : mg "set" = none)
    (m_sorted : mg "sorted" = none)
    (GIp : FnOk P w K mg base CX0 k fIp fdIp ["word", "width"] spIpw)
    (FIp : Fun K "is_prefix_word" "is_prefix_word" sIp fIp fdIp) (bIp : Binds K fdIp ["word", "width"] []) (gIp : mg "is_prefix_word" = some (.ref fIp))
    (GQ : FnOk P w K mg base CX0 k fQ fdQ ["self", "line"] ((spExI CPE "line")))
    (OPE : OexC K CPE) (gPE : mg "ParseError" = some (.ref CPE)) (aQ : PySem.W.findIn K (.ref CPE) "__init__" = some (some (.ref fQ))) (tyQ : PySem.W.typeIn K (.ref fQ) = some (.type "function")) (bQ : Binds K fdQ ["self", "line"] [])
    (gC : mg "Table" = some (.ref CC))
    (RCC : ClX.CRead K CC (.type "type"))
    (GG : FnOk P w K mg base CX0 k fG fdG ["thing"] (spTgt K))
    (csG : CSta K CC (.type "type") "is_target" pG fG) (bG : Binds K fdG ["thing"] [])
    (wNt : mg "NO_TARGET" = some (.str "-" tkNt))
    (wEp : mg "EMPTY_PREFIX" = some (.str "*" tkEp))
    : FnOk P w K mg base (L2.CX P w) (k + 2) f fd ["line", "width", "index"] ((spPRow K CPE)) := by
  refine F.okX scPr (fun vs H Q E h => ?_) (fun cdv A outer s H vs Q E hr h => ?_)
  · obtain ⟨b, x, z, j, ns, rfl, _⟩ := h
    rfl
  · obtain ⟨b, x, z, j, ns, rfl, esp, bsm, w32, j100, few, alt⟩ := h
    have nd := scPr.nd
    have hu := hr.units
    have hu1 := hu_of hr
    have hr1 := hr.mono (Nat.le_succ k)
    refine ⟨_, pss_cons (ps_set (i := 3) nd rfl (.inl rfl) (pe_split (pv 0) pe_str))
      (pss_cons (ps_set (i := 4) nd rfl (.inl rfl) (pe_slice sl_list (pv 3) (po_some pe_int) po_none))
      (pss_cons (ps_if (PW.pt (pw_or (pt_not (pt_val (pe_call GIp hr1 (by rfl) gIp FIp.kp bIp .nil pass0 (pa_cons (pe_ix ix_list (pv 3) pe_int (fun _ _ => rfl)) (pa_cons (pv 1) pa_nil))))) (pw_or1 (pt_cmpR (op_neD hu) (pv 4) (pe_callB (cr_sortTx rfl) (by rfl) m_sorted (by decide +kernel) (pa_cons (pe_callTy (cr_setTx rfl) (by rfl) m_set (by decide +kernel) (pa_cons (pv 4) pa_nil)) pa_nil)) (nomark _)))))
        (pss_one (ps_raise rfl (takes_of rfl rfl rfl rfl) (pmk_oex OPE aQ tyQ GQ hr bQ .nil pass0 (by rfl) gPE (pa_cons (pv 2) pa_nil)))) pss_nil)
      (pss_cons (ps_for (passes_of rfl) rfl (pi_list (pv 4)) (pg_name (i := 5) nd rfl (.inl rfl))
        (pss_one (ps_if (PW.pt (pw_and (pt_cmpR op_ne (pv 5) (pe_glob (v := .str "-") rfl wNt ⟨_, rfl⟩) (nomark _)) (pw_and1 (pt_not (pt_val (pe_cstat (pe_glob (v := .ref CC) rfl gC rfl) RCC csG GG hr1 bG (pa_cons (pv 5) pa_nil)))))))
          (pss_one (ps_raise rfl (takes_of rfl rfl rfl rfl) (pmk_oex OPE aQ tyQ GQ hr bQ .nil pass0 (by rfl) gPE (pa_cons (pv 2) pa_nil)))) pss_nil)))
      (C8.pss_cut (ps_set (i := 6) nd rfl (.inl rfl) (pe_ifExp (pt_cmpR op_eq (pe_ix ix_list (pv 3) pe_int (fun _ _ => rfl)) (pe_glob (v := .str "*") rfl wEp ⟨_, rfl⟩) (nomark _)) pe_str (pe_ix ix_list (pv 3) pe_int (fun _ _ => rfl))))
      (pss_one (ps_ret (pe_tup (pa_cons (pv 6) (pa_cons (pe_lc (own := [("name", 5)]) (g := gName 5) (tt := tYes) rfl nd (pi_list (pv 4)) (blkOk_by (N := NPr) (sc := defScope sPr) (by decide +kernel)) (fun _ _ _ _ _ => pg_name (i := 5) nd rfl (.inl rfl)) (fun _ _ _ _ _ => pts_nil) (fun _ _ _ _ _ => (pe_ifExp (pt_cmpR op_eq (pv 5) (pe_glob (v := .str "-") rfl wNt ⟨_, rfl⟩) (nomark _)) pe_non (pv 5)))) pa_nil))))))))), ?_⟩
    have psm : ∀ p ∈ x :: ns, Sm 1000000 p := fun p hp => sm_part bsm (by rw [esp]; exact hp)
    have nsm : ∀ p ∈ ns, Sm 1000000 p := fun p hp => psm p (List.mem_cons_of_mem _ hp)
    have err : (¬ ∃ y l, GoodRow x ns z y l) → ErrAt CPE j H E := fun h => by
      rcases alt with ⟨y, l, g, _⟩ | ⟨_, er⟩
      · exact absurd ⟨y, l, g⟩ h
      · exact er
    refine ⟨.str b, rfl, ⟨_, rfl⟩, b, " ", rfl, rfl, by decide, Nat.le_trans (show b.length + 2 ≤ 1000002 by have := bsm.ln; omega) (by decide), fun Wd nW => ?_⟩
    rw [esp]
    have s1 := same_upd (o := .lst ((x :: ns).map V.str)) nW
    have hW := upd_same (H := H) (a := Wd) (o := .lst ((x :: ns).map V.str))
    revert s1 hW
    generalize upd H Wd (.lst ((x :: ns).map V.str)) = H1
    intro s1 hW
    refine ⟨.ref Wd, rfl, 1, rfl, Wd, _, rfl, SqL.of hW, fun Nm nN => ?_⟩
    rw [cut_one]
    have s2 := same_upd (o := .lst (((x :: ns).map V.str).drop 1)) nN
    have hN : (upd H1 Nm (.lst (((x :: ns).map V.str).drop 1))) Nm = some (.lst (ns.map V.str)) := upd_same
    have hW2 := s2 _ _ hW
    have s12 := s1.trans s2
    clear s2
    revert s12 hN hW2
    generalize upd H1 Nm (.lst (((x :: ns).map V.str).drop 1)) = H2
    intro hN hW2 s12
    have xl : x.length ≤ sizeLine := Nat.le_trans (psm x List.mem_cons_self).ln (by decide)
    refine ⟨.ref Wd, rfl, Wd, _, 0, .str x, rfl, rfl, SqL.of hW2, atI_nat (j := 0) rfl, .int z, rfl, x, z, rfl, xl, w32, _, rfl, ?_⟩
    by_cases ep : pw x z = true
    rotate_left
    · rw [Bool.not_eq_true] at ep
      rw [ep]
      exact iteT ⟨.int (j : Nat), rfl, err_at j100 s12 (err fun ⟨y, l, g⟩ => by rw [g.pw] at ep; cases ep)⟩
    rw [ep]
    refine iteF ?_
    refine ⟨.ref Nm, rfl, .ref Nm, rfl, Nm, ns, rfl, SqL.of hN, by omega, fun p ks np knd kmem klen => ?_⟩
    have s3 := same_upd (o := TxO w p ks) np
    have hN3 := s3 _ _ hN
    refine ⟨p, ks, rfl, upd_same, fun S ys nS perm ups => ?_⟩
    have ysm : ∀ u ∈ ys, Sm 1000000 u := fun u hu => nsm u ((kmem u).mp (perm.mem_iff.mp hu))
    have s4 : Same (upd H2 p (TxO w p ks)) (upd (upd H2 p (TxO w p ks)) S (.lst (ys.map V.str))) := same_upd nS
    refine ⟨.list (ns.map PyData.str), .list (ys.map PyData.str), .lst (SqL.of (s4 _ _ hN3)) (dpAll_strs _), .lst (SqL.of upd_same) (dpAll_strs _), strs_data' nsm, strs_data' ysm, _, rfl, ?_⟩
    have ee : PyData.eqv (.list (ns.map PyData.str)) (.list (ys.map PyData.str)) = decide (ns = ys) := strs_eqv2 _ _
    rw [ee]
    have hW4 := s4 _ _ (s3 _ _ hW2)
    have hN4 := s4 _ _ hN3
    have s14 := s12.trans (s3.trans s4)
    by_cases hs : ns = ys
    rotate_left
    · rw [decide_eq_false hs]
      refine iteT ⟨.int (j : Nat), rfl, err_at j100 s14 (err fun ⟨y, l, g⟩ => hs ?_)⟩
      have p1 : ys.Perm ns := perm.trans ((List.perm_ext_iff_of_nodup knd g.nd).mpr kmem)
      rw [sortS_of p1 ups, ← sortS_of (.refl _) g.up]
    rw [decide_eq_true hs]
    have nnd : ns.Nodup := by rw [hs]; exact perm.nodup_iff.mpr knd
    have nup : sortedS ns = true := by rw [hs]; exact ups
    clear s3 s4 hN3 np nS perm ysm ee
    obtain ⟨H4, eH4⟩ : ∃ H4, H4 = upd (upd H2 p (TxO w p ks)) S (.lst (ys.map V.str)) := ⟨_, rfl⟩
    have hNx := hN4
    rw [← eH4] at hW4 hN4 s14
    refine iteF ⟨.ref Nm, rfl, Nm, rfl, ⟨_, SqL.of hNx⟩, for_list (K := K) (a := Nm) (xs := ns.map V.str) (fun i σ H' => (∃ x5, σ = [some (.str b), some (.int z), some (.int (j : Nat)), some (.ref Wd), some (.ref Nm), x5, none]) ∧ H' = H4 ∧ ∀ u ∈ ns.take i, fineW u = true) ⟨⟨_, rfl⟩, eH4.symm, fun _ h => absurd h List.not_mem_nil⟩ (fun _ _ _ _ h => by rw [h.2.1]; exact SqL.of hN4) ?_ ?_⟩
    · rintro i v σ H5 hv ⟨⟨x5, rfl⟩, rfl, fi⟩
      rw [List.getElem?_map] at hv
      obtain ⟨u, hu, rfl⟩ := Option.map_eq_some_iff.mp hv
      have et : ns.take (i + 1) = ns.take i ++ [u] := by rw [List.take_add_one, hu]; rfl
      have um := List.mem_of_getElem? hu
      have fin : fineW u = true → ∀ v ∈ ns.take (i + 1), fineW v = true := fun h v hv => by
        rw [et] at hv
        rcases List.mem_append.mp hv with hv | hv
        · exact fi v hv
        · rw [List.mem_singleton.mp hv]
          exact h
      show gName 5 (V.str u) _ _ _
      refine ⟨.str u, rfl, rfl, _, rfl, ?_⟩
      by_cases hd : u = "-"
      · rw [decide_eq_true (show V.str u = V.str "-" by rw [hd])]
        exact iteF ⟨⟨_, rfl⟩, rfl, fin (by unfold fineW; rw [decide_eq_true hd]; rfl)⟩
      · rw [decide_eq_false (fun e : V.str u = V.str "-" => hd (V.str.inj e))]
        refine iteT ⟨rfl, .str u, rfl, .str u, rfl, TyS.of (N := fun _ => True) (.str u), fun u' e => by rw [← V.str.inj e]; exact Nat.le_trans (nsm u um).ln (by decide), _, rfl, ?_⟩
        by_cases ht : isTgt (.str u) = true
        · rw [ht]
          exact iteF ⟨⟨_, rfl⟩, rfl, fin (by unfold fineW isT; rw [ht, Bool.or_true])⟩
        · rw [Bool.not_eq_true] at ht
          rw [ht]
          exact iteT ⟨.int (j : Nat), rfl, err_at j100 s14 (err fun ⟨y, l, g⟩ => by
            have := fine_t (g.fine u um) hd
            unfold isT at this
            rw [ht] at this
            cases this)⟩
    · rintro σ H5 ⟨⟨x5, rfl⟩, rfl, fi⟩
      rw [List.length_map, List.take_length] at fi
      rcases alt with ⟨y, l, g, q⟩ | ⟨ng, _⟩
      rotate_left
      · exact absurd (good_of ep nnd nup fi few) (ng _ _)
      obtain ⟨rfl, hb, yl, rfl, ok, ca⟩ := g
      have few := ok.few

      refine ⟨fun σ H' => σ = [some (.str (b)), some (.int z), some (.int (j : Nat)), some (.ref Wd), some (.ref Nm), x5, some (.str y)] ∧ H' = H5, ?_, ?_⟩
      · refine ⟨.ref Wd, rfl, Wd, _, 0, .str (hd0 y), rfl, rfl, SqL.of hW4, atI_nat (j := 0) rfl, rfl, _, rfl, ?_⟩
        by_cases h : y = ""
        · subst h
          rw [decide_eq_true (show V.str (hd0 "") = V.str "*" from rfl)]
          exact iteT ⟨rfl, rfl⟩
        · have e : hd0 y = y := by unfold hd0; rw [if_neg h]
          rw [e, decide_eq_false (fun z => bits_nstar hb (V.str.inj z))]
          rw [e] at hW4
          exact iteF ⟨.ref Wd, rfl, Wd, _, 0, .str y, rfl, rfl, SqL.of hW4, atI_nat (j := 0) rfl, rfl, rfl⟩
      rintro σ H6 ⟨rfl, rfl⟩
      refine ⟨.str y, rfl, .ref Nm, rfl, Nm, rfl, ⟨_, SqL.of hN4⟩, fun D nD => ?_⟩
      refine lc_it (walk_list (K := K) (a := Nm) (xs := (l.map wd).map V.str)) (fun i H' => H' D = some (.lst ((l.take i).map optV)) ∧ Same H6 H') ⟨upd_same, same_upd nD⟩ (fun _ _ _ h => SqL.of (h.2 _ _ hN4)) ?_ ?_
      · rintro i v HA HB hi ⟨hD, sA⟩ ⟨rfl, hv⟩
        rw [List.map_map, List.getElem?_map] at hv
        obtain ⟨o, ho, rfl⟩ := Option.map_eq_some_iff.mp hv
        have hto := ok.tg o (List.mem_of_getElem? ho)
        have et : l.take (i + 1) = l.take i ++ [o] := by rw [List.take_add_one, ho]; rfl
        have big : ((l.take i).map optV).length < sizeLine := by
          rw [List.length_map, List.length_take]
          exact big_lt (by omega)
        have fin : (upd HB D (.lst ((l.take i).map optV ++ [optV o]))) D = some (.lst ((l.take (i + 1)).map optV)) ∧ Same H6 (upd HB D (.lst ((l.take i).map optV ++ [optV o]))) := by
          refine ⟨by rw [upd_same, et, List.map_append]; rfl, fun b o' eb => ?_⟩
          rw [upd_ne (ne_of_none eb nD)]
          exact sA _ _ eb
        refine ⟨rfl, yes_if ⟨.str (wd o), rfl, rfl, _, rfl, ?_⟩⟩
        cases o with
        | none =>
          rw [decide_eq_true (show V.str (wd none) = V.str "-" from rfl)]
          exact iteT ⟨_, hD, big, fin⟩
        | some u =>
          rw [decide_eq_false (fun e : V.str (wd (some u)) = V.str "-" => t_dash hto (V.str.inj e))]
          exact iteF ⟨.str u, rfl, _, hD, big, fin⟩
      · rintro HA ⟨hD, sA⟩
        rw [List.length_map, List.length_map, List.take_length] at hD
        refine ⟨by show 2 ≤ sizeLine; decide, fun t nt => ?_⟩
        have sT := same_upd (o := .tup [.str y, .ref D]) nt
        exact q t D _ (s14.trans (sA.trans sT)) upd_same (sT _ _ hD)
end

def spParseY (K : PySem.W.Frag) (C W X : Addr) : Sp := fun vs H Q E => ∃ v : V, vs = [v] ∧ TyS K H v ∧ ((isStrV v = false ∧ ErrAt X 0 H E) ∨ ∃ (txt h : Str) (bs : List Str), v = .str txt ∧ Txt.split txt (Str.ofString "\n") = h :: bs ∧ Sm 1000000 txt ∧ bs.length ≤ 60 ∧ (∀ b ∈ bs, (Txt.split b " ").length ≤ 41) ∧
  ((¬ HeadFits h ∧ ErrAt X 0 H E) ∨ ∃ (t : Bool) (z : Nat) (ws : WRows) (tl : List Str), h = headW (wordB t) z ∧ 1 ≤ z ∧ z ≤ 32 ∧ bs = ws.map lineW ++ tl ∧ Can z ws ∧ KindB t ws ∧
    ((tl = [] ∧ ((t = true ∧ ∀ x e ka H', Same H H' → MapAt C H' x e z ka → RowsOk z isTgtV (ws.map (·.1)) ka → tabR (ws.map (·.1)) ka = ws → Q (.ref x) H') ∨ (t = false ∧ ∀ x e H', Same H H' → WishAt W H' x e z ws → Q (.ref x) H'))) ∨
      ∃ bd more, tl = bd :: more ∧ ¬ RowFits t z (lastP ws) bd ∧ ErrAt X (ws.length + 1) H E)))
theorem head_len {t : Bool} {z : Nat} (z32 : z ≤ 32) : (headW (wordB t) z).length ≤ 20 := by
  unfold headW
  rw [str_app_len, str_app_len]
  have := numS_len z32
  have e1 : Str.length " " = 1 := by decide
  have : (wordB t).length ≤ 5 := by cases t <;> decide
  omega
theorem lastP_at {ws : WRows} {r : Str × List (Option Str)} (h : ws[ws.length - 1]? = some r) : lastP ws = some r.1 := by
  unfold lastP
  rw [List.getLast?_eq_getElem?, List.length_map, List.getElem?_map, h]
  rfl
theorem len_ne_one {l : List (Option Str)} (h : l.length ≠ 1) : decide (((l.map optV).length : Int) = 1) = false := by
  rw [List.length_map]
  exact decide_eq_false (by omega)
abbrev sPm : Stmt := top 26
section
variable {P : Program} {w : World} {K : PySem.W.Frag} {mg : Str → Option Value} {base : Heap}
abbrev NPm : List Str := ["text", "lines", "word", "width", "rows", "last", "index", "line", "prefix", "targets"]
theorem scPm : FnScope NPm ["text"] (defScope sPm) := ⟨rfl, rfl, rfl, by decide +kernel, rfl, by decide +kernel, by decide +kernel⟩
set_option maxHeartbeats 8000000 in
theorem ok_Pm {f fQ fPh fPr fT fWT CPE CC CW : Addr} {fd fdQ fdPh fdPr fdT fdWT : FuncData} {k : Nat} (F : Fun K "parse_map" "parse_map" sPm f fd)
    (m_str : mg "str" = none)
    (m_isinstance : mg "isinstance" = none)
    (GQ : FnOk P w K mg base CX0 k fQ fdQ ["self", "line"] ((spExI CPE "line")))
    (OPE : OexC K CPE) (gPE : mg "ParseError" = some (.ref CPE)) (aQ : PySem.W.findIn K (.ref CPE) "__init__" = some (some (.ref fQ))) (tyQ : PySem.W.typeIn K (.ref fQ) = some (.type "function")) (bQ : Binds K fdQ ["self", "line"] [])
    (GPh : FnOk P w K mg base (L2.CX P w) k fPh fdPh ["line"] ((spHeadX CPE)))
    (FPh : Fun K "parse_head" "parse_head" sPh fPh fdPh) (bPh : Binds K fdPh ["line"] []) (gPh : mg "parse_head" = some (.ref fPh))
    (m_enumerate : mg "enumerate" = none)
    (GPr : FnOk P w K mg base (L2.CX P w) k fPr fdPr ["line", "width", "index"] ((spPRow K CPE)))
    (FPr : Fun K "parse_row" "parse_row" sPr fPr fdPr) (bPr : Binds K fdPr ["line", "width", "index"] []) (gPr : mg "parse_row" = some (.ref fPr))
    (m_len : mg "len" = none)
    (GT : FnOk P w K mg base CX0 k fT fdT ["self", "width", "rows"] (spInit K CC isTgtV))
    (MC : Mk K CC fT) (gC : mg "Table" = some (.ref CC))
    (bT : Binds K fdT ["self", "width", "rows"] [])
    (GWT : FnOk P w K mg base CX0 k fWT fdWT ["self", "width", "rows"] (spInitW K CW))
    (MW : Mk K CW fWT) (gW : mg "Wish" = some (.ref CW))
    (bWT : Binds K fdWT ["self", "width", "rows"] [])
    : FnOk P w K mg base (L2.CX P w) (k + 2) f fd ["text"] ((spParseY K CC CW CPE)) := by
  refine F.okX scPm (fun vs H Q E h => ?_) (fun cdv A outer s H vs Q E hr h => ?_)
  · obtain ⟨v, rfl, _⟩ := h
    rfl
  · obtain ⟨v, rfl, hty, alt⟩ := h
    have nd := scPm.nd
    have hu := hr.units
    have hu1 := hu_of hr
    have hr1 := hr.mono (Nat.le_succ k)
    refine ⟨_, pss_cons (ps_if (pt_not (pt_val (pe_callB call_isi (by rfl) m_isinstance (by decide +kernel) (pa_cons (pv 0) (pa_cons (pe_bltn (v := .ty "str") (by rfl) m_str (by decide +kernel) rfl) pa_nil)))))
        (pss_one (ps_raise rfl (takes_of rfl rfl rfl rfl) (pmk_oex OPE aQ tyQ GQ hr bQ .nil pass0 (by rfl) gPE (pa_cons pe_int pa_nil)))) pss_nil)
      (pss_cons (ps_set (i := 1) nd rfl (.inl rfl) (pe_split (pv 0) pe_str))
      (pss_cons (ps_asg (pe_call GPh hr1 (by rfl) gPh FPh.kp bPh .nil (passes_call (takes_of rfl rfl rfl rfl) (fun _ _ _ _ h => h)) (pa_cons (pe_ix ix_list (pv 1) pe_int (fun _ _ => rfl)) pa_nil)) (pg_tup rfl (pgs_cons (pg_name (i := 2) nd rfl (.inl rfl)) (pgs_cons (pg_name (i := 3) nd rfl (.inl rfl)) pgs_nil))))
      (pss_cons (ps_set (i := 4) nd rfl (.inl rfl) pe_dnewK)
      (pss_cons (ps_set (i := 5) nd rfl (.inl rfl) pe_non)
      (pss_cons (ps_for (passes_of rfl) rfl (pi_enumS (by rfl) m_enumerate (pa_cons (pe_slice sl_list (pv 1) (po_some pe_int) po_none) pa_nil) (pk_cons pe_int pk_nil)) (pg_tup rfl (pgs_cons (pg_name (i := 6) nd rfl (.inl rfl)) (pgs_cons (pg_name (i := 7) nd rfl (.inl rfl)) pgs_nil)))
        (pss_cons (ps_asg (pe_call GPr hr1 (by rfl) gPr FPr.kp bPr .nil (passes_call (takes_of rfl rfl rfl rfl) (fun _ _ _ _ h => h)) (pa_cons (pv 7) (pa_cons (pv 3) (pa_cons (pv 6) pa_nil)))) (pg_tup rfl (pgs_cons (pg_name (i := 8) nd rfl (.inl rfl)) (pgs_cons (pg_name (i := 9) nd rfl (.inl rfl)) pgs_nil))))
        (C8.pss_cut (ps_if (PW.pt (pw_and (pt_cmpR op_notN (pv 5) pe_non (nomark _)) (pw_and1 (pt_cmpR op_le_str (pv 8) (pv 5) (nomark _)))))
          (pss_one (ps_raise rfl (takes_of rfl rfl rfl rfl) (pmk_oex OPE aQ tyQ GQ hr bQ .nil pass0 (by rfl) gPE (pa_cons (pv 6) pa_nil)))) pss_nil)
        (C8.pss_cut (ps_if (PW.pt (pw_and (pt_cmpR op_eq (pv 2) pe_str (nomark _)) (pw_and1 (PW.pt (pw_or (pt_cmpR op_ne (pe_callB call_len_seq (by rfl) m_len (by decide +kernel) (pa_cons (pv 9) pa_nil)) pe_int (nomark _)) (pw_or1 (pt_cmpR op_in_seq pe_non (pv 9) (by rfl))))))))
          (pss_one (ps_raise rfl (takes_of rfl rfl rfl rfl) (pmk_oex OPE aQ tyQ GQ hr bQ .nil pass0 (by rfl) gPE (pa_cons (pv 6) pa_nil)))) pss_nil)
        (pss_cons (ps_dput hu1 (pv 4) (pv 8) (pv 9) rfl)
        (pss_one (ps_set (i := 5) nd rfl (.inl rfl) (pv 8))))))))
      (pss_cons (ps_if (pt_cmpR op_eq (pv 2) pe_str (nomark _))
        (pss_one (ps_ret (pe_make MC GT hr (by rfl) gC bT .nil pass0 (pa_cons (pv 3) (pa_cons (pe_lock (pe_dc (own := [("prefix", 8), ("targets", 9)]) (g := gTup K 2 (gCons (gName 8) (gCons (gName 9) gNil))) (tt := tYes) rfl nd (pi_items (pv 4)) (blkOk_by (N := NPm) (sc := defScope sPm) (by decide +kernel)) (fun _ _ _ _ _ => pg_tup rfl (pgs_cons (pg_name (i := 8) nd rfl (.inl rfl)) (pgs_cons (pg_name (i := 9) nd rfl (.inl rfl)) pgs_nil))) (fun _ _ _ _ _ => pts_nil) (fun _ _ _ _ _ => (pv 8)) (fun _ _ _ _ _ => (pe_ix (r := rIxL K) ix_list (pv 9) pe_int (fun _ _ => rfl))))) pa_nil))))) pss_nil)
      (pss_one (ps_ret (pe_make MW GWT hr (by rfl) gW bWT .nil pass0 (pa_cons (pv 3) (pa_cons (pv 4) pa_nil))))))))))), ?_⟩
    obtain ⟨t0, ty, kt⟩ := hty
    refine ⟨v, rfl, v, .ty "str", .type t0, .type "str", _, rfl, .ty _, ty, kt, _, rfl, ?_⟩
    rcases alt with ⟨nv, er⟩ | ⟨txt, h, bs, rfl, esp, tsm, fewB, fewW, alt⟩
    · rw [nv]
      exact iteT (err_at (j := 0) (by decide) (fun _ _ e => e) er)
    refine iteF ?_
    refine ⟨.str txt, rfl, ⟨_, rfl⟩, txt, Str.ofString "\n", rfl, rfl, by decide, Nat.le_trans (show txt.length + 2 ≤ 1000002 by have := tsm.ln; omega) (by decide), fun Ln nL => ?_⟩
    rw [esp]
    have s1 := same_upd (o := .lst ((h :: bs).map V.str)) nL
    have hL := upd_same (H := H) (a := Ln) (o := .lst ((h :: bs).map V.str))
    revert s1 hL
    generalize upd H Ln (.lst ((h :: bs).map V.str)) = H1
    intro s1 hL
    refine ⟨.ref Ln, rfl, Ln, _, 0, .str h, rfl, rfl, SqL.of hL, atI_nat (j := 0) rfl, h, rfl, (sm_part tsm (by rw [esp]; exact List.mem_cons_self)).ln, ?_⟩
    rcases alt with ⟨nf, er⟩ | ⟨t, z, ws, tl, rfl, z1, z32, rfl, can, kd, alt⟩
    · exact .inl ⟨nf, er.same s1⟩
    refine .inr ⟨t, z, rfl, z1, z32, fun tp H2 s2 ht => ?_⟩
    obtain ⟨word, ew⟩ : ∃ word, word = wordB t := ⟨_, rfl⟩
    rw [← ew] at ht hL esp
    have few : ws.length ≤ 60 := by rw [List.length_append, List.length_map] at fewB; omega
    have rok : ∀ r ∈ ws, isBits r.1 = true ∧ r.1.length ≤ z ∧ OkL isT r.2 := fun r hr => by
      have hm : r.1 ∈ ws.map (·.1) := List.mem_map.mpr ⟨r, hr, rfl⟩
      exact ⟨can.ok.pfx.bits _ hm, can.ok.pfx.len _ hm, can.ok.ok r hr⟩
    have kind : (word = "table" ∧ ∀ r ∈ ws, ∃ t, r.2 = [some t]) ∨ word = "wish" := by
      cases t with
      | true => exact .inl ⟨ew, kd rfl⟩
      | false => exact .inr ew
    have hL2 := s2 _ _ hL
    have s12 := s1.trans s2
    refine ⟨tp, _, rfl, SqT.of ht, rfl, _, _, rfl, _, _, rfl, rfl, ?_⟩
    refine fun R nR => ?_
    have s3 := same_upd (o := .dK []) nR
    have hR3 := upd_same (H := H2) (a := R) (o := .dK [])
    have hL3 := s3 _ _ hL2
    have s13 := s12.trans s3
    have nRH : H R = none := s12.free nR
    clear s3 ht s1 s2
    revert hR3 hL3 s13
    generalize upd H2 R (.dK []) = H3
    intro hR3 hL3 s13
    refine ⟨.ref Ln, rfl, 1, rfl, Ln, _, rfl, SqL.of hL3, fun D nD => ?_⟩
    rw [cut_one]
    have s4 := same_upd (o := .lst (((headW word z :: (ws.map lineW ++ tl)).map V.str).drop 1)) nD
    have hD4 : (upd H3 D (.lst (((headW word z :: (ws.map lineW ++ tl)).map V.str).drop 1))) D = some (.lst ((ws.map lineW ++ tl).map V.str)) := upd_same
    have hR4 := s4 _ _ hR3
    have s14 := s13.trans s4
    have DR : D ≠ R := (ne_of_none hR3 nD).symm
    clear s4
    revert hR4 hD4 s14
    generalize upd H3 D (.lst (((headW word z :: (ws.map lineW ++ tl)).map V.str).drop 1)) = H4
    intro hD4 hR4 s14
    refine ⟨D, _, rfl, rfl, SqL.of hD4, for_it (walk_enumS (K := K) (a := D) (xs := (ws.map lineW ++ tl).map V.str) (c := 1)) (fun i σ H' => (∃ x6 x7 x8 x9 lv, σ = [some (.str txt), some (.ref Ln), some (.str word), some (.int z), some (.ref R), some lv, x6, x7, x8, x9] ∧ ((i = 0 ∧ lv = .non) ∨ ∃ r0 : Str × List (Option Str), 0 < i ∧ ws[i - 1]? = some r0 ∧ lv = .str r0.1)) ∧ i ≤ ws.length ∧ (∃ kvs, H' R = some (.dK kvs) ∧ LVal R H' kvs (ws.take i)) ∧ ∀ b o, b ≠ R → H4 b = some o → H' b = some o) ⟨⟨_, _, _, _, _, rfl, .inl ⟨rfl, rfl⟩⟩, Nat.zero_le _, ⟨[], hR4, .nil⟩, fun _ _ _ h => h⟩ (fun _ _ _ _ h => SqL.of (h.2.2.2 _ _ DR hD4)) ?_ ?_⟩
    · rintro i v σ H5 H6 hi ⟨⟨x6, x7, x8, x9, lv, rfl, hlv⟩, hle, ⟨kvs, hR5, lv5⟩, keep⟩ ⟨T, k, v', rfl, nT, rfl, h1, h2⟩
      dsimp only at h1 h2
      have ek : ((1 : Int) + (i : Nat)) = ((1 + i : Nat) : Int) := by omega
      rw [ek] at h1
      obtain rfl := Option.some.inj h1
      have upw := List.pairwise_iff_getElem.mp can.up
      by_cases iw : i < ws.length
      rotate_left
      · obtain rfl : i = ws.length := by omega
        rcases alt with ⟨rfl, _⟩ | ⟨bd, more, rfl, nf, er⟩
        · rw [List.length_map, List.length_append, List.length_map] at hi
          exact absurd hi (by show ¬ (ws.length < ws.length + 0); omega)
        rw [List.getElem?_map, List.getElem?_append_right (by rw [List.length_map]; exact Nat.le_refl _), List.length_map, Nat.sub_self] at h2
        obtain rfl : V.str bd = v' := Option.some.inj h2
        have sT := same_upd (o := .tup [.int ((1 + ws.length : Nat) : Int), .str bd]) nT
        have sHT : Same H (upd H5 T (.tup [.int ((1 + ws.length : Nat) : Int), .str bd])) := fun b o eb => sT _ _ (keep b o (ne_of_none eb nRH) (s14 _ _ eb))
        have er1 : ErrAt CPE (1 + ws.length) H E := by rw [Nat.add_comm]; exact er
        have bm : bd ∈ ws.map lineW ++ bd :: more := List.mem_append_right _ List.mem_cons_self
        have bsm : Sm 1000000 bd := sm_part tsm (by rw [esp]; exact List.mem_cons_of_mem _ bm)
        have bfew := fewW bd bm
        refine ⟨T, _, rfl, SqT.of upd_same, rfl, _, _, rfl, _, _, rfl, rfl, ?_⟩
        obtain ⟨x, ns, ebs⟩ : ∃ x ns, Txt.split bd " " = x :: ns := by
          cases e : Txt.split bd " " with
          | nil => have := (split_sp bd).1; rw [e] at this; cases this
          | cons x ns => exact ⟨x, ns, rfl⟩
        have nfew : ns.length ≤ 40 := by
          rw [ebs] at bfew
          exact Nat.le_of_succ_le_succ bfew
        refine ⟨.str bd, rfl, .int z, rfl, .int ((1 + ws.length : Nat) : Int), rfl, bd, x, z, 1 + ws.length, ns, rfl, ebs, bsm, z32, by omega, nfew, ?_⟩
        by_cases hg : ∃ y l, GoodRow x ns z y l
        rotate_left
        · exact .inr ⟨fun y l g => hg ⟨y, l, g⟩, er1.same sHT⟩
        obtain ⟨y, l, g⟩ := hg
        refine .inl ⟨y, l, g, fun t' a H7 s7 ht ha => ?_⟩
        refine ⟨t', _, rfl, SqT.of ht, rfl, _, _, rfl, _, _, rfl, rfl, ?_⟩
        have errS : ∀ H8, Same H7 H8 → _ := fun H8 (s8 : Same H7 H8) => err_at (j := 1 + ws.length) (by omega) (sHT.trans (s7.trans s8)) er1
        by_cases hl : ∀ p, lastP ws = some p → sg p < sg y
        rotate_left
        · refine ⟨fun _ _ => False, ?_, fun _ _ h => h.elim⟩
          refine ⟨lv, rfl, rfl, _, rfl, ?_⟩
          rcases hlv with ⟨e0, rfl⟩ | ⟨r1, _, hr1, rfl⟩
          · exact absurd (fun p hp => by
              have : ws = [] := List.eq_nil_of_length_eq_zero e0
              rw [this] at hp
              cases hp) hl
          · refine iteT ⟨.str y, rfl, .str r1.1, rfl, y, r1.1, rfl, rfl, _, rfl, ?_⟩
            rw [show decide (r1.1.cps.toList < y.cps.toList) = false from decide_eq_false fun q => hl fun p hp => by
              rw [lastP_at hr1] at hp
              rw [← Option.some.inj hp]
              exact q]
            exact iteT ⟨.int ((1 + ws.length : Nat) : Int), rfl, errS _ (fun _ _ e => e)⟩
        refine ⟨fun σ H' => σ = [some (.str txt), some (.ref Ln), some (.str word), some (.int z), some (.ref R), some lv, some (.int ((1 + ws.length : Nat) : Int)), some (.str bd), some (.str y), some (.ref a)] ∧ H' = H7, ?_, ?_⟩
        · refine ⟨lv, rfl, rfl, _, rfl, ?_⟩
          rcases hlv with ⟨_, rfl⟩ | ⟨r1, _, hr1, rfl⟩
          · exact iteF ⟨rfl, rfl⟩
          · refine iteT ⟨.str y, rfl, .str r1.1, rfl, y, r1.1, rfl, rfl, _, rfl, ?_⟩
            rw [show decide (r1.1.cps.toList < y.cps.toList) = true from decide_eq_true (hl r1.1 (lastP_at hr1))]
            exact iteF ⟨rfl, rfl⟩
        rintro σ H8 ⟨rfl, rfl⟩
        refine ⟨fun _ _ => False, ?_, fun _ _ h => h.elim⟩
        refine ⟨.str word, rfl, rfl, _, rfl, ?_⟩
        have tt : t = true := by
          cases t with
          | true => rfl
          | false => exact absurd ⟨y, l, good_line ebs g, g.bits, g.len, g.ok, g.asc, hl, fun z => (by cases z)⟩ nf
        have no1 : ¬ ∃ u, l = [some u] := fun h => nf ⟨y, l, good_line ebs g, g.bits, g.len, g.ok, g.asc, hl, fun _ => h⟩
        rw [ew, tt]
        rw [decide_eq_true (show V.str (wordB true) = V.str "table" from rfl)]
        refine iteT ⟨.ref a, rfl, a, _, rfl, .inl (SqL.of ha), rfl, _, rfl, ?_⟩
        by_cases h1 : l.length = 1
        rotate_left
        · exact iteNT (fun e => h1 (by
            have e' := V.int.inj e
            rw [List.length_map] at e'
            omega)) ⟨.int ((1 + ws.length : Nat) : Int), rfl, errS _ (fun _ _ e => e)⟩
        obtain ⟨o, eo⟩ := List.length_eq_one_iff.mp h1
        cases o with
        | some u => exact absurd ⟨u, eo⟩ no1
        | none =>
          rw [eo] at ha ⊢
          refine iteNS rfl ⟨.ref a, rfl, a, _, rfl, .inl (SqL.of ha), rfl, rfl, _, rfl, ?_⟩
          exact iteT ⟨.int ((1 + ws.length : Nat) : Int), rfl, errS _ (fun _ _ e => e)⟩
      rw [List.getElem?_map, List.getElem?_append_left (by rw [List.length_map]; exact iw), List.getElem?_map] at h2
      obtain ⟨ln, hln, rfl⟩ := Option.map_eq_some_iff.mp h2
      obtain ⟨r, hr, rfl⟩ := Option.map_eq_some_iff.mp hln
      obtain ⟨b1, b2, b3⟩ := rok r (List.mem_of_getElem? hr)
      obtain ⟨y, l⟩ := r
      dsimp only at b1 b2 b3
      have ca : ascO l = l := can.asc (y, l) (List.mem_of_getElem? hr)
      have few2 := b3.few
      have sT := same_upd (o := .tup [.int ((1 + i : Nat) : Int), .str (lineW (y, l))]) nT
      refine ⟨T, _, rfl, SqT.of upd_same, rfl, _, _, rfl, _, _, rfl, rfl, ?_⟩
      have bm : lineW (y, l) ∈ ws.map lineW ++ tl := List.mem_append_left _ (List.mem_map.mpr ⟨(y, l), List.mem_of_getElem? hr, rfl⟩)
      have bsm : Sm 1000000 (lineW (y, l)) := sm_part tsm (by rw [esp]; exact List.mem_cons_of_mem _ bm)
      refine ⟨.str (lineW (y, l)), rfl, .int z, rfl, .int ((1 + i : Nat) : Int), rfl, lineW (y, l), hd0 y, z, 1 + i, l.map wd, rfl, line_split b1 b3, bsm, z32, by omega, by rw [List.length_map]; exact few2, .inl ⟨y, l, (line_good b1 b2 b3 ca).2, fun t a H7 s7 ht ha => ?_⟩⟩
      refine ⟨t, _, rfl, SqT.of ht, rfl, _, _, rfl, _, _, rfl, rfl, ?_⟩
      have s57 := sT.trans s7
      have hR7 := s57 _ _ hR5
      have lv7 := lv5.same s57
      have keep7 : ∀ b o, b ≠ R → H4 b = some o → H7 b = some o := fun b o n e => s57 _ _ (keep b o n e)
      have aR : a ≠ R := ne_of ha hR7 (fun q => nomatch q)
      clear sT s7 s57 keep hR5 lv5
      refine ⟨fun σ H' => σ = [some (.str txt), some (.ref Ln), some (.str word), some (.int z), some (.ref R), some lv, some (.int ((1 + i : Nat) : Int)), some (.str (lineW (y, l))), some (.str y), some (.ref a)] ∧ H' = H7, ?_, ?_⟩
      · refine ⟨lv, rfl, rfl, _, rfl, ?_⟩
        rcases hlv with ⟨_, rfl⟩ | ⟨r0, i0, hr0, rfl⟩
        · exact iteF ⟨rfl, rfl⟩
        · refine iteT ⟨.str y, rfl, .str r0.1, rfl, y, r0.1, rfl, rfl, _, rfl, ?_⟩
          have hlt : sg r0.1 < sg y := by
            obtain ⟨h3, h4⟩ := List.getElem?_eq_some_iff.mp hr0
            obtain ⟨h5, h6⟩ := List.getElem?_eq_some_iff.mp hr
            have := upw (i - 1) i (by rw [List.length_map]; exact h3) (by rw [List.length_map]; exact iw) (by omega)
            rw [List.getElem_map, List.getElem_map, h4, h6] at this
            exact this
          rw [show decide (r0.1.cps.toList < y.cps.toList) = true from decide_eq_true hlt]
          exact iteF ⟨rfl, rfl⟩
      rintro σ H8 ⟨rfl, rfl⟩
      refine ⟨fun σ H' => σ = [some (.str txt), some (.ref Ln), some (.str word), some (.int z), some (.ref R), some lv, some (.int ((1 + i : Nat) : Int)), some (.str (lineW (y, l))), some (.str y), some (.ref a)] ∧ H' = H8, ?_, ?_⟩
      · refine ⟨.str word, rfl, rfl, _, rfl, ?_⟩
        rcases kind with ⟨rfl, hone⟩ | rfl
        · obtain ⟨u, eu⟩ := hone _ (List.mem_of_getElem? hr)
          dsimp only at eu
          subst eu
          rw [decide_eq_true (show V.str "table" = V.str "table" from rfl)]
          refine iteT ⟨.ref a, rfl, a, _, rfl, .inl (SqL.of ha), rfl, _, rfl, iteNS rfl ⟨.ref a, rfl, a, _, rfl, .inl (SqL.of ha), rfl, rfl, _, rfl, ?_⟩⟩
          exact iteF ⟨rfl, rfl⟩
        · rw [decide_eq_false (fun e : V.str "wish" = V.str "table" => absurd (V.str.inj e) (by decide))]
          exact iteF ⟨rfl, rfl⟩
      rintro σ H9 ⟨rfl, rfl⟩
      have ey : (ws.map (·.1))[i]'(by rw [List.length_map]; exact iw) = y := by
        rw [List.getElem_map, (List.getElem?_eq_some_iff.mp hr).2]
      have et : ws.take (i + 1) = ws.take i ++ [(y, l)] := by rw [List.take_add_one, hr]; rfl
      have kl := prd_len lv7
      have hnew : (Sum.inr y : Key) ∉ kvs.map (·.1) := by
        rw [lv7.keys]
        intro hm
        obtain ⟨u, hu, e⟩ := List.mem_map.mp hm
        obtain rfl := Sum.inr.inj e
        rw [List.map_take] at hu
        obtain ⟨j, hj, ej⟩ := List.mem_take_iff_getElem.mp hu
        have := upw j i (by omega) (by rw [List.length_map]; exact iw) (by omega)
        rw [ej, ey] at this
        exact List.lt_irrefl _ this
      have lb : kvs.length ≤ 60 := by
        rw [kl, List.length_take]
        omega
      refine ⟨.ref a, rfl, .ref R, rfl, .str y, rfl, R, _, rfl, DPut.k (k := .inr y) hR7 (big_lt (by omega)), .str y, rfl, ⟨_, _, _, _, _, rfl, .inr ⟨(y, l), Nat.succ_pos i, hr, rfl⟩⟩, iw, ⟨kvs ++ [(.inr y, .ref a)], by rw [upd_same, putK_end hnew], ?_⟩, fun b o n e => ?_⟩
      · rw [et]
        refine paired_app ?_ (.cons ⟨rfl, a, rfl, ?_, aR⟩ .nil)
        · exact lv7.but fun b o n e => by rw [upd_ne n]; exact e
        · rw [upd_ne aR]
          exact ha
      · rw [upd_ne n]
        exact keep7 b o n e
    · rintro σ H5 ⟨⟨x6, x7, x8, x9, lv, rfl, _⟩, hle, ⟨kvs, hR5, lv5⟩, keep⟩
      rw [List.length_map, List.length_append, List.length_map] at hle lv5
      rcases alt with ⟨rfl, alt⟩ | ⟨bd, more, rfl, _⟩
      rotate_left
      · exact absurd hle (by show ¬ (ws.length + (more.length + 1) ≤ ws.length); omega)
      rw [show ws.length + ([] : List Str).length = ws.length from rfl, List.take_length] at lv5
      have sH : Same H H5 := fun b o eb => keep b o (ne_of_none eb nRH) (s14 _ _ eb)
      have kl := prd_len lv5
      clear hD4 hR4 hR3 hL3 hL2 hL
      refine ⟨.str word, rfl, rfl, _, rfl, ?_⟩
      rcases alt with ⟨rfl, q⟩ | ⟨rfl, q⟩
      · have hone := kd rfl
        rw [ew]
        rw [decide_eq_true (show V.str (wordB true) = V.str "table" from rfl)]
        refine iteT ⟨.int z, rfl, R, .dK kvs, hR5, trivial, fun od => ⟨.ref R, rfl, R, od, kvs, rfl, upd_same, fun G nG => ?_⟩⟩
        obtain ⟨GR, nG5⟩ := upd_free nG
        refine dc_it walk_items (fun i H' => H' G = some (.dK (kvT (ws.take i))) ∧ H' R = some (.frz od (.dK kvs)) ∧ ∀ b o, b ≠ R → H5 b = some o → H' b = some o) ⟨upd_same, by rw [upd_ne GR.symm, upd_same], fun b o n e => by rw [upd_ne (ne_of_none e nG5), upd_ne n]; exact e⟩ (fun _ _ _ h => h.2.1) ?_ ?_
        · rintro i u HA HB hi ⟨hG, hRl, kp⟩ ⟨T, k, v, rfl, nT, rfl, h1, h2⟩
          obtain ⟨kv, hkv⟩ : ∃ kv, kvs[i]? = some kv := ⟨kvs[i], List.getElem?_eq_getElem hi⟩
          have h1a : (kvs[i]?.map fun kv => kV kv.1) = some k := h1
          have h2a : (kvs[i]?.map Prod.snd) = some v := h2
          rw [hkv] at h1a h2a
          obtain ⟨r, hr, e1, a, e2, ha, aR⟩ := prd_get lv5 hkv
          obtain ⟨k0, v0⟩ := kv
          obtain ⟨y, l⟩ := r
          dsimp only at e1 e2 ha h1a h2a
          subst e1 e2
          obtain rfl : k = .str y := (Option.some.inj h1a).symm
          obtain rfl : V.ref a = v := Option.some.inj h2a
          obtain ⟨t, et⟩ := hone _ (List.mem_of_getElem? hr)
          dsimp only at et
          subst et
          have sT := same_upd (o := .tup [.str y, .ref a]) nT
          have haB := sT _ _ (kp _ _ aR ha)
          have et : ws.take (i + 1) = ws.take i ++ [(y, [some t])] := by rw [List.take_add_one, hr]; rfl
          have hnew : (Sum.inr y : Key) ∉ (kvT (ws.take i)).map (·.1) := by
            intro hm
            unfold kvT at hm
            rw [List.map_map] at hm
            obtain ⟨r', hr', e⟩ := List.mem_map.mp hm
            have e' : r'.1 = y := Sum.inr.inj e
            obtain ⟨j, hj, ej⟩ := List.mem_take_iff_getElem.mp hr'
            have iw : i < ws.length := (List.getElem?_eq_some_iff.mp hr).1
            have := (List.pairwise_iff_getElem.mp can.up) j i (by rw [List.length_map]; omega) (by rw [List.length_map]; exact iw) (by omega)
            rw [List.getElem_map, List.getElem_map, ej, (List.getElem?_eq_some_iff.mp hr).2, e'] at this
            exact List.lt_irrefl _ this
          refine ⟨T, _, rfl, SqT.of upd_same, rfl, _, _, rfl, _, _, rfl, rfl, rfl, yes_if ?_⟩
          refine ⟨.str y, rfl, .ref a, rfl, a, _, 0, .str t, rfl, rfl, SqL.of haB, atI_nat (j := 0) rfl, kvT (ws.take i), .inr y, rfl, sT _ _ hG, big_lt ?_, ?_, ?_, fun b o n e => ?_⟩
          · unfold kvT
            rw [List.length_map, List.length_take]
            omega
          · rw [upd_same, putK_end hnew, et]
            unfold kvT
            rw [List.map_append]
            rfl
          · rw [upd_ne GR.symm]
            exact sT _ _ hRl
          · rw [upd_ne (ne_of_none e nG5)]
            exact sT _ _ (kp b o n e)
        · rintro HA ⟨hG, hRl, kp⟩
          rw [kl, List.take_length] at hG
          refine ⟨hRl, fun x dx nx ndx nex => ?_⟩
          have hG2 : (upd HA R (.dK kvs)) G = some (.dK (kvT ws)) := by rw [upd_ne GR]; exact hG
          have sA : Same H5 (upd HA R (.dK kvs)) := fun b o e => by
            by_cases h : b = R
            · subst h
              rw [upd_same]
              rw [hR5] at e
              exact e
            · rw [upd_ne h]
              exact kp b o h e
          have okT : RowsOk z isTgtV (ws.map (·.1)) (kvT ws) := ⟨by unfold kvT; rw [List.map_map, List.map_map]; rfl, can.ok.pfx, fun kv hk => by
            obtain ⟨r, hr, rfl⟩ := List.mem_map.mp hk
            obtain ⟨t, et⟩ := hone r hr
            have := (can.ok.ok r hr).tg (some t) (by rw [et]; exact List.mem_cons_self)
            show isTgtV (tgt0 r.2)
            rw [et]
            exact this⟩
          refine ⟨x, dx, G, z, ws.map (·.1), kvT ws, rfl, upd_same, z1, z32, by rw [upd_ne (ne_of_none hG2 nx), upd_ne (ne_of_none hG2 ndx)]; exact hG2, okT, by rw [List.length_map]; omega, fun e ys ka H6 ne hs hm kp6 => ⟨rfl, ?_⟩⟩
          have eys : ys = ws.map (·.1) := by rw [sortS_of hs.perm hs.up, can.keys]
          subst eys
          refine q x e ka H6 (sH.trans (sA.trans (Same.made nx ndx kp6))) hm (hs.rows okT) ?_
          unfold tabR
          rw [List.map_map]
          conv => rhs; rw [← List.map_id ws]
          refine List.map_congr_left fun r hr => ?_
          obtain ⟨t, et⟩ := hone r hr
          have h1 := hs.val r.1 (List.mem_map.mpr ⟨r, hr, rfl⟩)
          have h2 : valV (kvT ws) (.inr r.1) = some (tgt0 r.2) := valV_some okT.acc.nd (List.mem_map.mpr ⟨r, hr, rfl⟩)
          show (r.1, [strO (valV ka (.inr r.1))]) = r
          rw [h1, h2, et]
          show (r.1, [some t]) = r
          rw [← et]
      · rw [ew]
        rw [decide_eq_false (fun e : V.str (wordB false) = V.str "table" => absurd (V.str.inj e) (by decide))]
        refine iteF ⟨.int z, rfl, .ref R, rfl, fun x dx nx ndx nex => ?_⟩
        have sM : Same H5 (upd (upd H5 dx (.own x)) x (.ins CW dx [])) := fun b o e => by rw [upd_ne (ne_of_none e nx), upd_ne (ne_of_none e ndx)]; exact e
        refine ⟨x, dx, R, z, kvs, ws, rfl, upd_same, z1, z32, sM _ _ hR5, (LVal.in lv5).same sM, can.ok, by omega, fun e H6 ne hw keep6 => ⟨rfl, ?_⟩⟩
        rw [can.sort] at hw
        exact q x e H6 (sH.trans (Same.made nx ndx keep6)) hw
end

/-- a dict of rows, and as what a map keeps them -/
def Given (p : Addr) (H : Hp) (word : Str) (z : Nat) (d : Addr) (ws : WRows) : Prop :=
  (word = "table" ∧ ∃ xs kvs, H d = some (.dK kvs) ∧ RowsOk z isTgtV xs kvs ∧ xs.length ≤ 20 ∧ ws = tabR (sortS xs) kvs) ∨ (word = "wish" ∧ ∃ kvs rows, H d = some (.dK kvs) ∧ LVal p H kvs rows ∧ RowsW isT z rows ∧ rows.length ≤ 20 ∧ ws = sortW rows)
def MapIs (C W : Addr) (H : Hp) (word : Str) (x : Addr) (z : Nat) (ws : WRows) : Prop :=
  (word = "table" ∧ ∃ e ka, MapAt C H x e z ka ∧ RowsOk z isTgtV (ws.map (·.1)) ka ∧ tabR (ws.map (·.1)) ka = ws) ∨ (word = "wish" ∧ ∃ e, WishAt W H x e z ws)
def Kind (word : Str) (ws : WRows) : Prop := (word = "table" ∧ ∀ r ∈ ws, ∃ t, r.2 = [some t]) ∨ word = "wish"
theorem Given.same {p : Addr} {H H' : Hp} {word : Str} {z : Nat} {d : Addr} {ws : WRows} (s : Same H H') (h : Given p H word z d ws) : Given p H' word z d ws := by
  rcases h with ⟨h0, xs, kvs, h1, h2⟩ | ⟨h0, kvs, rows, h1, h2, h3⟩
  · exact .inl ⟨h0, xs, kvs, s _ _ h1, h2⟩
  · exact .inr ⟨h0, kvs, rows, s _ _ h1, h2.same s, h3⟩
theorem MapIs.same {C W : Addr} {H H' : Hp} {word : Str} {x : Addr} {z : Nat} {ws : WRows} (s : Same H H') (h : MapIs C W H word x z ws) : MapIs C W H' word x z ws := by
  rcases h with ⟨h0, e, ka, h1, h2⟩ | ⟨h0, e, ⟨dx, h1⟩, kvs, h2, h3⟩
  · exact .inl ⟨h0, e, ka, h1.same s, h2⟩
  · exact .inr ⟨h0, e, ⟨dx, s _ _ h1⟩, kvs, s _ _ h2, h3.same s⟩
theorem val_perm {w : Nat} {xs ys : List Str} {kvs : List (Key × V)} (ok : RowsOk w isTgtV xs kvs) (h : ∀ y ∈ ys, y ∈ xs) : ∀ r ∈ tabR ys kvs, ∃ t, r.2 = [some t] ∧ isT t = true := fun r hr => by
  obtain ⟨y, hy, rfl⟩ := List.mem_map.mp hr
  obtain ⟨t, ht, tt⟩ := val_tgt ok (h y hy)
  exact ⟨t, by show [strO (valV kvs (.inr y))] = _; rw [ht]; rfl, tt⟩
theorem strict_of {xs : List Str} (nd : xs.Nodup) (up : (xs).Pairwise LeS) : xs.Pairwise fun a b => sg a < sg b := (nd.and up).imp fun {a b} h => by
  rcases List.le_iff_lt_or_eq.mp h.2 with q | q
  · exact q
  · exact absurd (TL.ext_tl q) h.1
theorem sortS_pw (xs : List Str) : (sortS xs).Pairwise LeS := by
  have h := List.pairwise_mergeSort (le := leB) (fun a b c h1 h2 => decide_eq_true (leS_trans (of_decide_eq_true h1) (of_decide_eq_true h2))) (fun a b => by
    rcases List.le_total (sg a) (sg b) with h | h
    · rw [show leB a b = true from decide_eq_true h]; rfl
    · rw [show leB b a = true from decide_eq_true h, Bool.or_true]) xs
  exact h.imp fun h => of_decide_eq_true h
theorem asc_one (t : Str) : ascO [some t] = [some t] := by
  have e1 : sortS [t] = [t] := (sortS_of (.refl _) rfl).symm
  unfold ascO
  rw [if_neg (fun h => by have := List.mem_singleton.mp h; cases this)]
  show [] ++ (sortS [t]).map some = [some t]
  rw [e1]
  rfl
theorem Given.can {p : Addr} {H : Hp} {word : Str} {z : Nat} {d : Addr} {ws : WRows} (h : Given p H word z d ws) : Can z ws ∧ ws.length ≤ 20 ∧ Kind word ws := by
  rcases h with ⟨h0, xs, kvs, _, ok, few, rfl⟩ | ⟨h0, kvs, rows, _, _, ok, few, rfl⟩
  · have pm := sortS_perm xs
    have nd : (sortS xs).Nodup := pm.nodup_iff.mpr ok.pfx.nd
    have vp := val_perm (ys := sortS xs) ok fun y hy => mem_sortS.mp hy
    refine ⟨⟨⟨by rw [tabR_keys]; exact ⟨nd, fun y hy => ok.pfx.bits y (mem_sortS.mp hy), fun y hy => ok.pfx.len y (mem_sortS.mp hy)⟩, fun r hr => ?_⟩, by rw [tabR_keys]; exact strict_of nd (sortS_pw xs), fun r hr => ?_⟩, ?_, .inl ⟨h0, fun r hr => ?_⟩⟩
    · obtain ⟨t, e, tt⟩ := vp r hr
      rw [e]
      exact ⟨List.nodup_cons.mpr ⟨List.not_mem_nil, List.nodup_nil⟩, fun o ho => by rw [List.mem_singleton.mp ho]; exact tt, by show 1 ≤ 40; decide⟩
    · obtain ⟨t, e, _⟩ := vp r hr
      rw [e]
      exact asc_one t
    · show (List.map _ _).length ≤ 20
      rw [List.length_map, pm.length_eq]
      exact few
    · obtain ⟨t, e, _⟩ := vp r hr
      exact ⟨t, e⟩
  · have pm := sortS_perm (rows.map (·.1))
    have nd : (sortS (rows.map (·.1))).Nodup := pm.nodup_iff.mpr ok.pfx.nd
    refine ⟨⟨ok.sort, by rw [sortW_keys]; exact strict_of nd (sortS_pw _), fun r hr => ?_⟩, ?_, .inr h0⟩
    · obtain ⟨y, hy, rfl⟩ := List.mem_map.mp hr
      exact ascO_idem _
    · show (List.map _ _).length ≤ 20
      rw [List.length_map, pm.length_eq, List.length_map]
      exact few

def spLRows : Sp := fun vs H Q _ => ∃ (p c : Addr) (n z most : Nat) (m : List V) (word : Str), vs = [.ref p, .str word, .int z, .int most] ∧ (word = "table" ∨ word = "wish") ∧ Pen H p c n m ∧ n + 2000 ≤ PB ∧ z ≤ 32 ∧ most ≤ 20 ∧
  ∀ (d : Addr) (ws : WRows) (H' : Hp), But p H H' → H d = none → Given p H' word z d ws → Pen H' p c (n + 400) m → (∀ r ∈ ws, r.2.length ≤ 5) → Q (.ref d) H'
abbrev sRw : Stmt := top 42
section
variable {P : Program} {w : World} {K : PySem.W.Frag} {mg : Str → Option Value} {base : Heap}
abbrev NRw : List Str := ["pen", "kind", "size", "most"]
theorem scRw : FnScope NRw ["pen", "kind", "size", "most"] (defScope sRw) := ⟨rfl, rfl, rfl, by decide +kernel, rfl, by decide +kernel, by decide +kernel⟩
set_option maxHeartbeats 8000000 in
theorem ok_Rw {f fY fWa : Addr} {fd fdY fdWa : FuncData} {k : Nat} (F : Fun K "_law_rows" "_law_rows" sRw f fd)
    (GY : FnOk P w K mg base CX0 k fY fdY ["pen", "size", "most"] (spLinesM isTgtV))
    (FY : Fun K "_law_lines" "_law_lines" sY fY fdY) (bY : Binds K fdY ["pen", "size", "most"] []) (gY : mg "_law_lines" = some (.ref fY))
    (GWa : FnOk P w K mg base CX0 k fWa fdWa ["pen", "size", "most"] spWanted)
    (FWa : Fun K "_law_wanted" "_law_wanted" sWa fWa fdWa) (bWa : Binds K fdWa ["pen", "size", "most"] []) (gWa : mg "_law_wanted" = some (.ref fWa))
    : FnOk P w K mg base CX0 (k + 1) f fd ["pen", "kind", "size", "most"] spLRows := by
  refine F.ok scRw (fun vs H Q E h => ?_) (fun cdv A outer s H vs Q E hr h => ?_)
  · obtain ⟨p, c, n, z, most, m, word, rfl, _⟩ := h
    rfl
  · obtain ⟨p, c, n, z, most, m, word, rfl, hw, hp, hn, hz, hm, q⟩ := h
    have nd := scRw.nd
    have hu := hr.units
    have hu1 := hu_of hr
    have hr1 := hr
    refine ⟨_, pss_one (ps_ret (pe_ifExp (pt_cmpR op_eq (pv 1) pe_str (nomark _)) (pe_call GY hr1 (by rfl) gY FY.kp bY .nil pass0 (pa_cons (pv 0) (pa_cons (pv 2) (pa_cons (pv 3) pa_nil)))) (pe_call GWa hr1 (by rfl) gWa FWa.kp bWa .nil pass0 (pa_cons (pv 0) (pa_cons (pv 2) (pa_cons (pv 3) pa_nil)))))), ?_⟩
    rcases hw with rfl | rfl
    · refine ⟨.str "table", rfl, rfl, _, rfl, ?_⟩
      rw [decide_eq_true (show V.str "table" = V.str "table" from rfl)]
      have hnB : n + 2000 ≤ 1000000000000 := hn
      exact iteT ⟨.ref p, rfl, .int z, rfl, .int most, rfl, p, c, n, z, most, m, rfl, hp, by show n + 1000 ≤ 1000000000000; omega, hz, hm, fun d xs kvs H' b nd hd ok l1 p1 => q d _ H' b nd (.inl ⟨rfl, xs, kvs, hd, ok, by omega, rfl⟩) (p1.mono (by omega)) (fun r hr => by obtain ⟨u, e, _⟩ := val_perm ok (fun y hy => mem_sortS.mp hy) r hr; rw [e]; show 1 ≤ 5; decide)⟩
    · refine ⟨.str "wish", rfl, rfl, _, rfl, ?_⟩
      rw [decide_eq_false (fun e : V.str "wish" = V.str "table" => absurd (V.str.inj e) (by decide))]
      exact iteF ⟨.ref p, rfl, .int z, rfl, .int most, rfl, p, c, n, z, most, m, rfl, hp, hn, hz, hm, fun d kvs rows H' b nd hd lv ok l1 p1 l5 => q d _ H' b nd (.inr ⟨rfl, kvs, rows, hd, lv, ok, by omega, rfl⟩) p1 (fun r hr => by obtain ⟨y, hy, rfl⟩ := List.mem_map.mp hr; obtain ⟨r', hr', rfl⟩ := List.mem_map.mp (mem_sortS.mp hy); show (ascO (look rows r'.1)).length ≤ 5; rw [look_mem ok.pfx.nd (y := r'.1) (l := r'.2) hr', ascO_len (ok.ok r' hr').nd]; exact l5 r' hr')⟩
end

def spLText (K : PySem.W.Frag) : Sp := fun vs H Q _ => ∃ (p : Addr) (word : Str) (z : Nat) (d : Addr) (ws : WRows), vs = [.str word, .int z, .ref d] ∧ z ≤ 32 ∧ Given p H word z d ws ∧ ∀ H', Same H H' → Q (.str (textW word z ws)) H'
theorem line_two (a b : Str) : Txt.join " " [a, b] = a ++ " " ++ b := TL.join_eq _ _
abbrev sTx : Stmt := top 40
section
variable {P : Program} {w : World} {K : PySem.W.Frag} {mg : Str → Option Value} {base : Heap}
abbrev NTx : List Str := ["kind", "size", "rows_given", "lines", "prefix", "head", "some", "one"]
theorem scTx : FnScope NTx ["kind", "size", "rows_given"] (defScope sTx) := ⟨rfl, rfl, rfl, by decide +kernel, rfl, by decide +kernel, by decide +kernel⟩
set_option maxHeartbeats 8000000 in
theorem ok_Tx {f fSo : Addr} {fd fdSo : FuncData} {k : Nat} (F : Fun K "_law_text" "_law_text" sTx f fd)
    (m_str : mg "str" = none)
    (m_sorted : mg "sorted" = none)
    (GSo : FnOk P w K mg base CX0 k fSo fdSo ["some"] (spSortedO K))
    (FSo : Fun K "_law_sorted" "_law_sorted" sSo fSo fdSo) (bSo : Binds K fdSo ["some"] []) (gSo : mg "_law_sorted" = some (.ref fSo))
    : FnOk P w K mg base CX0 (k + 1) f fd ["kind", "size", "rows_given"] ((spLText K)) := by
  refine F.ok scTx (fun vs H Q E h => ?_) (fun cdv A outer s H vs Q E hr h => ?_)
  · obtain ⟨p, word, z, d, ws, rfl, _⟩ := h
    rfl
  · obtain ⟨p, word, z, d, ws, rfl, z32, hg, q⟩ := h
    have nd := scTx.nd
    have hu := hr.units
    have hu1 := hu_of hr
    have hr1 := hr
    refine ⟨_, pss_cons (ps_set (i := 3) nd rfl (.inl rfl) (pe_lst (pa_cons (pe_op op_add_str (pe_op op_add_str (pv 0) pe_str) (pe_callTy call_str_int (by rfl) m_str (by decide +kernel) (pa_cons (pv 1) pa_nil))) pa_nil)))
      (pss_cons (ps_for PassesOwn.never rfl (pi_list (pe_callB (cr_sortDk rfl hu) (by rfl) m_sorted (by decide +kernel) (pa_cons (pv 2) pa_nil))) (pg_name (i := 4) nd rfl (.inl rfl))
        (C8.pss_cut (ps_set (i := 5) nd rfl (.inl rfl) (pe_ifExp (pt_cmpR op_ne (pv 4) pe_str (nomark _)) (pv 4) pe_str))
        (pss_one (ps_if (pt_cmpR op_eq (pv 0) pe_str (nomark _))
          (pss_one (ps_expr (pe_bm PySem.F.plainAttrs_list PySem.F.slot_list_append PySem.F.type_list_append mt_append (pv 3) (pa_cons (pe_op op_add_str (pe_op op_add_str (pv 5) pe_str) (pe_dget hu1 (pv 2) (pv 4) (fun _ _ => rfl))) pa_nil)))) (pss_cons (ps_setLc (i := 6) (own := [("one", 7)]) (g := gName 7) (tt := tYes) rfl nd rfl rfl (sw_true rfl rfl rfl (by decide +kernel)) (pi_tup (pe_call GSo hr1 (by rfl) gSo FSo.kp bSo .nil pass0 (pa_cons (pe_dget hu1 (pv 2) (pv 4) (fun _ _ => rfl)) pa_nil))) (blkOk_by (N := NTx) (sc := defScope sTx) (by decide +kernel)) (fun _ _ _ _ _ => pg_name (i := 7) nd rfl (.inl rfl)) (fun _ _ _ _ _ => pts_nil) (fun _ _ _ _ _ => (pe_ifExp (pt_cmpR op_isN (pv 7) pe_non (nomark _)) pe_str (pv 7))))
          (pss_one (ps_expr (pe_bm PySem.F.plainAttrs_list PySem.F.slot_list_append PySem.F.type_list_append mt_append (pv 3) (pa_cons (pe_join pe_str (pe_op op_cat (pe_lst (pa_cons (pv 5) pa_nil)) (pv 6))) pa_nil)))))))))
      (pss_one (ps_ret (pe_join pe_str (pv 3))))), ?_⟩
    obtain ⟨can, few, kind⟩ := hg.can
    obtain ⟨hword, zs, kvs, hd, hk, fz, ekeys, rowT, rowW⟩ : (word = "table" ∨ word = "wish") ∧ ∃ zs kvs, H d = some (.dK kvs) ∧ kvs.map (·.1) = zs.map Sum.inr ∧ zs.length ≤ 20 ∧ ws.map (·.1) = sortS zs ∧ (word = "table" → ∀ r ∈ ws, ∃ t, r.2 = [some t] ∧ valV kvs (.inr r.1) = some (.str t)) ∧ (word = "wish" → ∀ r ∈ ws, ∃ a l0, valV kvs (.inr r.1) = some (.ref a) ∧ H a = some (.lst (l0.map optV)) ∧ OkL isT l0 ∧ r.2 = ascO l0) := by
      rcases hg with ⟨h0, xs, kvs, hd, ok, few0, rfl⟩ | ⟨h0, kvs, rows, hd, lv, ok, few0, rfl⟩
      · refine ⟨.inl h0, xs, kvs, hd, ok.keys, few0, by rw [tabR_keys], fun _ r hr => ?_, fun e => by rw [h0] at e; exact absurd e (by decide)⟩
        obtain ⟨y, hy, rfl⟩ := List.mem_map.mp hr
        obtain ⟨t, ht, tt⟩ := val_tgt ok (mem_sortS.mp hy)
        exact ⟨t, by show [strO (valV kvs (.inr y))] = _; rw [ht]; rfl, ht⟩
      · refine ⟨.inr h0, rows.map (·.1), kvs, hd, lv.keys, by rw [List.length_map]; exact few0, sortW_keys rows, fun e => by rw [h0] at e; exact absurd e (by decide), fun _ r hr => ?_⟩
        obtain ⟨y, hy, rfl⟩ := List.mem_map.mp hr
        have hym := mem_sortS.mp hy
        obtain ⟨a, h1, h2⟩ := lv.at hym
        exact ⟨a, _, h1, h2, ok.ok _ (look_at hym), rfl⟩
    clear hg
    have wl : word.length ≤ 5 := by rcases hword with rfl | rfl <;> decide
    have nl := numS_len z32
    have lw : ((z : Nat) : Int).natAbs.log2 < 1920 := Nat.lt_of_le_of_lt (Nat.log2_le_self z) (by omega)
    have e1 : Str.length " " = 1 := by decide
    refine ⟨.str word, rfl, word, " ", rfl, rfl, big_of (by omega), .int z, rfl, z, rfl, lw, _, _, rfl, rfl, ?_, by show 1 ≤ sizeLine; decide, fun F nF => ?_⟩
    · show (word ++ " ").length + (numS z).length ≤ _
      rw [str_app_len]
      exact big_of (by omega)
    show gName 3 (V.ref F) _ (upd H F (.lst [.str (headW word z)])) _
    have s0 := same_upd (o := .lst [.str (headW word z)]) nF
    have hF0 := upd_same (H := H) (a := F) (o := .lst [.str (headW word z)])
    have hd0' := s0 _ _ hd
    have nFH := nF
    revert s0 hF0 hd0'
    generalize upd H F (.lst [.str (headW word z)]) = H1
    intro s0 hF0 hd0'
    refine ⟨.ref d, rfl, d, kvs, zs, rfl, .inl hd0', hk, by omega, fun ys A perm up nA => ?_⟩
    have eys : ys = ws.map (·.1) := by rw [ekeys]; exact sortS_of perm up
    subst eys
    have sA := same_upd (o := .lst ((ws.map (·.1)).map V.str)) nA
    have hA := upd_same (H := H1) (a := A) (o := .lst ((ws.map (·.1)).map V.str))
    have hFA := sA _ _ hF0
    have s1 := s0.trans sA
    have AF : A ≠ F := (ne_of_none hF0 nA).symm
    revert hA hFA s1
    generalize upd H1 A (.lst ((ws.map (·.1)).map V.str)) = H2
    intro hA hFA s1
    refine ⟨A, rfl, ⟨_, SqL.of hA⟩, for_list (K := K) (a := A) (xs := (ws.map (·.1)).map V.str) (fun i σ H' => (∃ x4 x5 x6, σ = [some (.str word), some (.int z), some (.ref d), some (.ref F), x4, x5, x6, none]) ∧ H' F = some (.lst ((headW word z :: (ws.take i).map lineW).map V.str)) ∧ ∀ b o, b ≠ F → H2 b = some o → H' b = some o) ⟨⟨_, _, _, rfl⟩, hFA, fun _ _ _ h => h⟩ (fun _ _ _ _ h => SqL.of (h.2.2 _ _ AF hA)) ?_ ?_⟩
    · rintro i v σ H3 hv ⟨⟨x4, x5, x6, rfl⟩, hF3, keep⟩
      rw [List.map_map, List.getElem?_map] at hv
      obtain ⟨r, hr, rfl⟩ := Option.map_eq_some_iff.mp hv
      have rm := List.mem_of_getElem? hr
      obtain ⟨y, l⟩ := r
      have ym : y ∈ ws.map (·.1) := List.mem_map.mpr ⟨(y, l), rm, rfl⟩
      have yb := can.ok.pfx.bits y ym
      have yl : y.length ≤ 32 := Nat.le_trans (can.ok.pfx.len y ym) z32
      have okl : OkL isT l := can.ok.ok _ rm
      have sH : Same H H3 := fun b o eb => keep b o (ne_of_none eb nFH) (s1 _ _ eb)
      have et : ws.take (i + 1) = ws.take i ++ [(y, l)] := by rw [List.take_add_one, hr]; rfl
      have big : ((headW word z :: (ws.take i).map lineW).map V.str).length < sizeLine := by
        rw [List.length_map, List.length_cons, List.length_map, List.length_take]
        exact big_lt (by omega)
      have fin : ∀ H4, Same H3 H4 → (upd H4 F (.lst ((headW word z :: (ws.take i).map lineW).map V.str ++ [.str (lineW (y, l))]))) F = some (.lst ((headW word z :: (ws.take (i + 1)).map lineW).map V.str)) ∧ ∀ b o, b ≠ F → H2 b = some o → (upd H4 F (.lst ((headW word z :: (ws.take i).map lineW).map V.str ++ [.str (lineW (y, l))]))) b = some o := fun H4 s4 => by
        refine ⟨?_, fun b o n h => ?_⟩
        · rw [upd_same, et, List.map_append, ← List.cons_append, List.map_append]
          rfl
        · rw [upd_ne n]
          exact s4 _ _ (keep b o n h)
      have h0l := hd0_len yl
      show gName 4 (V.str y) _ H3 _
      refine ⟨fun σ H' => σ = [some (.str word), some (.int z), some (.ref d), some (.ref F), some (.str y), some (.str (hd0 y)), x6, none] ∧ H' = H3, ?_, ?_⟩
      · refine ⟨.str y, rfl, rfl, _, rfl, ?_⟩
        by_cases h : y = ""
        · subst h
          rw [decide_eq_true (show V.str "" = V.str "" from rfl)]
          exact iteF ⟨rfl, rfl⟩
        · rw [decide_eq_false (fun z => h (V.str.inj z))]
          exact iteT ⟨.str y, rfl, by unfold hd0; rw [if_neg h]; rfl, rfl⟩
      rintro σ H4 ⟨rfl, rfl⟩
      have hdH := sH _ _ hd
      refine ⟨.str word, rfl, rfl, _, rfl, ?_⟩
      rcases hword with rfl | rfl
      · obtain ⟨t, el, hval⟩ := rowT rfl _ rm
        dsimp only at el hval
        subst el
        have tl : t.length ≤ 8 := okl_wd okl t (List.mem_map.mpr ⟨some t, List.mem_cons_self, rfl⟩)
        rw [decide_eq_true (show V.str "table" = V.str "table" from rfl)]
        refine iteT ⟨.ref F, rfl, .inl ⟨rfl, _, SqL.of hF3⟩, .str (hd0 y), rfl, hd0 y, " ", rfl, rfl, big_of (by omega), .ref d, rfl, .str y, rfl, d, .str t, rfl, by rw [← hval]; exact DGet.k (k := .inr y) hdH, hd0 y ++ " ", t, rfl, rfl, ?_, F, _, .str (lineW (y, [some t])), rfl, ?_, hF3, big, ⟨_, _, _, rfl⟩, fin H4 (.refl _)⟩
        · rw [str_app_len]
          exact big_of (by omega)
        · show [V.str (hd0 y ++ " " ++ t)] = [V.str (Txt.join " " [hd0 y, t])]
          rw [line_two]
      · obtain ⟨a, l0, hval, ha, ok0, el⟩ := rowW rfl _ rm
        dsimp only at el hval
        subst el
        rw [decide_eq_false (fun e : V.str "wish" = V.str "table" => absurd (V.str.inj e) (by decide))]
        refine iteF ⟨.ref d, rfl, .str y, rfl, d, .ref a, rfl, by rw [← hval]; exact DGet.k (k := .inr y) hdH, a, l0, rfl, SqL.of (sH _ _ ha), ok0, fun t H5 s5 nt ht => ?_⟩
        refine ⟨t, rfl, ⟨_, SqT.of ht⟩, fun D nD => ?_⟩
        refine lc_it (walk_tup (K := K) (a := t) (xs := (ascO l0).map optV)) (fun i H' => H' D = some (.lst ((((ascO l0).take i).map wd).map V.str)) ∧ Same H5 H') ⟨upd_same, same_upd nD⟩ (fun _ _ _ h => SqT.of (h.2 _ _ ht)) ?_ ?_
        · rintro j v HA HB hj ⟨hD, sA⟩ ⟨rfl, hv⟩
          rw [List.getElem?_map] at hv
          obtain ⟨o, ho, rfl⟩ := Option.map_eq_some_iff.mp hv
          have et : (ascO l0).take (j + 1) = (ascO l0).take j ++ [o] := by rw [List.take_add_one, ho]; rfl
          have fl := okl.few
          have bg : ((((ascO l0).take j).map wd).map V.str).length < sizeLine := by
            rw [List.length_map, List.length_map, List.length_take]
            exact big_lt (by omega)
          have fi : (upd HB D (.lst ((((ascO l0).take j).map wd).map V.str ++ [.str (wd o)]))) D = some (.lst ((((ascO l0).take (j + 1)).map wd).map V.str)) ∧ Same H5 (upd HB D (.lst ((((ascO l0).take j).map wd).map V.str ++ [.str (wd o)]))) := by
            refine ⟨by rw [upd_same, et, List.map_append, List.map_append]; rfl, fun b o' eb => ?_⟩
            rw [upd_ne (ne_of_none eb nD)]
            exact sA _ _ eb
          refine ⟨rfl, yes_if ⟨optV o, rfl, rfl, _, rfl, ?_⟩⟩
          cases o with
          | none => exact iteT ⟨_, hD, bg, fi⟩
          | some u => exact iteF ⟨.str u, rfl, _, hD, bg, fi⟩
        · rintro HA ⟨hD, sA⟩
          rw [List.length_map, List.take_length] at hD
          have hFA := sA _ _ (s5 _ _ hF3)
          have fl := okl.few
          refine ⟨.ref F, rfl, .inl ⟨rfl, _, SqL.of hFA⟩, ⟨_, rfl⟩, .str (hd0 y), rfl, by show 1 ≤ sizeLine; decide, fun B nB => ⟨.ref D, rfl, ?_⟩⟩
          have sB := same_upd (o := .lst [.str (hd0 y)]) nB
          refine ⟨B, D, _, _, rfl, rfl, upd_same, sB _ _ hD, big_of (by rw [List.length_map, List.length_map]; show 1 + _ ≤ 1000; omega), fun C nC => ?_⟩
          have sC := same_upd (o := .lst ([V.str (hd0 y)] ++ ((ascO l0).map wd).map V.str)) nC
          refine ⟨" ", C, hd0 y :: (ascO l0).map wd, rfl, rfl, .inl (SqL.of upd_same), ?_, F, _, .str (lineW (y, ascO l0)), rfl, rfl, sC _ _ (sB _ _ hFA), big, ⟨_, _, _, rfl⟩, fin _ (s5.trans (sA.trans (sB.trans sC)))⟩
          have := sum_le (xs := hd0 y :: (ascO l0).map wd) (m := 32) fun x hx => by
            rcases List.mem_cons.mp hx with rfl | hx
            · exact h0l
            · exact Nat.le_trans (okl_wd okl x hx) (by decide)
          rw [List.length_cons, List.length_map] at *
          rw [e1]
          omega
    · rintro σ H3 ⟨⟨x4, x5, x6, rfl⟩, hF3, keep⟩
      rw [List.length_map, List.length_map, List.take_length] at hF3
      refine ⟨⟨_, rfl⟩, .ref F, rfl, Str.ofString "\n", F, headW word z :: ws.map lineW, rfl, rfl, .inl (SqL.of hF3), ?_, q H3 fun b o eb => keep b o (ne_of_none eb nFH) (s1 _ _ eb)⟩
      have := sum_le (xs := headW word z :: ws.map lineW) (m := 1400) fun x hx => by
        rcases List.mem_cons.mp hx with rfl | hx
        · unfold headW
          rw [str_app_len, str_app_len]
          omega
        · obtain ⟨r, hr, rfl⟩ := List.mem_map.mp hx
          exact lineW_len (can.ok.ok r hr) (Nat.le_trans (can.ok.pfx.len _ (List.mem_map.mpr ⟨r, hr, rfl⟩)) z32)
      rw [List.length_cons, List.length_map] at *
      have e2 : Str.length (Str.ofString "\n") = 1 := by decide
      rw [e2]
      omega
end
theorem mapIs_fmt {K : PySem.W.Frag} {C W : Addr} {H : Hp} {word : Str} {x : Addr} {z : Nat} {ws : WRows} {Q : VK} {E : XK} (z32 : z ≤ 32) (can : Can z ws) (few : ws.length ≤ 60) (h : MapIs C W H word x z ws) (q : ∀ H', Same H H' → Q (.str (textW word z ws)) H') : spFmt K C W [.ref x] H Q E := by
  rcases h with ⟨rfl, e, ka, hm, ok, et⟩ | ⟨rfl, e, hw⟩
  · exact ⟨x, e, z, rfl, z32, .inl ⟨_, ka, hm, ok, by rw [List.length_map]; exact few, by rw [et]; exact q⟩⟩
  · exact ⟨x, e, z, rfl, z32, .inr ⟨ws, hw, can.ok, few, q⟩⟩

def oV (t : Str) : Option Nat → V
  | none => .str t
  | some k => .int (k : Nat)
structure FinT (txt : Str) : Prop where
  sm : Sm 1000000 txt
  few : (Txt.split txt (Str.ofString "\n")).length ≤ 60
  wd : ∀ b ∈ Txt.split txt (Str.ofString "\n"), (Txt.split b " ").length ≤ 41
theorem text_of {txt : Str} {t : Bool} {z : Nat} {ws : WRows} (e : Txt.split txt (Str.ofString "\n") = headW (wordB t) z :: ws.map lineW) : textW (wordB t) z ws = txt := by
  rw [← join_back txt (Str.ofString "\n"), e]
  rfl
def spOut (K : PySem.W.Frag) : Sp := fun vs H Q _ => ∃ v : V, vs = [v] ∧ TyS K H v ∧ ((isStrV v = false ∧ ∀ H', Same H H' → Q (.int 0) H') ∨ ∃ txt, v = .str txt ∧ FinT txt ∧ ∀ H', Same H H' → Q (oV txt (outB (Txt.split txt (Str.ofString "\n")))) H')
abbrev sOc : Stmt := top 48
section
variable {P : Program} {w : World} {K : PySem.W.Frag} {mg : Str → Option Value} {base : Heap}
abbrev NOc : List Str := ["thing", "caught", "found", "e"]
theorem scOc : FnScope NOc ["thing"] (defScope sOc) := ⟨rfl, rfl, rfl, by decide +kernel, rfl, by decide +kernel, by decide +kernel⟩
set_option maxHeartbeats 8000000 in
theorem ok_Oc {f fPm fFm CRE CPE : Addr} {fd fdPm fdFm : FuncData} {k : Nat} (F : Fun K "_law_outcome" "_law_outcome" sOc f fd) (xRE : PySem.W.exmOne K (.ref CPE) (.ref CRE) = some true) (EC : ExcC K CPE) (XC : XfC K CPE) (kP : PySem.W.kitOne K (.ref CPE) (.ref CPE) = some true) (noPE : PySem.W.findIn K (.ref CPE) "line" = some none)
    (ERE : ExF K CRE) (gRE : mg "RouteError" = some (.ref CRE))
    (GPm : FnOk P w K mg base (L2.CX P w) k fPm fdPm ["text"] ((spParseY K CC CW CPE)))
    (FPm : Fun K "parse_map" "parse_map" sPm fPm fdPm) (bPm : Binds K fdPm ["text"] []) (gPm : mg "parse_map" = some (.ref fPm))
    (GFm : FnOk P w K mg base CX0 k fFm fdFm ["some"] ((spFmt K CC CW)))
    (FFm : Fun K "format_map" "format_map" sFm fFm fdFm) (bFm : Binds K fdFm ["some"] []) (gFm : mg "format_map" = some (.ref fFm))
    (gPE : mg "ParseError" = some (.ref CPE))
    (m_isinstance : mg "isinstance" = none)
    : FnOk P w K mg base CX0 (k + 1) f fd ["thing"] ((spOut K)) := by
  refine F.ok scOc (fun vs H Q E h => ?_) (fun cdv A outer s H vs Q E hr h => ?_)
  · obtain ⟨v, rfl, _⟩ := h
    rfl
  · obtain ⟨v, rfl, hty, alt⟩ := h
    have nd := scOc.nd
    have hu := hr.units
    have hu1 := hu_of hr
    have hr1 := hr
    refine ⟨_, pss_cons (ps_set (i := 1) nd rfl (.inl rfl) pe_non)
      (pss_cons (ps_set (i := 2) nd rfl (.inl rfl) pe_non)
      (pss_cons (ps_keep (i := 3) rfl rfl rfl nd rfl rfl ⟨rfl, by decide, .inl gRE⟩ takes0 (fun W pn xe tk _ => (pss_one (ps_set (i := 2) nd rfl (.inl rfl) (pe_callS GPm hr1 (by rfl) gPm FPm.kp bPm (fun σ => passAt tk σ) (pa_cons (pv 0) pa_nil))))) (fun a oe cls d pn hz hf => (pss_one (ps_set (i := 1) nd rfl (.inl rfl) (pv 3)))))
      (pss_cons (ps_if (pt_cmpR op_isN (pv 1) pe_non (nomark _))
        (pss_one (ps_ret (pe_call GFm hr1 (by rfl) gFm FFm.kp bFm .nil pass0 (pa_cons (pv 2) pa_nil)))) pss_nil)
      (pss_one (ps_ret (pe_ifExp (pt_val (pe_callB call_isXd (by rfl) m_isinstance (by decide +kernel) (pa_cons (pv 1) (pa_cons (pe_glob (v := .ref CPE) rfl gPE rfl) pa_nil)))) (pe_xfK (pv 1)) pe_str)))))), ?_⟩
    refine ⟨v, rfl, v, rfl, hty, ?_⟩
    rcases alt with ⟨nv, q⟩ | ⟨txt, rfl, fin, q⟩
    · refine .inl ⟨nv, fun d H1 s1 hd => ?_⟩
      refine ⟨true, xRE, fun _ a na => ?_, fun q => nomatch q⟩
      have hA := upd_same (H := H1) (a := a) (o := ExK (.ref CPE) (some d) a)
      have sA := same_upd (o := ExK (.ref CPE) (some d) a) na
      have hd2 := sA _ _ hd
      refine ⟨.ref a, rfl, fun na' => ?_⟩
      refine ⟨.ref a, rfl, rfl, _, rfl, ?_⟩
      refine iteF ⟨.ref a, rfl, a, CPE, d, _, .ref CPE, .ref CPE, true, rfl, hA, hd2, EC, .own _, kP, true, rfl, iteT ?_⟩
      exact ⟨.ref a, rfl, a, CPE, d, _, _, rfl, hA, hd2, XC, noPE, rfl, q _ (s1.trans sA)⟩
    obtain ⟨h, bs, es⟩ : ∃ h bs, Txt.split txt (Str.ofString "\n") = h :: bs := by
      cases e : Txt.split txt (Str.ofString "\n") with
      | nil => have := (split_nl txt).1; rw [e] at this; cases this
      | cons h bs => exact ⟨h, bs, rfl⟩
    have few := fin.few
    have fwd := fin.wd
    rw [es] at few fwd q
    have fewb : bs.length ≤ 60 := Nat.le_of_succ_le few
    have fwd : ∀ b ∈ bs, (Txt.split b " ").length ≤ 41 := fun b hb => fwd b (List.mem_cons_of_mem _ hb)
    refine .inr ⟨txt, h, bs, rfl, es, fin.sm, fewb, fwd, ?_⟩
    rcases out_cases (h := h) fwd with ⟨nf, o⟩ | ⟨t, z, rfl, z1, z32, hh⟩
    · rw [o] at q
      refine .inl ⟨nf, fun d H1 s1 hd => ?_⟩
      refine ⟨true, xRE, fun _ a na => ?_, fun q => nomatch q⟩
      have hA := upd_same (H := H1) (a := a) (o := ExK (.ref CPE) (some d) a)
      have sA := same_upd (o := ExK (.ref CPE) (some d) a) na
      have hd2 := sA _ _ hd
      refine ⟨.ref a, rfl, fun na' => ?_⟩
      refine ⟨.ref a, rfl, rfl, _, rfl, ?_⟩
      refine iteF ⟨.ref a, rfl, a, CPE, d, _, .ref CPE, .ref CPE, true, rfl, hA, hd2, EC, .own _, kP, true, rfl, iteT ?_⟩
      exact ⟨.ref a, rfl, a, CPE, d, _, _, rfl, hA, hd2, XC, noPE, rfl, q _ (s1.trans sA)⟩
    rcases hh with ⟨ws, rfl, can, kd, o⟩ | ⟨ws, bd, more, rfl, can, kd, nf, o⟩
    rotate_left
    · rw [o] at q
      refine .inr ⟨t, z, ws, bd :: more, rfl, z1, z32, rfl, can, kd, .inr ⟨bd, more, rfl, nf, fun d H1 s1 hd => ?_⟩⟩
      refine ⟨true, xRE, fun _ a na => ?_, fun q => nomatch q⟩
      have hA := upd_same (H := H1) (a := a) (o := ExK (.ref CPE) (some d) a)
      have sA := same_upd (o := ExK (.ref CPE) (some d) a) na
      have hd2 := sA _ _ hd
      refine ⟨.ref a, rfl, fun na' => ?_⟩
      refine ⟨.ref a, rfl, rfl, _, rfl, ?_⟩
      refine iteF ⟨.ref a, rfl, a, CPE, d, _, .ref CPE, .ref CPE, true, rfl, hA, hd2, EC, .own _, kP, true, rfl, iteT ?_⟩
      exact ⟨.ref a, rfl, a, CPE, d, _, _, rfl, hA, hd2, XC, noPE, rfl, q _ (s1.trans sA)⟩
    rw [o] at q
    refine .inr ⟨t, z, ws, [], rfl, z1, z32, (List.append_nil _).symm, can, kd, .inl ⟨rfl, ?_⟩⟩
    have q2 : ∀ H', Same H H' → Q (.str (textW (wordB t) z ws)) H' := fun H' s => by
      rw [text_of es]
      exact q H' s
    have few' : ws.length ≤ 60 := by rw [List.length_map] at fewb; exact fewb
    cases t with
    | true =>
      refine .inl ⟨rfl, fun x e ka H1 s1 hm ok et => ?_⟩
      refine ⟨.non, rfl, rfl, _, rfl, iteT ⟨.ref x, rfl, ?_⟩⟩
      exact mapIs_fmt (K := K) (E := fun _ _ _ => False) z32 can few' (.inl ⟨rfl, e, ka, hm, ok, et⟩) fun H' s => q2 H' (s1.trans s)
    | false =>
      refine .inr ⟨rfl, fun x e H1 s1 hw => ?_⟩
      refine ⟨.non, rfl, rfl, _, rfl, iteT ⟨.ref x, rfl, ?_⟩⟩
      exact mapIs_fmt (K := K) (E := fun _ _ _ => False) z32 can few' (.inr ⟨rfl, e, hw⟩) fun H' s => q2 H' (s1.trans s)
end

def spIt : Sp := fun vs H Q _ => ∃ x : Str, vs = [.str x] ∧ x.length ≤ 1000000 ∧ ∀ H', Same H H' → Q (.bl (isT x)) H'
theorem sign_lt {a c : Nat} : decide ([c] < [a]) = decide (c < a) := by
  refine decide_eq_decide.mpr ?_
  rw [List.cons_lt_cons_iff]
  constructor
  · rintro (h | ⟨_, h⟩)
    · exact h
    · exact absurd h (List.not_lt_nil _)
  · exact .inl
theorem letter_in (c : Nat) : letters.cps.contains c = (decide (97 ≤ c) && decide (c ≤ 122)) := by
  have e : letters.cps.toList = List.range' 97 26 := by decide +kernel
  rw [Bool.eq_iff_iff, Array.contains_iff_mem, Array.mem_def, e, List.mem_range'_1, Bool.and_eq_true, decide_eq_true_iff, decide_eq_true_iff]
  omega
theorem sg_a : sg (("a" : String) : Str) = [97] := by decide +kernel
theorem sg_z : sg (("z" : String) : Str) = [122] := by decide +kernel
theorem isT_eq (x : Str) : isT x = (decide ((1 : Int) ≤ x.length) && (decide ((x.length : Int) ≤ 8) && (sg x).all fun c => decide (97 ≤ c) && decide (c ≤ 122))) := by
  show (decide ((1 : Int) ≤ x.length) && decide ((x.length : Int) ≤ 8) && onlyOf letters x) = _
  rw [Bool.and_assoc]
  unfold onlyOf
  rw [funext letter_in]
abbrev sIt : Stmt := top 44
section
variable {P : Program} {w : World} {K : PySem.W.Frag} {mg : Str → Option Value} {base : Heap}
abbrev NIt : List Str := ["word", "sign"]
theorem scIt : FnScope NIt ["word"] (defScope sIt) := ⟨rfl, rfl, rfl, by decide +kernel, rfl, by decide +kernel, by decide +kernel⟩
set_option maxHeartbeats 8000000 in
theorem ok_It {f : Addr} {fd : FuncData} {k : Nat} (F : Fun K "_law_is_target" "_law_is_target" sIt f fd)
    (m_all : mg "all" = none)
    (m_len : mg "len" = none)
    : FnOk P w K mg base CX0 (k + 1) f fd ["word"] spIt := by
  refine F.ok scIt (fun vs H Q E h => ?_) (fun cdv A outer s H vs Q E hr h => ?_)
  · obtain ⟨x, rfl, _⟩ := h
    rfl
  · obtain ⟨x, rfl, xl, q⟩ := h
    have nd := scIt.nd
    have hu := hr.units
    have hu1 := hu_of hr
    have hr1 := hr
    refine ⟨_, pss_one (ps_ret (pe_and (pe_chain op_le op_le pe_int (pe_callB call_len_str (by rfl) m_len (by decide +kernel) (pa_cons (pv 0) pa_nil)) pe_int) (pe_one (pe_callB (cr_all rfl) (by rfl) m_all (by decide +kernel) (pa_cons (pe_lc (own := [("sign", 1)]) (g := gName 1) (tt := tYes) rfl nd (pi_str (pv 0)) (blkOk_by (N := NIt) (sc := defScope sIt) (by decide +kernel)) (fun _ _ _ _ _ => pg_name (i := 1) nd rfl (.inl rfl)) (fun _ _ _ _ _ => pts_nil) (fun _ _ _ _ _ => (pe_chain op_le_str op_le_str pe_str (pv 1) pe_str))) pa_nil))))), ?_⟩
    have xs : x.length ≤ sizeLine := Nat.le_trans xl (by decide)
    rw [isT_eq] at q
    refine ⟨.str x, rfl, x, rfl, xs, _, _, rfl, rfl, _, rfl, ?_⟩
    by_cases h1 : (1 : Int) ≤ x.length
    rotate_left
    · rw [decide_eq_false h1] at q ⊢
      exact iteF ⟨_, rfl, iteF (q H (fun _ _ e => e))⟩
    rw [decide_eq_true h1] at q ⊢
    refine iteT ⟨_, _, rfl, rfl, _, rfl, ?_⟩
    by_cases h2 : (x.length : Int) ≤ 8
    rotate_left
    · rw [decide_eq_false h2] at q ⊢
      exact iteF (q H (fun _ _ e => e))
    rw [decide_eq_true h2] at q ⊢
    refine iteT ⟨.str x, rfl, x, rfl, fun D nD => ?_⟩
    refine lc_it (walk_str (z := x)) (fun b H3 => H3 D = some (.lst (((sg x).take b).map fun c => V.bl (decide (97 ≤ c) && decide (c ≤ 122)))) ∧ Same H H3) ⟨by rw [upd_same]; rfl, same_upd nD⟩ (fun _ _ _ _ => trivial) ?_ ?_
    · rintro b y H3 H4 hb ⟨fD, s3⟩ ⟨rfl, ch, hch, rfl⟩
      refine ⟨rfl, yes_if ?_⟩
      have fin : ∀ k : Bool, k = (decide (97 ≤ ch) && decide (ch ≤ 122)) → ∃ xs, H4 D = some (.lst xs) ∧ xs.length < sizeLine ∧ (upd H4 D (.lst (xs ++ [.bl k]))) D = some (.lst (((sg x).take (b + 1)).map fun c => V.bl (decide (97 ≤ c) && decide (c ≤ 122)))) ∧ Same H (upd H4 D (.lst (xs ++ [.bl k]))) := fun k ek => by
        refine ⟨_, fD, ?_, ?_, ?_⟩
        · rw [List.length_map, List.length_take, sg_len]
          exact big_lt (by omega)
        · have e : (sg x)[b]? = some ch := by
            rw [← hch]
            exact Array.getElem?_toList
          rw [upd_same, List.take_add_one, e, List.map_append, ek]
          rfl
        · intro a o ha
          have na : a ≠ D := ne_of_none ha nD
          rw [upd_ne na]
          exact s3 _ _ ha
      refine ⟨.str ⟨#[ch]⟩, rfl, _, _, rfl, rfl, _, rfl, ?_⟩
      show if (!decide ([ch] < sg (("a" : String) : Str))) = true then _ else _
      rw [sg_a, sign_lt]
      by_cases ha : 97 ≤ ch
      · rw [show (!decide (ch < 97)) = true by rw [decide_eq_false (by omega)]; rfl]
        refine iteT ⟨_, _, rfl, rfl, fin _ ?_⟩
        show (!decide (sg (("z" : String) : Str) < [ch])) = _
        rw [sg_z, sign_lt, decide_eq_true ha, Bool.true_and, Bool.eq_iff_iff, Bool.not_eq_true', decide_eq_false_iff_not, decide_eq_true_iff]
        omega
      · rw [show (!decide (ch < 97)) = false by rw [decide_eq_true (by omega)]; rfl]
        exact iteF (fin false (by rw [decide_eq_false ha]; rfl))
    · rintro H3 ⟨fD, s3⟩
      have e : (sg x).take x.cps.size = sg x := List.take_of_length_le (Nat.le_of_eq Array.length_toList)
      rw [e] at fD
      refine ⟨D, (sg x).map fun c => (decide (97 ≤ c) && decide (c ≤ 122)), rfl, SqL.of (by rw [fD, List.map_map]; rfl), ?_⟩
      have := q H3 s3
      rw [List.all_map]
      exact this
end

def nums32 : List V := (List.range 32).map fun k => V.str (numS (k + 1))
theorem in_strs {α : Type} (f : α → Str) (c : Str) : ∀ l : List α, inV (.str c) (l.map fun k => V.str (f k)) = l.any fun k => decide (c = f k)
  | [] => rfl
  | a :: l => by
    show ((f a == c) || inV (.str c) (l.map fun k => V.str (f k))) = (decide (c = f a) || l.any fun k => decide (c = f k))
    rw [in_strs f c l]
    congr 1
    rw [Bool.eq_iff_iff, beq_iff_eq, decide_eq_true_iff]
    exact eq_comm
theorem hfW_two {a c : Str} : (hfW [a, c]).isSome = (inV (.str a) [.str "table", .str "wish"] && inV (.str c) nums32) := by
  show (if a = "table" ∨ a = "wish" then ((List.range 32).find? fun k => decide (c = numS (k + 1))).map fun k => (decide (a = "table"), k + 1) else none).isSome = _
  by_cases h : a = "table" ∨ a = "wish"
  · unfold nums32
    rw [if_pos h, in_words.mpr h, Bool.true_and, Option.isSome_map, in_strs (fun k => numS (k + 1)) c, Bool.eq_iff_iff, List.find?_isSome, List.any_eq_true]
  · rw [if_neg h]
    have : inV (.str a) [.str "table", .str "wish"] = false := by
      rw [← Bool.not_eq_true]
      exact fun q => h (in_words.mp q)
    rw [this]
    rfl
theorem hfW_not {xs : List Str} (h : xs.length ≠ 2) : hfW xs = none := by
  match xs, h with
  | [], _ => rfl
  | [_], _ => rfl
  | [_, _], h => exact absurd rfl h
  | _ :: _ :: _ :: _, _ => rfl
def spHf : Sp := fun vs H Q _ => ∃ b : Str, vs = [.str b] ∧ b.length ≤ 1000000 ∧ ∀ H', Same H H' → Q (.bl (hfW (Txt.split b " ")).isSome) H'
abbrev sHf : Stmt := top 45
section
variable {P : Program} {w : World} {K : PySem.W.Frag} {mg : Str → Option Value} {base : Heap}
abbrev NHf : List Str := ["line", "words", "k"]
theorem scHf : FnScope NHf ["line"] (defScope sHf) := ⟨rfl, rfl, rfl, by decide +kernel, rfl, by decide +kernel, by decide +kernel⟩
set_option maxHeartbeats 8000000 in
theorem ok_Hf {f : Addr} {fd : FuncData} {k : Nat} (F : Fun K "_law_head_fits" "_law_head_fits" sHf f fd)
    (m_range : mg "range" = none)
    (m_str : mg "str" = none)
    (m_len : mg "len" = none)
    : FnOk P w K mg base CX0 (k + 1) f fd ["line"] spHf := by
  refine F.ok scHf (fun vs H Q E h => ?_) (fun cdv A outer s H vs Q E hr h => ?_)
  · obtain ⟨b, rfl, _⟩ := h
    rfl
  · obtain ⟨b, rfl, bl, q⟩ := h
    have nd := scHf.nd
    have hu := hr.units
    have hu1 := hu_of hr
    have hr1 := hr
    refine ⟨_, pss_cons (ps_set (i := 1) nd rfl (.inl rfl) (pe_split (pv 0) pe_str))
      (pss_one (ps_ret (pe_and (pe_cmpR op_eq (pe_callB call_len_seq (by rfl) m_len (by decide +kernel) (pa_cons (pv 1) pa_nil)) pe_int (nomark _)) (pe_and (pe_cmpR op_in_seq (pe_ix ix_list (pv 1) pe_int (fun _ _ => rfl)) (pe_tup (pa_cons pe_str (pa_cons pe_str pa_nil))) (by rfl)) (pe_one (pe_cmpR op_in_seq (pe_ix ix_list (pv 1) pe_int (fun _ _ => rfl)) (pe_lc (own := [("k", 2)]) (g := gName 2) (tt := tYes) rfl nd (pi_range2 (by rfl) m_range (pa_cons pe_int (pa_cons pe_int pa_nil))) (blkOk_by (N := NHf) (sc := defScope sHf) (by decide +kernel)) (fun _ _ _ _ _ => pg_name (i := 2) nd rfl (.inl rfl)) (fun _ _ _ _ _ => pts_nil) (fun _ _ _ _ _ => (pe_callTy call_str_int (by rfl) m_str (by decide +kernel) (pa_cons (pv 2) pa_nil)))) (by rfl))))))), ?_⟩
    refine ⟨.str b, rfl, ⟨_, rfl⟩, b, " ", rfl, rfl, by decide, Nat.le_trans (show b.length + 2 ≤ 1000002 by omega) (by decide), fun Wd nW => ?_⟩
    have s1 := same_upd (o := .lst ((Txt.split b " ").map V.str)) nW
    have hW := upd_same (H := H) (a := Wd) (o := .lst ((Txt.split b " ").map V.str))
    revert s1 hW q
    generalize upd H Wd (.lst ((Txt.split b " ").map V.str)) = H1
    generalize Txt.split b " " = xs
    intro q s1 hW
    refine ⟨.ref Wd, rfl, Wd, _, rfl, .inl (SqL.of hW), rfl, _, rfl, ?_⟩
    by_cases h2 : xs.length = 2
    rotate_left
    · rw [decide_eq_false (fun e : V.int (((xs.map V.str).length : Nat) : Int) = V.int 2 => h2 (by
        have e' := V.int.inj e
        rw [List.length_map] at e'
        omega))]
      rw [hfW_not h2] at q
      exact iteF (q H1 s1)
    obtain ⟨a, c, rfl⟩ : ∃ a c, xs = [a, c] := by
      match xs, h2 with
      | [a, c], _ => exact ⟨a, c, rfl⟩
    rw [hfW_two] at q
    rw [decide_eq_true (show V.int ((([a, c].map V.str).length : Nat) : Int) = V.int 2 from rfl)]
    refine iteT ⟨.ref Wd, rfl, Wd, _, 0, .str a, rfl, rfl, SqL.of hW, atI_nat (j := 0) rfl, by show 2 ≤ sizeLine; decide, fun T2 nT2 => ?_⟩
    have s2 := same_upd (o := .tup [.str "table", .str "wish"]) nT2
    have hW2 := s2 _ _ hW
    have s12 := s1.trans s2
    refine ⟨T2, _, rfl, .inr (SqT.of upd_same), rfl, by rfl, _, rfl, ?_⟩
    cases hin : inV (.str a) [.str "table", .str "wish"] with
    | false =>
      rw [hin] at q
      exact iteF (q _ s12)
    | true =>
    rw [hin, Bool.true_and] at q
    refine iteT ⟨.ref Wd, rfl, Wd, _, 1, .str c, rfl, rfl, SqL.of hW2, atI_nat (j := 1) rfl, ?_⟩
    refine ⟨1, 33, rfl, ⟨by decide, by decide, by decide, by decide⟩, fun G nG => ?_⟩
    refine lc_it (walk_range (lo := 1) (n := 32)) (fun i H' => H' G = some (.lst ((List.range i).map fun k => V.str (numS (k + 1)))) ∧ Same H H') ⟨upd_same, s12.trans (same_upd nG)⟩ (fun _ _ _ _ => trivial) ?_ ?_
    · rintro i v HA HB hi ⟨hG, sA⟩ ⟨rfl, rfl⟩
      have ei : (1 : Int) + (i : Nat) = ((i + 1 : Nat) : Int) := by omega
      show gName 2 (V.int ((1 : Int) + (i : Nat))) _ HB _
      rw [ei]
      refine ⟨rfl, yes_if ?_⟩
      refine ⟨.int ((i + 1 : Nat) : Int), rfl, _, rfl, Nat.lt_of_le_of_lt (Nat.log2_le_self (i + 1)) (by omega), _, hG, ?_, ?_, fun b o eb => ?_⟩
      · rw [List.length_map, List.length_range]
        exact big_lt (by omega)
      · rw [upd_same, List.range_succ, List.map_append]
        rfl
      · have fr := (s1.trans s2) _ _ eb
        rw [upd_ne (ne_of_none fr nG)]
        exact sA _ _ eb
    rintro H2 ⟨hG, s2⟩
    exact ⟨G, nums32, rfl, .inl (SqL.of hG), rfl, by decide +kernel, q H2 s2⟩
end

def spRf : Sp := fun vs H Q _ => ∃ (t : Bool) (z : Nat) (last : Option Str) (b : Str), vs = [.str (wordB t), .int z, optV last, .str b] ∧ b.length ≤ 1000000 ∧ (Txt.split b " ").length ≤ 41 ∧ ∀ H', Same H H' → Q (.bl (rfB t z last (Txt.split b " "))) H'
theorem bits_in (y : Str) : isBits y = (sg y).all fun c => decide (c ∈ (("01" : String) : Str).cps.toList) := by
  show ((sg y).all fun c => (("01" : Str)).cps.contains c) = _
  congr 1
  funext c
  rw [Bool.eq_iff_iff, Array.contains_iff_mem, decide_eq_true_iff, Array.mem_toList_iff]
theorem pw_eq (x : Str) (z : Nat) : Kt.pw x z = (!decide (x = "") && (!decide ((z : Int) < (bk0 x).length) && isBits (bk0 x))) := by
  unfold Kt.pw bk0
  by_cases h : x = "*"
  · subst h
    rw [if_pos rfl, decide_eq_true rfl, Bool.true_or, decide_eq_false (show ¬ (("*" : Str) = "") by decide), decide_eq_false (show ¬ ((z : Int) < (("" : Str)).length) by show ¬ ((z : Int) < 0); omega)]
    decide +kernel
  · rw [if_neg h, decide_eq_false h, Bool.false_or]
    show (!decide (x = "") && (decide ((x.length : Int) ≤ z) && isBits x)) = _
    congr 2
    rw [Bool.eq_iff_iff, decide_eq_true_iff, Bool.not_eq_true', decide_eq_false_iff_not]
    omega
abbrev sRf : Stmt := top 46
section
variable {P : Program} {w : World} {K : PySem.W.Frag} {mg : Str → Option Value} {base : Heap}
abbrev NRf : List Str := ["kind", "size", "last", "line", "words", "prefix", "bit", "word", "some", "k"]
theorem scRf : FnScope NRf ["kind", "size", "last", "line"] (defScope sRf) := ⟨rfl, rfl, rfl, by decide +kernel, rfl, by decide +kernel, by decide +kernel⟩
set_option maxHeartbeats 8000000 in
theorem ok_Rf {f fIt : Addr} {fd fdIt : FuncData} {k : Nat} (F : Fun K "_law_row_fits" "_law_row_fits" sRf f fd)
    (m_all : mg "all" = none)
    (m_len : mg "len" = none)
    (GIt : FnOk P w K mg base CX0 k fIt fdIt ["word"] spIt)
    (FIt : Fun K "_law_is_target" "_law_is_target" sIt fIt fdIt) (bIt : Binds K fdIt ["word"] []) (gIt : mg "_law_is_target" = some (.ref fIt))
    (m_range : mg "range" = none)
    : FnOk P w K mg base CX0 (k + 1) f fd ["kind", "size", "last", "line"] spRf := by
  refine F.ok scRf (fun vs H Q E h => ?_) (fun cdv A outer s H vs Q E hr h => ?_)
  · obtain ⟨t, z, last, b, rfl, _⟩ := h
    rfl
  · obtain ⟨t, z, last, b, rfl, bl, wfew, q⟩ := h
    have nd := scRf.nd
    have hu := hr.units
    have hu1 := hu_of hr
    have hr1 := hr
    refine ⟨_, pss_cons (ps_set (i := 4) nd rfl (.inl rfl) (pe_split (pv 3) pe_str))
      (C8.pss_cut (ps_set (i := 5) nd rfl (.inl rfl) (pe_ifExp (pt_cmpR op_eq (pe_ix ix_list (pv 4) pe_int (fun _ _ => rfl)) pe_str (nomark _)) pe_str (pe_ix ix_list (pv 4) pe_int (fun _ _ => rfl))))
      (C8.pss_cut (ps_if (PW.pt (pw_or (pt_cmpR op_eq (pe_ix ix_list (pv 4) pe_int (fun _ _ => rfl)) pe_str (nomark _)) (pw_or (pt_cmpR op_gt (pe_callB call_len_str (by rfl) m_len (by decide +kernel) (pa_cons (pv 5) pa_nil)) (pv 1) (nomark _)) (pw_or1 (pt_not (pt_val (pe_callB (cr_all rfl) (by rfl) m_all (by decide +kernel) (pa_cons (pe_lc (own := [("bit", 6)]) (g := gName 6) (tt := tYes) rfl nd (pi_str (pv 5)) (blkOk_by (N := NRf) (sc := defScope sRf) (by decide +kernel)) (fun _ _ _ _ _ => pg_name (i := 6) nd rfl (.inl rfl)) (fun _ _ _ _ _ => pts_nil) (fun _ _ _ _ _ => (pe_cmpR op_in_sign (pv 6) pe_str rfl))) pa_nil))))))))
        (pss_one (ps_ret pe_bl)) pss_nil)
      (C8.pss_cut (ps_if (PW.pt (pw_and (pt_cmpR op_notN (pv 2) pe_non (nomark _)) (pw_and1 (pt_cmpR op_le_str (pv 5) (pv 2) (nomark _)))))
        (pss_one (ps_ret pe_bl)) pss_nil)
      (pss_cons (ps_if (pt_cmpR op_eq (pv 0) pe_str (nomark _))
        (pss_one (ps_ret (pe_and (pe_cmpR op_eq (pe_callB call_len_seq (by rfl) m_len (by decide +kernel) (pa_cons (pv 4) pa_nil)) pe_int (nomark _)) (pe_one (pe_call GIt hr1 (by rfl) gIt FIt.kp bIt .nil pass0 (pa_cons (pe_ix ix_list (pv 4) pe_int (fun _ _ => rfl)) pa_nil)))))) pss_nil)
      (pss_cons (ps_if (pt_not (pt_val (pe_callB (cr_all rfl) (by rfl) m_all (by decide +kernel) (pa_cons (pe_lc (own := [("word", 7)]) (g := gName 7) (tt := tYes) rfl nd (pi_list (pe_slice sl_list (pv 4) (po_some pe_int) po_none)) (blkOk_by (N := NRf) (sc := defScope sRf) (by decide +kernel)) (fun _ _ _ _ _ => pg_name (i := 7) nd rfl (.inl rfl)) (fun _ _ _ _ _ => pts_nil) (fun _ _ _ _ _ => (pe_or (pe_cmpR op_eq (pv 7) pe_str (nomark _)) (pe_one (pe_call GIt hr1 (by rfl) gIt FIt.kp bIt .nil pass0 (pa_cons (pv 7) pa_nil)))))) pa_nil))))
        (pss_one (ps_ret pe_bl)) pss_nil)
      (pss_cons (ps_set (i := 8) nd rfl (.inr rfl) (pe_lc (own := [("word", 7)]) (g := gName 7) (tt := tYes) rfl nd (pi_list (pe_slice sl_list (pv 4) (po_some pe_int) po_none)) (blkOk_by (N := NRf) (sc := defScope sRf) (by decide +kernel)) (fun _ _ _ _ _ => pg_name (i := 7) nd rfl (.inl rfl)) (fun _ _ _ _ _ => pts_nil) (fun _ _ _ _ _ => (pe_ifExp (pt_cmpR op_eq (pv 7) pe_str (nomark _)) pe_str (pv 7)))))
      (pss_one (ps_ret (pe_callB (cr_all rfl) (by rfl) m_all (by decide +kernel) (pa_cons (pe_lc (own := [("k", 9)]) (g := gName 9) (tt := tYes) rfl nd (pi_range1 (by rfl) m_range (pa_cons (pe_op op_sub (pe_callB call_len_seq (by rfl) m_len (by decide +kernel) (pa_cons (pv 8) pa_nil)) pe_int) pa_nil)) (blkOk_by (N := NRf) (sc := defScope sRf) (by decide +kernel)) (fun _ _ _ _ _ => pg_name (i := 9) nd rfl (.inl rfl)) (fun _ _ _ _ _ => pts_nil) (fun _ _ _ _ _ => (pe_cmpR op_lt_str (pe_ix (r := rIxL K) ix_list (pv 8) (pv 9) (fun _ _ => rfl)) (pe_ix (r := rIxL K) ix_list (pv 8) (pe_op op_add (pv 9) pe_int) (fun _ _ => rfl)) (nomark _)))) pa_nil)))))))))), ?_⟩
    have sml : ∀ p ∈ Txt.split b " ", p.length ≤ 1000000 := fun p hp => Nat.le_trans (part_of hp).1 bl
    refine ⟨.str b, rfl, ⟨_, rfl⟩, b, " ", rfl, rfl, by decide, Nat.le_trans (show b.length + 2 ≤ 1000002 by omega) (by decide), fun Wd nW => ?_⟩
    obtain ⟨x, ns, ebs⟩ : ∃ x ns, Txt.split b " " = x :: ns := by
      cases e : Txt.split b " " with
      | nil => have := (split_sp b).1; rw [e] at this; cases this
      | cons x ns => exact ⟨x, ns, rfl⟩
    rw [ebs] at q sml wfew ⊢
    have few : ns.length ≤ 40 := Nat.le_of_succ_le_succ wfew
    have s1 := same_upd (o := .lst ((x :: ns).map V.str)) nW
    have hW := upd_same (H := H) (a := Wd) (o := .lst ((x :: ns).map V.str))
    revert s1 hW q
    generalize upd H Wd (.lst ((x :: ns).map V.str)) = H1
    intro q s1 hW
    have q : ∀ H', Same H H' → Q (.bl (Kt.pw x z && (lastB last (bk0 x) && (if t then decide (ns.length = 1) && isT (ns.getD 0 "") else ns.all fineW && adjB (ns.map eW))))) H' := q
    have xl := sml x List.mem_cons_self
    have bk0l : (bk0 x).length ≤ 1000000 := by
      unfold bk0
      split
      · exact Nat.zero_le _
      · exact xl
    refine ⟨fun σ H' => σ = [some (.str (wordB t)), some (.int z), some (optV last), some (.str b), some (.ref Wd), some (.str (bk0 x)), none, none, none, none] ∧ H' = H1, ?_, ?_⟩
    · refine ⟨.ref Wd, rfl, Wd, _, 0, .str x, rfl, rfl, SqL.of hW, atI_nat (j := 0) rfl, rfl, _, rfl, ?_⟩
      by_cases h : x = "*"
      · rw [decide_eq_true (show V.str x = V.str "*" by rw [h])]
        refine iteT ?_
        unfold bk0
        rw [if_pos h]
        exact ⟨rfl, rfl⟩
      · rw [decide_eq_false (fun e : V.str x = V.str "*" => h (V.str.inj e))]
        unfold bk0
        rw [if_neg h]
        exact iteF ⟨.ref Wd, rfl, Wd, _, 0, .str x, rfl, rfl, SqL.of hW, atI_nat (j := 0) rfl, rfl, rfl⟩
    rintro σ H1' ⟨rfl, rfl⟩
    have nope : Kt.pw x z = false → ∀ H', Same H H' → Q (.bl false) H' := fun e H' s => by
      have := q H' s
      rw [e, Bool.false_and] at this
      exact this
    have peq := pw_eq x z
    refine ⟨fun σ H' => σ = [some (.str (wordB t)), some (.int z), some (optV last), some (.str b), some (.ref Wd), some (.str (bk0 x)), none, none, none, none] ∧ Same H H' ∧ H' Wd = some (.lst ((x :: ns).map V.str)) ∧ Kt.pw x z = true, ?_, ?_⟩
    · refine ⟨.ref Wd, rfl, Wd, _, 0, .str x, rfl, rfl, SqL.of hW, atI_nat (j := 0) rfl, rfl, _, rfl, ?_⟩
      by_cases h0 : x = ""
      · rw [decide_eq_true (show V.str x = V.str "" by rw [h0])]
        exact iteT (nope (by rw [peq, decide_eq_true h0]; rfl) _ s1)
      rw [decide_eq_false (fun e : V.str x = V.str "" => h0 (V.str.inj e))]
      rw [decide_eq_false h0] at peq
      refine iteF ⟨.str (bk0 x), rfl, bk0 x, rfl, Nat.le_trans bk0l (by decide), .int z, rfl, _, _, rfl, rfl, _, rfl, ?_⟩
      by_cases hl : (z : Int) < (bk0 x).length
      · rw [decide_eq_true hl]
        exact iteT (nope (by rw [peq, decide_eq_true hl]; rfl) _ s1)
      rw [decide_eq_false hl]
      rw [decide_eq_false hl] at peq
      have peq : Kt.pw x z = isBits (bk0 x) := peq
      rw [bits_in] at peq
      refine iteF ⟨.str (bk0 x), rfl, bk0 x, rfl, fun D nD => ?_⟩
      refine lc_it (walk_str (z := bk0 x)) (fun j H3 => H3 D = some (.lst (((sg (bk0 x)).take j).map fun c => V.bl (decide (c ∈ (("01" : String) : Str).cps.toList)))) ∧ Same H1' H3) ⟨by rw [upd_same]; rfl, same_upd nD⟩ (fun _ _ _ _ => trivial) ?_ ?_
      · rintro j y H3 H4 hb ⟨fD, s3⟩ ⟨rfl, ch, hch, rfl⟩
        refine ⟨rfl, yes_if ⟨.str ⟨#[ch]⟩, rfl, ch, "01", rfl, rfl, _, fD, ?_, ?_, ?_⟩⟩
        · rw [List.length_map, List.length_take, sg_len]
          exact Nat.lt_of_le_of_lt (show _ ≤ 1000000 by omega) (by decide)
        · have e : (sg (bk0 x))[j]? = some ch := by
            rw [← hch]
            exact Array.getElem?_toList
          rw [upd_same, List.take_add_one, e, List.map_append]
          rfl
        · intro a o ha
          have na : a ≠ D := ne_of_none ha nD
          rw [upd_ne na]
          exact s3 _ _ ha
      · rintro H3 ⟨fD, s3⟩
        have e : (sg (bk0 x)).take (bk0 x).cps.size = sg (bk0 x) := List.take_of_length_le (Nat.le_of_eq Array.length_toList)
        rw [e] at fD
        refine ⟨D, (sg (bk0 x)).map fun c => decide (c ∈ (("01" : String) : Str).cps.toList), rfl, SqL.of (by rw [fD, List.map_map]; rfl), _, rfl, ?_⟩
        have e2 : ((sg (bk0 x)).map fun c => decide (c ∈ (("01" : String) : Str).cps.toList)).all id = Kt.pw x z := by
          rw [peq, List.all_map]
          rfl
        rw [e2]
        cases hp : Kt.pw x z with
        | false => exact iteT (nope hp _ (s1.trans s3))
        | true => exact iteF ⟨rfl, s1.trans s3, s3 _ _ hW, rfl⟩
    rintro σ H2 ⟨rfl, s2, hW2, hp⟩
    clear nope peq
    rw [hp] at q
    have q : ∀ H', Same H H' → Q (.bl (lastB last (bk0 x) && (if t then decide (ns.length = 1) && isT (ns.getD 0 "") else ns.all fineW && adjB (ns.map eW)))) H' := q
    refine ⟨fun σ H' => σ = [some (.str (wordB t)), some (.int z), some (optV last), some (.str b), some (.ref Wd), some (.str (bk0 x)), none, none, none, none] ∧ H' = H2 ∧ lastB last (bk0 x) = true, ?_, ?_⟩
    · cases last with
      | none => exact ⟨.non, rfl, rfl, _, rfl, iteF ⟨rfl, rfl, rfl⟩⟩
      | some p0 =>
        refine ⟨.str p0, rfl, rfl, _, rfl, iteT ⟨.str (bk0 x), rfl, .str p0, rfl, bk0 x, p0, rfl, rfl, _, rfl, ?_⟩⟩
        cases hl : lastB (some p0) (bk0 x) with
        | false =>
          rw [hl] at q
          rw [show decide (p0.cps.toList < (bk0 x).cps.toList) = false from hl]
          exact iteT (q _ s2)
        | true =>
          rw [show decide (p0.cps.toList < (bk0 x).cps.toList) = true from hl]
          exact iteF ⟨rfl, rfl, rfl⟩
    rintro σ H2' ⟨rfl, rfl, hl⟩
    rw [hl] at q
    have q : ∀ H', Same H H' → Q (.bl (if t then decide (ns.length = 1) && isT (ns.getD 0 "") else ns.all fineW && adjB (ns.map eW))) H' := q
    refine ⟨.str (wordB t), rfl, rfl, _, rfl, ?_⟩
    cases t with
    | true =>
      rw [decide_eq_true (show V.str (wordB true) = V.str "table" from rfl)]
      refine iteT ⟨.ref Wd, rfl, Wd, _, rfl, .inl (SqL.of hW2), rfl, _, rfl, ?_⟩
      have q : ∀ H', Same H H' → Q (.bl (decide (ns.length = 1) && isT (ns.getD 0 ""))) H' := q
      by_cases h1 : ns.length = 1
      · obtain ⟨u, eu⟩ := List.length_eq_one_iff.mp h1
        subst eu
        rw [decide_eq_true h1] at q
        rw [decide_eq_true (show V.int ((((x :: [u]).map V.str).length : Nat) : Int) = V.int 2 from rfl)]
        exact iteT ⟨.ref Wd, rfl, Wd, _, 1, .str u, rfl, rfl, SqL.of hW2, atI_nat (j := 1) rfl, u, rfl, sml u (List.mem_cons_of_mem _ List.mem_cons_self), fun H' s => q H' (s2.trans s)⟩
      · rw [decide_eq_false h1] at q
        rw [decide_eq_false (fun e : V.int ((((x :: ns).map V.str).length : Nat) : Int) = V.int 2 => h1 (by
          have e' := V.int.inj e
          rw [List.length_map, List.length_cons] at e'
          omega))]
        exact iteF (q _ s2)
    | false =>
    rw [decide_eq_false (fun e : V.str (wordB false) = V.str "table" => absurd (V.str.inj e) (by decide))]
    have q : ∀ H', Same H H' → Q (.bl (ns.all fineW && adjB (ns.map eW))) H' := q
    refine iteF ⟨.ref Wd, rfl, 1, rfl, Wd, _, rfl, SqL.of hW2, fun Nm nN => ?_⟩
    rw [cut_one]
    have s3 := same_upd (o := .lst (((x :: ns).map V.str).drop 1)) nN
    have hN : (upd H2' Nm (.lst (((x :: ns).map V.str).drop 1))) Nm = some (.lst (ns.map V.str)) := upd_same
    have hW3 := s3 _ _ hW2
    have s23 := s2.trans s3
    clear s3
    revert s23 hN hW3
    generalize upd H2' Nm (.lst (((x :: ns).map V.str).drop 1)) = H3
    intro hN hW3 s23
    refine ⟨Nm, rfl, ⟨_, SqL.of hN⟩, fun D nD => ?_⟩
    refine lc_it (walk_list (K := K) (a := Nm) (xs := ns.map V.str)) (fun i H' => H' D = some (.lst ((ns.take i).map fun u => V.bl (fineW u))) ∧ Same H3 H') ⟨upd_same, same_upd nD⟩ (fun _ _ _ h => SqL.of (h.2 _ _ hN)) ?_ ?_
    · rintro i v HA HB hi ⟨hD, sA⟩ ⟨rfl, hv⟩
      rw [List.getElem?_map] at hv
      obtain ⟨u, hu, rfl⟩ := Option.map_eq_some_iff.mp hv
      have et : ns.take (i + 1) = ns.take i ++ [u] := by rw [List.take_add_one, hu]; rfl
      have big : ((ns.take i).map fun u => V.bl (fineW u)).length < sizeLine := by
        rw [List.length_map, List.length_take]
        exact big_lt (by omega)
      refine ⟨rfl, yes_if ⟨.str u, rfl, rfl, _, rfl, ?_⟩⟩
      have fin : ∀ (Hx : Hp) (kk : Bool), Same HB Hx → kk = fineW u → ∃ acc, Hx D = some (.lst acc) ∧ acc.length < sizeLine ∧ (upd Hx D (.lst (acc ++ [.bl kk]))) D = some (.lst ((ns.take (i + 1)).map fun u => V.bl (fineW u))) ∧ Same H3 (upd Hx D (.lst (acc ++ [.bl kk]))) := fun Hx kk sx ek => by
        refine ⟨_, sx _ _ hD, big, ?_, fun b' o eb => ?_⟩
        · rw [upd_same, et, List.map_append, ek]
          rfl
        · rw [upd_ne (ne_of_none eb nD)]
          exact sx _ _ (sA _ _ eb)
      by_cases hd : u = "-"
      · rw [decide_eq_true (show V.str u = V.str "-" by rw [hd])]
        exact iteT (fin HB true (fun _ _ e => e) (by unfold fineW; rw [decide_eq_true hd]; rfl))
      · rw [decide_eq_false (fun e : V.str u = V.str "-" => hd (V.str.inj e))]
        exact iteF ⟨.str u, rfl, u, rfl, sml u (List.mem_cons_of_mem _ (List.mem_of_getElem? hu)), fun Hx sx => fin Hx _ sx (by unfold fineW; rw [decide_eq_false hd, Bool.false_or])⟩
    rintro H4 ⟨hD, sA⟩
    rw [List.length_map, List.take_length] at hD
    have hW4 := sA _ _ hW3
    have s24 := s23.trans sA
    refine ⟨D, ns.map fineW, rfl, SqL.of (by rw [hD, List.map_map]; rfl), _, rfl, ?_⟩
    rw [show (ns.map fineW).all id = ns.all fineW by rw [List.all_map]; rfl]
    cases hf : ns.all fineW with
    | false =>
      rw [hf] at q
      exact iteT (q _ s24)
    | true =>
    rw [hf] at q
    have q : ∀ H', Same H H' → Q (.bl (adjB (ns.map eW))) H' := q
    clear hD hN nN nD sA s23 hW3 hW2 s2 hW s1
    refine iteF ⟨.ref Wd, rfl, 1, rfl, Wd, _, rfl, SqL.of hW4, fun Nm nN => ?_⟩
    rw [cut_one]
    have s5 := same_upd (o := .lst (((x :: ns).map V.str).drop 1)) nN
    have hN : (upd H4 Nm (.lst (((x :: ns).map V.str).drop 1))) Nm = some (.lst (ns.map V.str)) := upd_same
    have s25 := s24.trans s5
    clear s5
    revert s25 hN
    generalize upd H4 Nm (.lst (((x :: ns).map V.str).drop 1)) = H5
    intro hN s25
    refine ⟨Nm, rfl, ⟨_, SqL.of hN⟩, fun M nM => ?_⟩
    refine lc_it (walk_list (K := K) (a := Nm) (xs := ns.map V.str)) (fun i H' => H' M = some (.lst (((ns.take i).map eW).map V.str)) ∧ Same H5 H') ⟨upd_same, same_upd nM⟩ (fun _ _ _ h => SqL.of (h.2 _ _ hN)) ?_ ?_
    · rintro i v HA HB hi ⟨hD, sA⟩ ⟨rfl, hv⟩
      rw [List.getElem?_map] at hv
      obtain ⟨u, hu, rfl⟩ := Option.map_eq_some_iff.mp hv
      have et : ns.take (i + 1) = ns.take i ++ [u] := by rw [List.take_add_one, hu]; rfl
      have fin : ∀ (x' : Str), x' = eW u → ∃ acc, HB M = some (.lst acc) ∧ acc.length < sizeLine ∧ (upd HB M (.lst (acc ++ [.str x']))) M = some (.lst (((ns.take (i + 1)).map eW).map V.str)) ∧ Same H5 (upd HB M (.lst (acc ++ [.str x']))) := fun x' ek => by
        refine ⟨_, hD, ?_, ?_, fun b' o eb => ?_⟩
        · rw [List.length_map, List.length_map, List.length_take]
          exact big_lt (by omega)
        · rw [upd_same, et, List.map_append, List.map_append, ek]
          rfl
        · rw [upd_ne (ne_of_none eb nM)]
          exact sA _ _ eb
      refine ⟨rfl, yes_if ⟨.str u, rfl, rfl, _, rfl, ?_⟩⟩
      by_cases hd : u = "-"
      · rw [decide_eq_true (show V.str u = V.str "-" by rw [hd])]
        exact iteT (fin "" (by unfold eW; rw [if_pos hd]))
      · rw [decide_eq_false (fun e : V.str u = V.str "-" => hd (V.str.inj e))]
        exact iteF ⟨.str u, rfl, fin u (by unfold eW; rw [if_neg hd])⟩
    rintro H6 ⟨hM, sA⟩
    rw [List.length_map, List.take_length] at hM
    have s26 := s25.trans sA
    clear hN nN nM sA s25 s24 hW4
    obtain ⟨ys, ey⟩ : ∃ ys, ys = ns.map eW := ⟨_, rfl⟩
    rw [← ey] at hM q
    have yl : ys.length ≤ 40 := by rw [ey, List.length_map]; exact few
    have gat : ∀ k, k < ys.length → (ys.map V.str)[k]? = some (V.str (ys.getD k "")) := fun k hk => by
      rw [List.getElem?_map, List.getD_eq_getElem?_getD, List.getElem?_eq_getElem hk]
      rfl
    have en : (((ys.map V.str).length : Nat) : Int) - 1 = ((ys.length : Nat) : Int) - 1 := by rw [List.length_map]
    refine ⟨.ref M, rfl, M, _, rfl, .inl (SqL.of hM), _, 1, rfl, rfl, _, rfl, ?_, ?_, fun D nD => ?_⟩
    · rw [en]; omega
    · rw [en]; omega
    rw [en]
    refine lc_it (walk_range (n := (((ys.length : Nat) : Int) - 1).toNat)) (fun i H' => H' D = some (.lst ((List.range i).map fun k => V.bl (decide (sg (ys.getD k "") < sg (ys.getD (k + 1) ""))))) ∧ Same H6 H') ⟨upd_same, same_upd nD⟩ (fun _ _ _ _ => trivial) ?_ ?_
    · rintro i v HA HB hi ⟨hD, sA⟩ ⟨rfl, rfl⟩
      have hMB := sA _ _ hM
      have hi' : i + 1 < ys.length := by omega
      refine ⟨rfl, yes_if ?_⟩
      refine ⟨.ref M, rfl, .int (0 + (i : Nat)), rfl, M, _, _, _, rfl, rfl, SqL.of hMB, at_of (Int.zero_add _) (gat i (by omega)), ?_⟩
      refine ⟨.ref M, rfl, .int (0 + (i : Nat)), rfl, _, 1, rfl, rfl, M, _, _, _, rfl, rfl, SqL.of hMB, at_of (j := i + 1) (by omega) (gat (i + 1) hi'), ?_⟩
      refine ⟨_, _, rfl, rfl, _, hD, ?_, ?_, fun b' o eb => ?_⟩
      · rw [List.length_map, List.length_range]
        exact big_lt (by omega)
      · rw [upd_same, List.range_succ, List.map_append]
        rfl
      · rw [upd_ne (ne_of_none eb nD)]
        exact sA _ _ eb
    rintro H7 ⟨hD, sA⟩
    have eq2 : adjB ys = ((List.range (((ys.length : Nat) : Int) - 1).toNat).map fun k => decide (sg (ys.getD k "") < sg (ys.getD (k + 1) ""))).all id := by
      unfold adjB
      rw [List.all_map, show (((ys.length : Nat) : Int) - 1).toNat = ys.length - 1 by omega]
      rfl
    refine ⟨D, _, rfl, SqL.of (by rw [hD]; exact congrArg (fun l => some (HO.lst l)) (List.map_map (l := List.range _) (g := V.bl) (f := fun k => decide (sg (ys.getD k "") < sg (ys.getD (k + 1) "")))).symm), ?_⟩
    rw [← eq2]
    exact q H7 (s26.trans sA)
end

def kN : Option Nat → V
  | none => .non
  | some k => .int (k : Nat)
def spFo (K : PySem.W.Frag) : Sp := fun vs H Q _ => ∃ (D : Addr) (ls : List Str), vs = [.ref D] ∧ SqL K H D (ls.map V.str) ∧ ls ≠ [] ∧ ls.length ≤ 60 ∧ (∀ b ∈ ls, b.length ≤ 1000000 ∧ (Txt.split b " ").length ≤ 41) ∧ ∀ H', Same H H' → Q (kN (outB ls)) H'
abbrev sFo : Stmt := top 47
section
variable {P : Program} {w : World} {K : PySem.W.Frag} {mg : Str → Option Value} {base : Heap}
abbrev NFo : List Str := ["lines", "kind", "last", "size", "k", "word"]
theorem scFo : FnScope NFo ["lines"] (defScope sFo) := ⟨rfl, rfl, rfl, by decide +kernel, rfl, by decide +kernel, by decide +kernel⟩
set_option maxHeartbeats 8000000 in
theorem ok_Fo {f fHf fRf : Addr} {fd fdHf fdRf : FuncData} {k : Nat} (F : Fun K "_law_first_odd" "_law_first_odd" sFo f fd)
    (GHf : FnOk P w K mg base CX0 k fHf fdHf ["line"] spHf)
    (FHf : Fun K "_law_head_fits" "_law_head_fits" sHf fHf fdHf) (bHf : Binds K fdHf ["line"] []) (gHf : mg "_law_head_fits" = some (.ref fHf))
    (m_int : mg "int" = none)
    (m_range : mg "range" = none)
    (m_len : mg "len" = none)
    (GRf : FnOk P w K mg base CX0 k fRf fdRf ["kind", "size", "last", "line"] spRf)
    (FRf : Fun K "_law_row_fits" "_law_row_fits" sRf fRf fdRf) (bRf : Binds K fdRf ["kind", "size", "last", "line"] []) (gRf : mg "_law_row_fits" = some (.ref fRf))
    : FnOk P w K mg base CX0 (k + 1) f fd ["lines"] ((spFo K)) := by
  refine F.ok scFo (fun vs H Q E h => ?_) (fun cdv A outer s H vs Q E hr h => ?_)
  · obtain ⟨D, ls, rfl, _⟩ := h
    rfl
  · obtain ⟨D, ls, rfl, hD, lne, few, lok, q⟩ := h
    have nd := scFo.nd
    have hu := hr.units
    have hu1 := hu_of hr
    have hr1 := hr
    refine ⟨_, pss_cons (ps_if (pt_not (pt_val (pe_call GHf hr1 (by rfl) gHf FHf.kp bHf .nil pass0 (pa_cons (pe_ix ix_list (pv 0) pe_int (fun _ _ => rfl)) pa_nil))))
        (pss_one (ps_ret pe_int)) pss_nil)
      (pss_cons (ps_par (i := 1) (j := 2) (by rfl) nd rfl rfl (by decide) rfl rfl (pa_cons (pe_ix ix_list (pe_split (pe_ix ix_list (pv 0) pe_int (fun _ _ => rfl)) pe_str) pe_int (fun _ _ => rfl)) (pa_cons pe_non pa_nil)) (by rfl))
      (pss_cons (ps_set (i := 3) nd rfl (.inl rfl) (pe_callTy call_int_str (by rfl) m_int (by decide +kernel) (pa_cons (pe_ix ix_list (pe_split (pe_ix ix_list (pv 0) pe_int (fun _ _ => rfl)) pe_str) pe_int (fun _ _ => rfl)) pa_nil)))
      (pss_cons (ps_for PassesOwn.never rfl (pi_range2 (by rfl) m_range (pa_cons pe_int (pa_cons (pe_callB call_len_seq (by rfl) m_len (by decide +kernel) (pa_cons (pv 0) pa_nil)) pa_nil))) (pg_name (i := 4) nd rfl (.inl rfl))
        (pss_cons (ps_if (pt_not (pt_val (pe_call GRf hr1 (by rfl) gRf FRf.kp bRf .nil pass0 (pa_cons (pv 1) (pa_cons (pv 3) (pa_cons (pv 2) (pa_cons (pe_ix ix_list (pv 0) (pv 4) (fun _ _ => rfl)) pa_nil)))))))
          (pss_one (ps_ret (pv 4))) pss_nil)
        (pss_cons (ps_set (i := 5) nd rfl (.inl rfl) (pe_ix ix_list (pe_split (pe_ix ix_list (pv 0) (pv 4) (fun _ _ => rfl)) pe_str) pe_int (fun _ _ => rfl)))
        (pss_one (ps_set (i := 2) nd rfl (.inl rfl) (pe_ifExp (pt_cmpR op_eq (pv 5) pe_str (nomark _)) pe_str (pv 5)))))))
      (pss_one (ps_ret pe_non))))), ?_⟩
    obtain ⟨h, bs, rfl⟩ : ∃ h bs, ls = h :: bs := by
      cases ls with
      | nil => exact absurd rfl lne
      | cons h bs => exact ⟨h, bs, rfl⟩
    have hl := (lok h List.mem_cons_self).1
    refine ⟨.ref D, rfl, D, _, 0, .str h, rfl, rfl, hD, atI_nat (j := 0) rfl, h, rfl, hl, fun H1 s1 => ⟨_, rfl, ?_⟩⟩
    have eq : outB (h :: bs) = match hfW (Txt.split h " ") with
        | none => some 0
        | some q => rowsB q.1 q.2 none 1 bs := rfl
    rw [eq] at q
    cases e : hfW (Txt.split h " ") with
    | none =>
      rw [e] at q
      exact iteT (q _ s1)
    | some tz =>
    obtain ⟨t, z⟩ := tz
    rw [e] at q
    have q : ∀ H', Same H H' → Q (kN (rowsB t z none 1 bs)) H' := q
    obtain ⟨e1, z1, z32⟩ := hfW_some e
    have esp : Txt.split h " " = [wordB t, numS z] := by rw [e1, head_split]
    have few : bs.length ≤ 59 := Nat.le_of_succ_le_succ few
    refine iteF ?_
    have hD1 := s1.seq hD
    have num : PySem.intText? (numS z) = some (z : Int) := by
      have : ∀ k : Fin 33, PySem.intText? (numS k.val) = some ((k.val : Nat) : Int) := by decide +kernel
      exact this ⟨z, by omega⟩
    have nl := numS_len z32
    refine ⟨.ref D, rfl, D, _, 0, .str h, rfl, rfl, hD1, atI_nat (j := 0) rfl, ⟨_, rfl⟩, h, " ", rfl, rfl, by decide, Nat.le_trans (show h.length + 2 ≤ 1000002 by omega) (by decide), fun W1 nW1 => ?_⟩
    rw [esp]
    have s2 := s1.trans (same_upd (o := .lst (([wordB t, numS z]).map V.str)) nW1)
    have hW1 := upd_same (H := H1) (a := W1) (o := .lst (([wordB t, numS z]).map V.str))
    revert s2 hW1
    generalize upd H1 W1 (.lst (([wordB t, numS z]).map V.str)) = H2
    intro s2 hW1
    refine ⟨W1, _, 0, .str (wordB t), rfl, rfl, SqL.of hW1, atI_nat (j := 0) rfl, ?_⟩
    have hD2 := s2.seq hD
    refine ⟨_, _, rfl, .ref D, rfl, D, _, 0, .str h, rfl, rfl, hD2, atI_nat (j := 0) rfl, ⟨_, rfl⟩, h, " ", rfl, rfl, by decide, Nat.le_trans (show h.length + 2 ≤ 1000002 by omega) (by decide), fun W2 nW2 => ?_⟩
    rw [esp]
    have s3 := s2.trans (same_upd (o := .lst (([wordB t, numS z]).map V.str)) nW2)
    have hW2 := upd_same (H := H2) (a := W2) (o := .lst (([wordB t, numS z]).map V.str))
    revert s3 hW2
    generalize upd H2 W2 (.lst (([wordB t, numS z]).map V.str)) = H3
    intro s3 hW2
    refine ⟨W2, _, 1, .str (numS z), rfl, rfl, SqL.of hW2, atI_nat (j := 1) rfl, _, _, rfl, num, by omega, ?_⟩
    clear s1 s2 hW1 hW2 hD1 hD2 nW1 nW2
    have hD3 := s3.seq hD
    refine ⟨.ref D, rfl, D, _, rfl, .inl hD3, 1, _, rfl, ⟨by decide, by decide, ?_, ?_⟩, ?_⟩
    · rw [List.length_map, List.length_cons]; omega
    · rw [List.length_map, List.length_cons]; omega
    have en : ((((h :: bs).map V.str).length : Nat) : Int) - 1 = ((bs.length : Nat) : Int) := by rw [List.length_map, List.length_cons]; omega
    rw [en]
    refine for_it (walk_range (lo := 1) (n := (((bs.length : Nat) : Int)).toNat)) (fun i σ H' => ∃ last x4 x5, σ = [some (.ref D), some (.str (wordB t)), some (optV last), some (.int z), x4, x5] ∧ Same H H' ∧ rowsB t z none 1 bs = rowsB t z last (1 + i) (bs.drop i)) ⟨none, _, _, rfl, s3, by rw [List.drop_zero]⟩ (fun _ _ _ _ _ => trivial) ?_ ?_
    · rintro i v σ HA HB hi ⟨last, x4, x5, rfl, sA, er⟩ ⟨rfl, rfl⟩
      have hi' : i < bs.length := by omega
      have hDB := sA.seq hD
      obtain ⟨b, eb⟩ : ∃ b, b = bs[i] := ⟨_, rfl⟩
      have ed : bs.drop i = b :: bs.drop (i + 1) := by rw [List.drop_eq_getElem_cons hi', eb]
      obtain ⟨bl, bw⟩ := lok b (List.mem_cons_of_mem _ (by rw [eb]; exact List.getElem_mem _))
      have hat : atI ((h :: bs).map V.str) (((1 + i : Nat) : Int)) = some (.str b) := at_of (j := 1 + i) rfl (by
        rw [List.getElem?_map, Nat.add_comm, List.getElem?_cons_succ, List.getElem?_eq_getElem hi', eb]
        rfl)
      rw [ed] at er
      have er : rowsB t z none 1 bs = if rfB t z last (Txt.split b " ") then rowsB t z (some (bk0 ((Txt.split b " ").getD 0 ""))) (1 + i + 1) (bs.drop (i + 1)) else some (1 + i) := er
      have ei : (1 : Int) + (i : Nat) = ((1 + i : Nat) : Int) := by omega
      show gName 4 (V.int ((1 : Int) + (i : Nat))) _ HB _
      rw [ei]
      refine ⟨.str (wordB t), rfl, .int z, rfl, optV last, rfl, .ref D, rfl, .int ((1 + i : Nat) : Int), rfl, D, _, _, .str b, rfl, rfl, hDB, hat, t, z, last, b, rfl, bl, bw, fun H5 s5 => ⟨_, rfl, ?_⟩⟩
      have s05 := sA.trans s5
      have hD5 := s05.seq hD
      cases hr : rfB t z last (Txt.split b " ") with
      | false =>
        rw [hr, if_neg Bool.false_ne_true] at er
        rw [er] at q
        exact iteT ⟨_, rfl, q _ s05⟩
      | true =>
      rw [hr, if_pos rfl] at er
      refine iteF ⟨.ref D, rfl, .int ((1 + i : Nat) : Int), rfl, D, _, _, .str b, rfl, rfl, hD5, hat, ⟨_, rfl⟩, b, " ", rfl, rfl, by decide, Nat.le_trans (show b.length + 2 ≤ 1000002 by omega) (by decide), fun W nW => ?_⟩
      obtain ⟨x, ns, ebs⟩ : ∃ x ns, Txt.split b " " = x :: ns := by
        cases e : Txt.split b " " with
        | nil => have := (split_sp b).1; rw [e] at this; cases this
        | cons x ns => exact ⟨x, ns, rfl⟩
      rw [ebs] at er ⊢
      have er : rowsB t z none 1 bs = rowsB t z (some (bk0 x)) (1 + (i + 1)) (bs.drop (i + 1)) := er
      refine ⟨W, _, 0, .str x, rfl, rfl, SqL.of upd_same, atI_nat (j := 0) rfl, ?_⟩
      have s6 := s05.trans (same_upd (o := .lst ((x :: ns).map V.str)) nW)
      refine ⟨.str x, rfl, rfl, _, rfl, ?_⟩
      by_cases hx : x = "*"
      · rw [decide_eq_true (show V.str x = V.str "*" by rw [hx])]
        exact iteT ⟨some (bk0 x), _, _, by unfold bk0; rw [if_pos hx]; rfl, s6, er⟩
      · rw [decide_eq_false (fun e : V.str x = V.str "*" => hx (V.str.inj e))]
        exact iteF ⟨.str x, rfl, some (bk0 x), _, _, by unfold bk0; rw [if_neg hx]; rfl, s6, er⟩
    rintro σ HA ⟨last, x4, x5, rfl, sA, er⟩
    rw [List.drop_of_length_le (by omega)] at er
    rw [er] at q
    exact q _ sA
end
theorem cut_nat (xs : List V) (i j : Nat) (hi : i ≤ j) (hj : j ≤ xs.length) : cutV xs (some (i : Int)) (some (j : Int)) = (xs.drop i).take (j - i) := by
  unfold cutV
  rw [HT.sIx_nat, HT.sIx_nat, Nat.min_eq_left hj, Nat.min_eq_left (Nat.le_trans hi hj)]
theorem cut_to (xs : List V) (j : Nat) (hj : j ≤ xs.length) : cutV xs none (some (j : Int)) = xs.take j := by
  unfold cutV
  rw [HT.sIx_nat, HT.sIx_none, Nat.min_eq_left hj, List.drop_zero, Nat.sub_zero]

theorem cut_from (xs : List V) (j : Nat) : cutV xs (some (j : Int)) none = xs.drop j := by
  unfold cutV
  rw [HT.sIx_nat, HT.sIx_none]
  by_cases h : j ≤ xs.length
  · rw [Nat.min_eq_left h]
    exact List.take_of_length_le (by rw [List.length_drop]; exact Nat.le_refl _)
  · rw [Nat.min_eq_right (by omega), List.drop_of_length_le (Nat.le_refl _), List.drop_of_length_le (by omega), List.take_nil]
theorem cut_mid (xs : List V) (i j : Nat) (hi : i ≤ xs.length) : cutV xs (some (i : Int)) (some (j : Int)) = (xs.drop i).take (j - i) := by
  unfold cutV
  rw [HT.sIx_nat, HT.sIx_nat, Nat.min_eq_left hi]
  by_cases h : j ≤ xs.length
  · rw [Nat.min_eq_left h]
  · rw [Nat.min_eq_right (by omega), List.take_of_length_le (by rw [List.length_drop]; exact Nat.le_refl _), List.take_of_length_le (by rw [List.length_drop]; omega)]
/-- a word that may be put in -/
structure Odd (u : Str) : Prop where
  ln : u.length ≤ 5000
  sp : (sg u).count 32 ≤ 2
  ch : ∀ c ∈ sg u, c < 128 ∧ c ≠ 10
theorem zeros_sg (n : Nat) (h : 2 ≤ n) : sg (Txt.mul "0" (n : Int)) = (List.replicate n [48]).flatten := by
  have e : Txt.mul "0" (n : Int) = ⟨(List.replicate n (("0" : Str)).cps).foldl (· ++ ·) #[]⟩ := by
    unfold Txt.mul
    rw [if_neg (by omega), show ((("0" : Str)).length == 0) = false by decide +kernel, show ((n : Int) == 1) = false from beq_eq_false_iff_ne.mpr (by omega)]
    rfl
  rw [e]
  show ((List.replicate n (("0" : Str)).cps).foldl (· ++ ·) #[]).toList = _
  rw [foldl_app, List.map_replicate]
  rfl
theorem zeros_odd (n : Nat) (h : 2 ≤ n) (h5 : n ≤ 5000) : Odd (Txt.mul "0" (n : Int)) := by
  have al : ∀ c ∈ sg (Txt.mul "0" (n : Int)), c = 48 := fun c hc => by
    rw [zeros_sg n h] at hc
    obtain ⟨l, hl, hc⟩ := List.mem_flatten.mp hc
    rw [(List.mem_replicate.mp hl).2] at hc
    exact List.mem_singleton.mp hc
  refine ⟨?_, ?_, fun c hc => by rw [al c hc]; decide⟩
  · rw [← sg_len, zeros_sg n h, List.length_flatten, List.map_replicate, List.sum_replicate_nat]
    show n * 1 ≤ 5000
    omega
  · rw [List.count_eq_zero.mpr fun hm => by have := al 32 hm; omega]
    exact Nat.zero_le _
def oddA : List Str := ["", "*", "-", "0", "1", "00", "01", "2", "a", "b", "A", "abcdefghi", "table", "wish", "32"]
def oddB1 : List Str := ["33", "03", "1_0", "table 2", "* a", "* -"]
def oddB2 : List Str := ["\t", "a\t", "+3", "0 a b"]
def oddL : List Str := oddA ++ (oddB1 ++ ([Txt.mul "0" 33, Txt.mul "0" 5000] ++ oddB2))
def oddD (u : Str) : Bool := decide (u.length ≤ 5000) && decide ((sg u).count 32 ≤ 2) && (sg u).all fun c => decide (c < 128) && !decide (c = 10)
theorem odd_of {u : Str} (h : oddD u = true) : Odd u := by
  unfold oddD at h
  rw [Bool.and_eq_true, Bool.and_eq_true, decide_eq_true_iff, decide_eq_true_iff, List.all_eq_true] at h
  refine ⟨h.1.1, h.1.2, fun c hc => ?_⟩
  have := h.2 c hc
  rw [Bool.and_eq_true, decide_eq_true_iff, Bool.not_eq_true', decide_eq_false_iff_not] at this
  exact this
theorem odd_all : ∀ u ∈ oddL, Odd u := fun u hu => by
  have h1 : ∀ u ∈ oddA, oddD u = true := by decide +kernel
  have h2 : ∀ u ∈ oddB1, oddD u = true := by decide +kernel
  have h3 : ∀ u ∈ oddB2, oddD u = true := by decide +kernel
  rcases List.mem_append.mp hu with hu | hu
  · exact odd_of (h1 u hu)
  rcases List.mem_append.mp hu with hu | hu
  · exact odd_of (h2 u hu)
  rcases List.mem_append.mp hu with hu | hu
  · rcases List.mem_cons.mp hu with rfl | hu
    · exact zeros_odd 33 (by decide) (by decide)
    · rw [List.mem_singleton.mp hu]
      exact zeros_odd 5000 (by decide) (by decide)
  · exact odd_of (h3 u hu)
theorem oddL_len : oddL.length = 27 := rfl
def signs6 : List Str := [" ", "a", "0", "-", "", "Z"]
theorem signs6_ok : ∀ u ∈ signs6, u.length ≤ 1 ∧ (sg u).count 32 ≤ 1 ∧ ∀ c ∈ sg u, c < 128 ∧ c ≠ 10 := by decide +kernel
theorem tot_rev (xs : List Str) : tot xs.reverse = tot xs := by
  unfold tot
  rw [List.map_reverse, List.sum_reverse]
theorem ls_out {xs : List Str} {N W T j : Nat} (h : Ls xs N W T) : Ls (xs.take j ++ xs.drop (j + 1)) (N + 1) (W + 2) (3 * T + 5003) := by
  refine (h.sub (fun y hy => ?_) ?_ ?_).mono (by omega) (by omega) (by omega)
  · exact (List.mem_append.mp hy).elim List.mem_of_mem_take List.mem_of_mem_drop
  · rw [List.length_append, List.length_take, List.length_drop]; omega
  · rw [tot_app]; exact tot_cut xs (by omega)
theorem ls_turn {xs : List Str} {N W T j : Nat} (h : Ls xs N W T) : Ls (xs.take j ++ ((xs.drop j).take 2).reverse ++ xs.drop (j + 2)) (N + 1) (W + 2) (3 * T + 5003) := by
  have e : xs.drop (j + 2) = (xs.drop j).drop 2 := by rw [List.drop_drop]
  refine (h.sub (fun y hy => ?_) ?_ ?_).mono (by omega) (by omega) (by omega)
  · rcases List.mem_append.mp hy with hy | hy
    · rcases List.mem_append.mp hy with hy | hy
      · exact List.mem_of_mem_take hy
      · exact List.mem_of_mem_drop (List.mem_of_mem_take (List.mem_reverse.mp hy))
    · exact List.mem_of_mem_drop hy
  · rw [List.length_append, List.length_append, List.length_reverse, List.length_take, List.length_take, List.length_drop, List.length_drop]; omega
  · rw [tot_app, tot_app, tot_rev, e]
    have h1 : tot xs = tot (xs.take j) + tot (xs.drop j) := by rw [← tot_app, List.take_append_drop]
    have h2 : tot (xs.drop j) = tot ((xs.drop j).take 2) + tot ((xs.drop j).drop 2) := by rw [← tot_app, List.take_append_drop]
    omega
theorem pick2 {x y : Str} {d : Int} (d0 : 0 ≤ d) (d1 : d < 2) : ∃ u, atI [V.str x, V.str y] d = some (.str u) ∧ (u = x ∨ u = y) := by
  obtain rfl | rfl : d = 0 ∨ d = 1 := by omega
  · exact ⟨x, rfl, .inl rfl⟩
  · exact ⟨y, rfl, .inr rfl⟩
theorem Ls.mem {xs : List Str} {N W T : Nat} {x : Str} (h : Ls xs N W T) (hx : x ∈ xs) : x.length + 1 ≤ T := Nat.le_trans (tot_mem hx) h.tt
theorem ls_add {xs : List Str} {N W T j k : Nat} {u x wo : Str} (h : Ls xs N W T) (jk : j ≤ k) (ow : Odd wo) (hx : x ∈ xs) (hu : u = x ∨ u = wo) : Ls (xs.take j ++ ([u] ++ xs.drop k)) (N + 1) (W + 2) (3 * T + 5003) := by
  have := h.mem hx
  rcases hu with rfl | rfl
  · exact h.mid jk (by omega) (Nat.le_trans (h.sp u hx) (by omega)) (h.ch u hx)
  · exact h.mid jk (by have := ow.ln; omega) (Nat.le_trans ow.sp (by omega)) ow.ch
/-- a sign put into a line -/
theorem put_sign {x s : Str} {k f : Nat} (h1 : s.length ≤ 1) (h2 : (sg s).count 32 ≤ 1) (h3 : ∀ c ∈ sg s, c < 128 ∧ c ≠ 10) (hx : ∀ c ∈ sg x, c < 128 ∧ c ≠ 10) : ((cutS x none (some (k : Int)) ++ s) ++ cutS x (some ((k + f : Nat) : Int)) none).length ≤ x.length + 1 ∧ (sg ((cutS x none (some (k : Int)) ++ s) ++ cutS x (some ((k + f : Nat) : Int)) none)).count 32 ≤ (sg x).count 32 + 1 ∧ ∀ c ∈ sg ((cutS x none (some (k : Int)) ++ s) ++ cutS x (some ((k + f : Nat) : Int)) none), c < 128 ∧ c ≠ 10 := by
  have e1 : sg (cutS x none (some (k : Int))) = (sg x).take k := by
    show ((sg x).drop (HT.sIx x.length 0 none)).take (HT.sIx x.length x.length (some (k : Int)) - HT.sIx x.length 0 none) = _
    rw [HT.sIx_nat, HT.sIx_none, List.drop_zero, Nat.sub_zero, ← sg_len]
    by_cases h : k ≤ (sg x).length
    · rw [Nat.min_eq_left h]
    · rw [Nat.min_eq_right (by omega), List.take_of_length_le (Nat.le_refl _), List.take_of_length_le (by omega)]
  have e2 : sg (cutS x (some ((k + f : Nat) : Int)) none) = (sg x).drop (k + f) := by
    show ((sg x).drop (HT.sIx x.length 0 (some ((k + f : Nat) : Int)))).take (HT.sIx x.length x.length none - HT.sIx x.length 0 (some ((k + f : Nat) : Int))) = _
    rw [HT.sIx_nat, HT.sIx_none, ← sg_len]
    by_cases h : k + f ≤ (sg x).length
    · rw [Nat.min_eq_left h]
      exact List.take_of_length_le (by rw [List.length_drop]; exact Nat.le_refl _)
    · rw [Nat.min_eq_right (by omega), List.drop_of_length_le (Nat.le_refl _), List.drop_of_length_le (by omega), List.take_nil]
  have e : sg ((cutS x none (some (k : Int)) ++ s) ++ cutS x (some ((k + f : Nat) : Int)) none) = ((sg x).take k ++ sg s) ++ (sg x).drop (k + f) := by rw [sg_app, sg_app, e1, e2]
  have sub : ((sg x).drop (k + f)).Sublist ((sg x).drop k) := by rw [← List.drop_drop]; exact List.drop_sublist _ _
  refine ⟨?_, ?_, fun c hc => ?_⟩
  · rw [← sg_len, e, List.length_append, List.length_append, List.length_take, List.length_drop, sg_len, sg_len]
    omega
  · rw [e, List.count_append, List.count_append]
    have h4 : (sg x).count 32 = ((sg x).take k).count 32 + ((sg x).drop k).count 32 := by rw [← List.count_append, List.take_append_drop]
    have h5 := sub.count_le 32
    omega
  · rw [e] at hc
    rcases List.mem_append.mp hc with hc | hc
    · rcases List.mem_append.mp hc with hc | hc
      · exact hx c (List.mem_of_mem_take hc)
      · exact h3 c hc
    · exact hx c (List.mem_of_mem_drop hc)
def spCh : Sp := fun vs H Q _ => ∃ (p c D : Addr) (n N W T : Nat) (m : List V) (xs : List Str), vs = [.ref p, .ref D] ∧ Pen H p c n m ∧ n + 100 ≤ PB ∧ H D = some (.lst (xs.map V.str)) ∧ D ≠ p ∧ Ls xs N W T ∧ xs ≠ [] ∧ N ≤ 50 ∧ T ≤ 300000 ∧
  ∀ (R : Addr) (xs' : List Str) (H' : Hp), But p H H' → H R = none → H' R = some (.lst (xs'.map V.str)) → Ls xs' (N + 1) (W + 2) (3 * T + 5003) → Pen H' p c (n + 8) m → Q (.ref R) H'
abbrev sCh : Stmt := top 49
section
variable {P : Program} {w : World} {K : PySem.W.Frag} {mg : Str → Option Value} {base : Heap}
abbrev NCh : List Str := ["pen", "lines", "road", "spot", "odd", "word", "turned", "words", "place", "some", "line"]
theorem scCh : FnScope NCh ["pen", "lines"] (defScope sCh) := ⟨rfl, rfl, rfl, by decide +kernel, rfl, by decide +kernel, by decide +kernel⟩
set_option maxHeartbeats 8000000 in
theorem ok_Ch {f fDr : Addr} {fd fdDr : FuncData} {k : Nat} (F : Fun K "_law_changed" "_law_changed" sCh f fd)
    (GDr : FnOk P w K mg base CX0 k fDr fdDr ["pen", "below"] spDraw)
    (FDr : Fun K "_law_draw" "_law_draw" sDr fDr fdDr) (bDr : Binds K fdDr ["pen", "below"] []) (gDr : mg "_law_draw" = some (.ref fDr))
    (m_len : mg "len" = none)
    : FnOk P w K mg base CX0 (k + 1) f fd ["pen", "lines"] spCh := by
  refine F.ok scCh (fun vs H Q E h => ?_) (fun cdv A outer s H vs Q E hr h => ?_)
  · obtain ⟨p, c, D, n, N, W, T, m, xs, rfl, _⟩ := h
    rfl
  · obtain ⟨p, c, D, n, N, W, T, m, xs, rfl, hp, hn, hD, Dp, ls, xne, N50, TT, q⟩ := h
    have nd := scCh.nd
    have hu := hr.units
    have hu1 := hu_of hr
    have hr1 := hr
    refine ⟨_, pss_cons (ps_par (i := 2) (j := 3) (by rfl) nd rfl rfl (by decide) rfl rfl (pa_cons (pe_call GDr hr1 (by rfl) gDr FDr.kp bDr .nil pass0 (pa_cons (pv 0) (pa_cons pe_int pa_nil))) (pa_cons (pe_call GDr hr1 (by rfl) gDr FDr.kp bDr .nil pass0 (pa_cons (pv 0) (pa_cons (pe_callB call_len_seq (by rfl) m_len (by decide +kernel) (pa_cons (pv 1) pa_nil)) pa_nil))) pa_nil)) (by rfl))
      (pss_cons (ps_set (i := 4) nd rfl (.inl rfl) (pe_lst (pa_cons pe_str (pa_cons pe_str (pa_cons pe_str (pa_cons pe_str (pa_cons pe_str (pa_cons pe_str (pa_cons pe_str (pa_cons pe_str (pa_cons pe_str (pa_cons pe_str (pa_cons pe_str (pa_cons pe_str (pa_cons pe_str (pa_cons pe_str (pa_cons pe_str pa_nil)))))))))))))))))
      (pss_cons (ps_set (i := 4) nd rfl (.inl rfl) (pe_op op_cat (pv 4) (pe_lst (pa_cons pe_str (pa_cons pe_str (pa_cons pe_str (pa_cons pe_str (pa_cons pe_str (pa_cons pe_str (pa_cons (pe_op op_mulS pe_str pe_int) (pa_cons (pe_op op_mulS pe_str pe_int) (pa_cons pe_str (pa_cons pe_str (pa_cons pe_str (pa_cons pe_str pa_nil)))))))))))))))
      (C8.pss_cut (ps_set (i := 5) nd rfl (.inl rfl) (pe_ix ix_list (pv 4) (pe_call GDr hr1 (by rfl) gDr FDr.kp bDr .nil pass0 (pa_cons (pv 0) (pa_cons (pe_callB call_len_seq (by rfl) m_len (by decide +kernel) (pa_cons (pv 4) pa_nil)) pa_nil))) (fun _ _ => rfl)))
      (pss_cons (ps_if (pt_cmpR op_eq (pv 2) pe_int (nomark _))
        (pss_one (ps_ret (pe_op op_cat (pe_slice sl_list (pv 1) po_none (po_some (pv 3))) (pe_slice sl_list (pv 1) (po_some (pe_op op_add (pv 3) pe_int)) po_none)))) pss_nil)
      (pss_cons (ps_if (pt_cmpR op_eq (pv 2) pe_int (nomark _))
        (pss_cons (ps_set (i := 6) nd rfl (.inl rfl) (pe_rev (pe_slice sl_list (pv 1) (po_some (pv 3)) (po_some (pe_op op_add (pv 3) pe_int))) (po_some (pe_un un_neg pe_int))))
        (pss_one (ps_ret (pe_op op_cat (pe_op op_cat (pe_slice sl_list (pv 1) po_none (po_some (pv 3))) (pv 6)) (pe_slice sl_list (pv 1) (po_some (pe_op op_add (pv 3) pe_int)) po_none))))) pss_nil)
      (pss_cons (ps_if (pt_cmpR op_eq (pv 2) pe_int (nomark _))
        (pss_one (ps_ret (pe_op op_cat (pe_op op_cat (pe_slice sl_list (pv 1) po_none (po_some (pv 3))) (pe_lst (pa_cons (pe_ix ix_list (pe_lst (pa_cons (pe_ix ix_list (pv 1) (pv 3) (fun _ _ => rfl)) (pa_cons (pv 5) pa_nil))) (pe_call GDr hr1 (by rfl) gDr FDr.kp bDr .nil pass0 (pa_cons (pv 0) (pa_cons pe_int pa_nil))) (fun _ _ => rfl)) pa_nil))) (pe_slice sl_list (pv 1) (po_some (pv 3)) po_none)))) pss_nil)
      (pss_cons (ps_set (i := 7) nd rfl (.inl rfl) (pe_split (pe_ix ix_list (pv 1) (pv 3) (fun _ _ => rfl)) pe_str))
      (C8.pss_cut (ps_set (i := 8) nd rfl (.inl rfl) (pe_call GDr hr1 (by rfl) gDr FDr.kp bDr .nil pass0 (pa_cons (pv 0) (pa_cons (pe_callB call_len_seq (by rfl) m_len (by decide +kernel) (pa_cons (pv 7) pa_nil)) pa_nil))))
      (pss_cons (ps_if (pt_cmpR op_lt (pv 2) pe_int (nomark _))
        (pss_cons (ps_set (i := 9) nd rfl (.inl rfl) (pe_split (pe_ix ix_list (pv 1) (pe_call GDr hr1 (by rfl) gDr FDr.kp bDr .nil pass0 (pa_cons (pv 0) (pa_cons (pe_callB call_len_seq (by rfl) m_len (by decide +kernel) (pa_cons (pv 1) pa_nil)) pa_nil))) (fun _ _ => rfl)) pe_str))
        (pss_cons (ps_asg (pe_ix ix_list (pe_lst (pa_cons (pv 5) (pa_cons (pe_ix ix_list (pv 9) (pe_call GDr hr1 (by rfl) gDr FDr.kp bDr .nil pass0 (pa_cons (pv 0) (pa_cons (pe_callB call_len_seq (by rfl) m_len (by decide +kernel) (pa_cons (pv 9) pa_nil)) pa_nil))) (fun _ _ => rfl)) pa_nil))) (pe_call GDr hr1 (by rfl) gDr FDr.kp bDr .nil pass0 (pa_cons (pv 0) (pa_cons pe_int pa_nil))) (fun _ _ => rfl)) (pg_sub (pv 7) (pv 8) set_list))
        (pss_one (ps_ret (pe_op op_cat (pe_op op_cat (pe_slice sl_list (pv 1) po_none (po_some (pv 3))) (pe_lst (pa_cons (pe_join pe_str (pv 7)) pa_nil))) (pe_slice sl_list (pv 1) (po_some (pe_op op_add (pv 3) pe_int)) po_none)))))) pss_nil)
      (pss_cons (ps_set (i := 10) nd rfl (.inl rfl) (pe_ix ix_list (pv 1) (pv 3) (fun _ _ => rfl)))
      (pss_cons (ps_set (i := 8) nd rfl (.inl rfl) (pe_call GDr hr1 (by rfl) gDr FDr.kp bDr .nil pass0 (pa_cons (pv 0) (pa_cons (pe_op op_add (pe_callB call_len_str (by rfl) m_len (by decide +kernel) (pa_cons (pv 10) pa_nil)) pe_int) pa_nil))))
      (C8.pss_cut (ps_set (i := 10) nd rfl (.inl rfl) (pe_op op_add_str (pe_op op_add_str (pe_slice sl_str (pv 10) po_none (po_some (pv 8))) (pe_ix ix_list (pe_lst (pa_cons pe_str (pa_cons pe_str (pa_cons pe_str (pa_cons pe_str (pa_cons pe_str (pa_cons pe_str pa_nil))))))) (pe_call GDr hr1 (by rfl) gDr FDr.kp bDr .nil pass0 (pa_cons (pv 0) (pa_cons pe_int pa_nil))) (fun _ _ => rfl))) (pe_slice sl_str (pv 10) (po_some (pe_op op_add (pv 8) (pe_call GDr hr1 (by rfl) gDr FDr.kp bDr .nil pass0 (pa_cons (pv 0) (pa_cons pe_int pa_nil))))) po_none)))
      (pss_one (ps_ret (pe_op op_cat (pe_op op_cat (pe_slice sl_list (pv 1) po_none (po_some (pv 3))) (pe_lst (pa_cons (pv 10) pa_nil))) (pe_slice sl_list (pv 1) (po_some (pe_op op_add (pv 3) pe_int)) po_none)))))))))))))))), ?_⟩
    have hnB : n + 100 ≤ 1000000000000 := hn
    have few := ls.few
    have lpos : 0 < xs.length := List.length_pos_iff.mpr xne
    refine ⟨.ref p, rfl, p, c, n, m, 6, rfl, hp, by show n ≤ 1000000000000; omega, by decide, by decide, fun road H1 r0 r1 b1 p1 => ?_⟩
    have hD1 := b1 _ _ Dp hD
    refine ⟨.ref p, rfl, .ref D, rfl, D, _, rfl, .inl (SqL.of hD1), p, c, n + 1, m, _, rfl, p1, by show n + 1 ≤ 1000000000000; omega, by rw [List.length_map]; omega, by rw [List.length_map]; omega, fun spot H2 sp0 sp1 b2 p2 => ?_⟩
    rw [List.length_map] at sp1
    have b02 := b1.trans b2
    have hD2 := b2 _ _ Dp hD1
    obtain ⟨j, rfl⟩ : ∃ j : Nat, spot = (j : Int) := ⟨spot.toNat, by omega⟩
    have jl : j < xs.length := by omega
    refine ⟨_, _, rfl, by show 15 ≤ sizeLine; decide, fun O1 nO1 => ?_⟩
    generalize hh : upd H2 O1 _ = H3
    have s1 : Same H2 H3 := by rw [← hh]; exact same_upd nO1
    have hO1 : H3 O1 = some (.lst (oddA.map V.str)) := by rw [← hh]; exact upd_same
    clear hh
    have hD3 := s1 _ _ hD2
    have p3 := p2.keep s1
    have b03 := b02.trans (.of_same s1)
    clear hD1 hD2 p1 p2 b1 b2 b02 s1 nO1
    refine ⟨.ref O1, rfl, "0", 33, rfl, rfl, by unfold MulOk; decide +kernel, "0", 5000, rfl, rfl, by unfold MulOk; decide +kernel, by show 12 ≤ sizeLine; decide, fun O2 nO2 => ?_⟩
    generalize hh : upd H3 O2 _ = H4
    have s2 : Same H3 H4 := by rw [← hh]; exact same_upd nO2
    have hO2 : H4 O2 = some (.lst ((oddB1 ++ ([Txt.mul "0" 33, Txt.mul "0" 5000] ++ oddB2)).map V.str)) := by rw [← hh]; exact upd_same
    clear hh
    refine ⟨O1, O2, _, _, rfl, rfl, s2 _ _ hO1, hO2, by rw [List.length_map, List.length_map]; show 27 ≤ sizeLine; decide, fun O3 nO3 => ?_⟩
    rw [← List.map_append]
    generalize hh : upd H4 O3 _ = H5
    have s3 : Same H3 H5 := by rw [← hh]; exact s2.trans (same_upd nO3)
    have hO3 : H5 O3 = some (.lst (oddL.map V.str)) := by rw [← hh]; exact upd_same
    clear hh
    have hD4 := s3 _ _ hD3
    have p4 := p3.keep s3
    have b04 := b03.trans (.of_same s3)
    have Op : O3 ≠ p := p3.ne_p (s2.free nO3)
    clear hO1 hD3 p3 b03 s2 s3 nO2 nO3 hO2
    refine ⟨fun σ H' => ∃ wo, σ = [some (.ref p), some (.ref D), some (.int road), some (.int (j : Int)), some (.ref O3), some (.str wo), none, none, none, none, none] ∧ Odd wo ∧ But p H H' ∧ H' D = some (.lst (xs.map V.str)) ∧ Pen H' p c (n + 3) m, ?_, ?_⟩
    · refine ⟨.ref O3, rfl, .ref p, rfl, .ref O3, rfl, O3, _, rfl, .inl (SqL.of hO3), p, c, n + 1 + 1, m, _, rfl, p4, by show n + 1 + 1 ≤ 1000000000000; omega, by rw [List.length_map, oddL_len]; decide, by rw [List.length_map, oddL_len]; decide, fun d H6 d0 d1 b6 p6 => ?_⟩
      rw [List.length_map, oddL_len] at d1
      obtain ⟨i, rfl⟩ : ∃ i : Nat, d = (i : Int) := ⟨d.toNat, by omega⟩
      have il : i < oddL.length := by rw [oddL_len]; omega
      exact ⟨O3, _, _, .str oddL[i], rfl, rfl, SqL.of (b6 _ _ Op hO3), atI_nat (by rw [List.getElem?_map, List.getElem?_eq_getElem il]; rfl), _, rfl, odd_all _ (List.getElem_mem _), b04.trans b6, b6 _ _ Dp hD4, p6⟩
    rintro σ H6 ⟨wo, rfl, ow, b06, hD6, p6⟩
    clear hO3 hD4 p4 b04
    refine ⟨.int road, rfl, rfl, _, rfl, ?_⟩
    by_cases h0 : road = 0
    · rw [decide_eq_true (show V.int road = V.int 0 by rw [h0])]
      refine iteT ?_
      refine ⟨.ref D, rfl, .int (j : Int), rfl, (j : Int), rfl, D, _, rfl, SqL.of (hD6), fun A nA => ?_⟩
      generalize hh : upd H6 A _ = HA
      have sA : Same H6 HA := by rw [← hh]; exact same_upd nA
      have hA : HA A = some (.lst ((xs.take j).map V.str)) := by rw [← hh, upd_same, cut_to _ _ (by rw [List.length_map]; omega), List.map_take]
      clear hh
      have hDA := sA _ _ hD6
      refine ⟨.ref D, rfl, .int (j : Int), rfl, (j : Int), 1, rfl, rfl, _, rfl, D, _, rfl, SqL.of (hDA), fun B nB => ?_⟩
      rw [show (j : Int) + 1 = ((j + 1 : Nat) : Int) by omega]
      generalize hh : upd HA B _ = HB
      have sB : Same HA HB := by rw [← hh]; exact same_upd nB
      have hB : HB B = some (.lst ((xs.drop (j + 1)).map V.str)) := by rw [← hh, upd_same, cut_from, List.map_drop]
      clear hh
      refine ⟨A, B, _, _, rfl, rfl, sB _ _ hA, hB, by simp only [List.length_map, List.length_take, List.length_drop, List.length_append, List.length_reverse, List.length_cons, List.length_nil]; exact big_of (by omega), fun R nR => ?_⟩
      generalize hh : upd HB R _ = HR
      have sR : Same HB HR := by rw [← hh]; exact same_upd nR
      have hR : HR R = some (.lst ((xs.take j ++ xs.drop (j + 1)).map V.str)) := by rw [← hh, upd_same, ← List.map_append]
      clear hh
      have sR' := sA.trans (sB.trans sR)
      have Rf := (sA.trans sB).free nR
      exact q R _ _ (b06.trans (.of_same sR')) (b06.free (p6.ne_p Rf) Rf) hR (ls_out ls) ((p6.keep sR').mono (by omega))
    rw [decide_eq_false (fun e : V.int road = V.int 0 => h0 (V.int.inj e))]
    refine iteF ⟨.int road, rfl, rfl, _, rfl, ?_⟩
    by_cases h1 : road = 1
    · rw [decide_eq_true (show V.int road = V.int 1 by rw [h1])]
      refine iteT ?_
      refine ⟨.ref D, rfl, .int (j : Int), rfl, (j : Int), rfl, .int (j : Int), rfl, (j : Int), 2, rfl, rfl, _, rfl, D, _, rfl, SqL.of hD6, fun A nA => ?_⟩
      rw [show (j : Int) + 2 = ((j + 2 : Nat) : Int) by omega]
      generalize hh : upd H6 A _ = HA
      have sA : Same H6 HA := by rw [← hh]; exact same_upd nA
      have hA : HA A = some (.lst (((xs.drop j).take 2).map V.str)) := by rw [← hh, upd_same, cut_mid _ _ _ (by rw [List.length_map]; omega), List.map_take, List.map_drop, show j + 2 - j = 2 by omega]
      clear hh
      refine ⟨1, rfl, _, rfl, rfl, A, _, rfl, SqL.of hA, fun B nB => ?_⟩
      generalize hh : upd HA B _ = HB
      have sB : Same HA HB := by rw [← hh]; exact same_upd nB
      have hB : HB B = some (.lst (((xs.drop j).take 2).reverse.map V.str)) := by rw [← hh, upd_same, List.map_reverse]
      clear hh
      have hDB := sB _ _ (sA _ _ hD6)
      refine ⟨.ref D, rfl, .int (j : Int), rfl, (j : Int), rfl, D, _, rfl, SqL.of (hDB), fun C nC => ?_⟩
      generalize hh : upd HB C _ = HC
      have sC : Same HB HC := by rw [← hh]; exact same_upd nC
      have hC : HC C = some (.lst ((xs.take j).map V.str)) := by rw [← hh, upd_same, cut_to _ _ (by rw [List.length_map]; omega), List.map_take]
      clear hh
      have hDC := sC _ _ hDB
      have hBC := sC _ _ hB
      refine ⟨.ref B, rfl, C, B, _, _, rfl, rfl, hC, hBC, by simp only [List.length_map, List.length_take, List.length_drop, List.length_append, List.length_reverse, List.length_cons, List.length_nil]; exact big_of (by omega), fun E nE => ?_⟩
      generalize hh : upd HC E _ = HE
      have sE : Same HC HE := by rw [← hh]; exact same_upd nE
      have hE : HE E = some (.lst ((xs.take j ++ ((xs.drop j).take 2).reverse).map V.str)) := by rw [← hh, upd_same, ← List.map_append]
      clear hh
      refine ⟨.ref D, rfl, .int (j : Int), rfl, (j : Int), 2, rfl, rfl, _, rfl, D, _, rfl, SqL.of (sE _ _ hDC), fun F nF => ?_⟩
      rw [show (j : Int) + 2 = ((j + 2 : Nat) : Int) by omega]
      generalize hh : upd HE F _ = HF
      have sF : Same HE HF := by rw [← hh]; exact same_upd nF
      have hF : HF F = some (.lst ((xs.drop (j + 2)).map V.str)) := by rw [← hh, upd_same, cut_from, List.map_drop]
      clear hh
      refine ⟨E, F, _, _, rfl, rfl, sF _ _ hE, hF, by simp only [List.length_map, List.length_take, List.length_drop, List.length_append, List.length_reverse, List.length_cons, List.length_nil]; exact big_of (by omega), fun R nR => ?_⟩
      generalize hh : upd HF R _ = HR
      have sR : Same HF HR := by rw [← hh]; exact same_upd nR
      have hR : HR R = some (.lst ((xs.take j ++ ((xs.drop j).take 2).reverse ++ xs.drop (j + 2)).map V.str)) := by rw [← hh, upd_same, ← List.map_append]
      clear hh
      have s6F := sA.trans (sB.trans (sC.trans (sE.trans sF)))
      have sR' := s6F.trans sR
      have Rf := s6F.free nR
      exact q R _ _ (b06.trans (.of_same sR')) (b06.free (p6.ne_p Rf) Rf) hR (ls_turn ls) ((p6.keep sR').mono (by omega))
    rw [decide_eq_false (fun e : V.int road = V.int 1 => h1 (V.int.inj e))]
    obtain ⟨x, ex⟩ : ∃ x, x = xs[j] := ⟨_, rfl⟩
    have xm : x ∈ xs := by rw [ex]; exact List.getElem_mem _
    have xat : (xs.map V.str)[j]? = some (V.str x) := by rw [List.getElem?_map, List.getElem?_eq_getElem jl, ex]; rfl
    have xT := ls.mem xm
    refine iteF ⟨.int road, rfl, rfl, _, rfl, ?_⟩
    by_cases h2 : road = 2
    · rw [decide_eq_true (show V.int road = V.int 2 by rw [h2])]
      refine iteT ?_
      refine ⟨.ref D, rfl, .int (j : Int), rfl, (j : Int), rfl, D, _, rfl, SqL.of (hD6), fun A nA => ?_⟩
      generalize hh : upd H6 A _ = HA
      have sA : Same H6 HA := by rw [← hh]; exact same_upd nA
      have hA : HA A = some (.lst ((xs.take j).map V.str)) := by rw [← hh, upd_same, cut_to _ _ (by rw [List.length_map]; omega), List.map_take]
      clear hh
      have hDA := sA _ _ hD6
      have Ap : A ≠ p := p6.ne_p nA
      refine ⟨.ref D, rfl, .int (j : Int), rfl, D, _, _, .str x, rfl, rfl, SqL.of hDA, atI_nat xat, .str wo, rfl, by show 2 ≤ sizeLine; decide, fun B nB => ?_⟩
      generalize hh : upd HA B _ = HB
      have sB : Same HA HB := by rw [← hh]; exact same_upd nB
      have hB : HB B = some (.lst ([x, wo].map V.str)) := by rw [← hh, upd_same, List.map_cons, List.map_cons, List.map_nil]
      clear hh
      have pB := p6.keep (sA.trans sB)
      have Bp : B ≠ p := p6.ne_p (sA.free nB)
      refine ⟨.ref p, rfl, p, c, n + 3, m, 2, rfl, pB, by show n + 3 ≤ 1000000000000; omega, by decide, by decide, fun d HC d0 d1 bC pC => ?_⟩
      obtain ⟨u, eu, hu⟩ := pick2 (x := x) (y := wo) d0 d1
      refine ⟨B, _, _, .str u, rfl, rfl, SqL.of (bC _ _ Bp hB), eu, by show 1 ≤ sizeLine; decide, fun C nC => ?_⟩
      generalize hh : upd HC C _ = HE
      have sC : Same HC HE := by rw [← hh]; exact same_upd nC
      have hC : HE C = some (.lst ([u].map V.str)) := by rw [← hh, upd_same, List.map_cons, List.map_nil]
      clear hh
      have hDE := sC _ _ (bC _ _ Dp (sB _ _ hDA))
      have hAE := sC _ _ (bC _ _ Ap (sB _ _ hA))
      refine ⟨A, C, _, _, rfl, rfl, hAE, hC, by simp only [List.length_map, List.length_take, List.length_drop, List.length_append, List.length_reverse, List.length_cons, List.length_nil]; exact big_of (by omega), fun E nE => ?_⟩
      generalize hh : upd HE E _ = HF
      have sE : Same HE HF := by rw [← hh]; exact same_upd nE
      have hE : HF E = some (.lst ((xs.take j ++ [u]).map V.str)) := by rw [← hh, upd_same, ← List.map_append]
      clear hh
      refine ⟨.ref D, rfl, .int (j : Int), rfl, (j : Int), rfl, D, _, rfl, SqL.of (sE _ _ hDE), fun G nG => ?_⟩
      generalize hh : upd HF G _ = HG
      have sG : Same HF HG := by rw [← hh]; exact same_upd nG
      have hG : HG G = some (.lst ((xs.drop j).map V.str)) := by rw [← hh, upd_same, cut_from, List.map_drop]
      clear hh
      refine ⟨E, G, _, _, rfl, rfl, sG _ _ hE, hG, by simp only [List.length_map, List.length_take, List.length_drop, List.length_append, List.length_reverse, List.length_cons, List.length_nil]; exact big_of (by omega), fun R nR => ?_⟩
      generalize hh : upd HG R _ = HR
      have sR : Same HG HR := by rw [← hh]; exact same_upd nR
      have hR : HR R = some (.lst ((xs.take j ++ [u] ++ xs.drop j).map V.str)) := by rw [← hh, upd_same, ← List.map_append]
      clear hh
      have b6C : But p H HC := b06.trans ((But.of_same (sA.trans sB)).trans bC)
      have sCG := sC.trans (sE.trans sG)
      have Rf := sCG.free nR
      exact q R _ _ (b6C.trans (.of_same (sCG.trans sR))) (b6C.free (pC.ne_p Rf) Rf) hR (by rw [List.append_assoc]; exact ls_add ls (Nat.le_refl _) ow xm hu) ((pC.keep (sCG.trans sR)).mono (by omega))
    rw [decide_eq_false (fun e : V.int road = V.int 2 => h2 (V.int.inj e))]
    refine iteF ?_
    refine ⟨.ref D, rfl, .int (j : Int), rfl, D, _, _, .str x, rfl, rfl, SqL.of hD6, atI_nat xat, ⟨_, rfl⟩, x, " ", rfl, rfl, by decide, Nat.le_trans (show x.length + 2 ≤ 1000002 by omega) (by decide), fun Wd nWd => ?_⟩
    generalize hh : upd H6 Wd _ = H7
    have sWd : Same H6 H7 := by rw [← hh]; exact same_upd nWd
    have hWd : H7 Wd = some (.lst ((Txt.split x " ").map V.str)) := by rw [← hh, upd_same]
    clear hh
    have hD7 := sWd _ _ hD6
    have p7 := p6.keep sWd
    have b07 := b06.trans (.of_same sWd)
    have Wp : Wd ≠ p := p6.ne_p nWd
    have DW : D ≠ Wd := ne_of_none hD6 nWd
    have Wd0 : H Wd = none := b06.free Wp nWd
    have Wc : Wd ≠ c := p6.ne_c nWd
    obtain ⟨wl, wf⟩ := split_sp x
    have wT : (Txt.split x " ").length ≤ 300001 := by
      rw [wl]
      have := List.count_le_length (a := 32) (l := sg x)
      rw [sg_len] at this
      omega
    refine ⟨fun σ H' => ∃ i : Nat, σ = [some (.ref p), some (.ref D), some (.int road), some (.int (j : Int)), some (.ref O3), some (.str wo), none, some (.ref Wd), some (.int (i : Int)), none, none] ∧ i < (Txt.split x " ").length ∧ H' Wd = some (.lst ((Txt.split x " ").map V.str)) ∧ But p H H' ∧ H' D = some (.lst (xs.map V.str)) ∧ Pen H' p c (n + 4) m, ?_, ?_⟩
    · refine ⟨.ref p, rfl, .ref Wd, rfl, Wd, _, rfl, .inl (SqL.of hWd), p, c, n + 3, m, _, rfl, p7, by show n + 3 ≤ 1000000000000; omega, by rw [List.length_map]; omega, by rw [List.length_map]; omega, fun pl H8 pl0 pl1 b8 p8 => ?_⟩
      rw [List.length_map] at pl1
      obtain ⟨i, rfl⟩ : ∃ i : Nat, pl = (i : Int) := ⟨pl.toNat, by omega⟩
      exact ⟨i, rfl, by omega, b8 _ _ Wp hWd, b07.trans b8, b8 _ _ Dp hD7, p8⟩
    rintro σ H8 ⟨i, rfl, il, hW8, b08, hD8, p8⟩
    clear hWd hD7 p7 b07 hD6 p6 b06 sWd nWd
    refine ⟨.int road, rfl, _, _, rfl, rfl, _, rfl, ?_⟩
    by_cases h5 : road < 5
    rotate_left
    · rw [decide_eq_false h5]
      refine iteF ?_
      clear hW8 wl wf wT Wd0 Wc DW
      have hxl : x.length ≤ sizeLine := Nat.le_trans (show x.length ≤ 1000000 by omega) (by decide)
      refine ⟨.ref D, rfl, .int (j : Int), rfl, D, _, _, .str x, rfl, rfl, SqL.of hD8, atI_nat xat, ?_⟩
      refine ⟨.ref p, rfl, .str x, rfl, x, rfl, Nat.le_trans (show x.length ≤ 1000000 by omega) (by decide), _, 1, rfl, rfl, p, c, n + 4, m, _, rfl, p8, by show n + 4 ≤ 1000000000000; omega, by omega, by omega, fun pl H9 pl0 pl1 b9 p9 => ?_⟩
      obtain ⟨k, rfl⟩ : ∃ i : Nat, pl = (i : Int) := ⟨pl.toNat, by omega⟩
      have b09 := b08.trans b9
      have hD9 := b9 _ _ Dp hD8
      clear b08 b9 hD8 p8
      refine ⟨fun σ H' => ∃ ln, σ = [some (.ref p), some (.ref D), some (.int road), some (.int (j : Int)), some (.ref O3), some (.str wo), none, some (.ref Wd), some (.int (k : Int)), none, some (.str ln)] ∧ ln.length ≤ x.length + 1 ∧ (sg ln).count 32 ≤ W + 2 ∧ (∀ c ∈ sg ln, c < 128 ∧ c ≠ 10) ∧ But p H H' ∧ H' D = some (.lst (xs.map V.str)) ∧ Pen H' p c (n + 7) m, ?_, ?_⟩
      · refine ⟨.str x, rfl, .int (k : Int), rfl, (k : Int), rfl, x, rfl, hxl, by show 6 ≤ sizeLine; decide, fun B nB => ?_⟩
        generalize hh : upd H9 B _ = HA
        have sB : Same H9 HA := by rw [← hh]; exact same_upd nB
        have hB : HA B = some (.lst (signs6.map V.str)) := by rw [← hh, upd_same]; rfl
        clear hh
        have pA := p9.keep sB
        have Bp : B ≠ p := p9.ne_p nB
        refine ⟨.ref p, rfl, p, c, n + 4 + 1, m, 6, rfl, pA, by show n + 4 + 1 ≤ 1000000000000; omega, by decide, by decide, fun d HC d0 d1 bC pC => ?_⟩
        obtain ⟨di, rfl⟩ : ∃ i : Nat, d = (i : Int) := ⟨d.toNat, by omega⟩
        have dl : di < signs6.length := by show di < 6; omega
        obtain ⟨s6, es⟩ : ∃ s6, s6 = signs6[di] := ⟨_, rfl⟩
        have sat : (signs6.map V.str)[di]? = some (V.str s6) := by rw [List.getElem?_map, List.getElem?_eq_getElem dl, es]; rfl
        obtain ⟨o1, o2, o3⟩ := signs6_ok s6 (by rw [es]; exact List.getElem_mem _)
        have l1 := cutS_length x none (some (k : Int))
        refine ⟨B, _, _, .str s6, rfl, rfl, SqL.of (bC _ _ Bp hB), atI_nat sat, _, _, rfl, rfl, Nat.le_trans (show _ ≤ 1000000 by omega) (by decide), ?_⟩
        refine ⟨.str x, rfl, .int (k : Int), rfl, .ref p, rfl, p, c, n + 4 + 1 + 1, m, 2, rfl, pC, by show n + 4 + 1 + 1 ≤ 1000000000000; omega, by decide, by decide, fun f HE f0 f1 bE pE => ?_⟩
        obtain ⟨fi, rfl⟩ : ∃ i : Nat, f = (i : Int) := ⟨f.toNat, by omega⟩
        refine ⟨(k : Int), (fi : Int), rfl, rfl, _, rfl, x, rfl, hxl, ?_⟩
        rw [show (k : Int) + (fi : Int) = ((k + fi : Nat) : Int) by omega]
        obtain ⟨m1, m2, m3⟩ := put_sign (x := x) (s := s6) (k := k) (f := fi) o1 o2 o3 (ls.ch x xm)
        refine ⟨_, _, rfl, rfl, ?_, _, rfl, m1, Nat.le_trans m2 (by have := ls.sp x xm; omega), m3, b09.trans ((But.of_same sB).trans (bC.trans bE)), bE _ _ Dp (bC _ _ Dp (sB _ _ hD9)), pE⟩
        rw [str_app_len] at m1
        exact Nat.le_trans m1 (Nat.le_trans (show _ ≤ 1000000 by omega) (by decide))
      rintro σ HF ⟨ln, rfl, n1, n2, n3, b0F, hDF, pF⟩
      clear hD9 p9 b09
      refine ⟨.ref D, rfl, .int (j : Int), rfl, (j : Int), rfl, D, _, rfl, SqL.of (hDF), fun A nA => ?_⟩
      generalize hh : upd HF A _ = HG
      have sA : Same HF HG := by rw [← hh]; exact same_upd nA
      have hA : HG A = some (.lst ((xs.take j).map V.str)) := by rw [← hh, upd_same, cut_to _ _ (by rw [List.length_map]; omega), List.map_take]
      clear hh
      have hDG := sA _ _ hDF
      refine ⟨.str ln, rfl, by show 1 ≤ sizeLine; decide, fun C nC => ?_⟩
      generalize hh : upd HG C _ = HI
      have sC : Same HG HI := by rw [← hh]; exact same_upd nC
      have hC : HI C = some (.lst ([ln].map V.str)) := by rw [← hh, upd_same, List.map_cons, List.map_nil]
      clear hh
      refine ⟨A, C, _, _, rfl, rfl, sC _ _ hA, hC, by simp only [List.length_map, List.length_take, List.length_drop, List.length_append, List.length_reverse, List.length_cons, List.length_nil]; exact big_of (by omega), fun E nE => ?_⟩
      generalize hh : upd HI E _ = HJ
      have sE : Same HI HJ := by rw [← hh]; exact same_upd nE
      have hE : HJ E = some (.lst ((xs.take j ++ [ln]).map V.str)) := by rw [← hh, upd_same, ← List.map_append]
      clear hh
      refine ⟨.ref D, rfl, .int (j : Int), rfl, (j : Int), 1, rfl, rfl, _, rfl, D, _, rfl, SqL.of (sE _ _ (sC _ _ hDG)), fun G nG => ?_⟩
      rw [show (j : Int) + 1 = ((j + 1 : Nat) : Int) by omega]
      generalize hh : upd HJ G _ = HK
      have sG : Same HJ HK := by rw [← hh]; exact same_upd nG
      have hG : HK G = some (.lst ((xs.drop (j + 1)).map V.str)) := by rw [← hh, upd_same, cut_from, List.map_drop]
      clear hh
      refine ⟨E, G, _, _, rfl, rfl, sG _ _ hE, hG, by simp only [List.length_map, List.length_take, List.length_drop, List.length_append, List.length_reverse, List.length_cons, List.length_nil]; exact big_of (by omega), fun R nR => ?_⟩
      generalize hh : upd HK R _ = HR
      have sR : Same HK HR := by rw [← hh]; exact same_upd nR
      have hR : HR R = some (.lst ((xs.take j ++ [ln] ++ xs.drop (j + 1)).map V.str)) := by rw [← hh, upd_same, ← List.map_append]
      clear hh
      have sFK := sA.trans (sC.trans (sE.trans sG))
      have Rf := sFK.free nR
      exact q R _ _ (b0F.trans (.of_same (sFK.trans sR))) (b0F.free (pF.ne_p Rf) Rf) hR (by rw [List.append_assoc]; exact ls.mid (by omega) (by omega) n2 n3) ((pF.keep (sFK.trans sR)).mono (by omega))
    rw [decide_eq_true h5]
    refine iteT ?_
    refine ⟨.ref D, rfl, .ref p, rfl, .ref D, rfl, D, _, rfl, .inl (SqL.of hD8), p, c, n + 4, m, _, rfl, p8, by show n + 4 ≤ 1000000000000; omega, by rw [List.length_map]; omega, by rw [List.length_map]; omega, fun e H9 e0 e1 b9 p9 => ?_⟩
    rw [List.length_map] at e1
    obtain ⟨ei, rfl⟩ : ∃ i : Nat, e = (i : Int) := ⟨e.toNat, by omega⟩
    obtain ⟨y, ey⟩ : ∃ y, y = xs[ei] := ⟨_, rfl⟩
    have ym : y ∈ xs := by rw [ey]; exact List.getElem_mem _
    have yat : (xs.map V.str)[ei]? = some (V.str y) := by rw [List.getElem?_map, List.getElem?_eq_getElem (by omega), ey]; rfl
    have yT := ls.mem ym
    have hD9 := b9 _ _ Dp hD8
    have hW9 := b9 _ _ Wp hW8
    refine ⟨D, _, _, .str y, rfl, rfl, SqL.of hD9, atI_nat yat, ⟨_, rfl⟩, y, " ", rfl, rfl, by decide, Nat.le_trans (show y.length + 2 ≤ 1000002 by omega) (by decide), fun S nS => ?_⟩
    generalize hh : upd H9 S _ = HA
    have sS : Same H9 HA := by rw [← hh]; exact same_upd nS
    have hS : HA S = some (.lst ((Txt.split y " ").map V.str)) := by rw [← hh, upd_same]
    clear hh
    have pA := p9.keep sS
    have b0A := (b08.trans b9).trans (.of_same sS)
    have hDA := sS _ _ hD9
    have hWA := sS _ _ hW9
    have Sp : S ≠ p := p9.ne_p nS
    have SW : Wd ≠ S := ne_of_none hW9 nS
    clear hD8 hW8 p8 b08 hD9 hW9 p9 b9 sS nS
    obtain ⟨yl, yf⟩ := split_sp y
    have yT2 : (Txt.split y " ").length ≤ 300001 := by
      rw [yl]
      have := List.count_le_length (a := 32) (l := sg y)
      rw [sg_len] at this
      omega
    refine ⟨.str wo, rfl, .ref S, rfl, .ref p, rfl, .ref S, rfl, S, _, rfl, .inl (SqL.of hS), p, c, n + 4 + 1, m, _, rfl, pA, by show n + 4 + 1 ≤ 1000000000000; omega, by rw [List.length_map]; omega, by rw [List.length_map]; omega, fun g HB g0 g1 bB pB => ?_⟩
    rw [List.length_map] at g1
    obtain ⟨gi, rfl⟩ : ∃ i : Nat, g = (i : Int) := ⟨g.toNat, by omega⟩
    obtain ⟨v, ev⟩ : ∃ v, v = (Txt.split y " ")[gi] := ⟨_, rfl⟩
    have vm : v ∈ Txt.split y " " := by rw [ev]; exact List.getElem_mem _
    have vat : ((Txt.split y " ").map V.str)[gi]? = some (V.str v) := by rw [List.getElem?_map, List.getElem?_eq_getElem (by omega), ev]; rfl
    have hSB := bB _ _ Sp hS
    refine ⟨S, _, _, .str v, rfl, rfl, SqL.of hSB, atI_nat vat, by show 2 ≤ sizeLine; decide, fun B nB => ?_⟩
    generalize hh : upd HB B _ = HC
    have sB : Same HB HC := by rw [← hh]; exact same_upd nB
    have hB : HC B = some (.lst ([wo, v].map V.str)) := by rw [← hh, upd_same, List.map_cons, List.map_cons, List.map_nil]
    clear hh
    have pC := pB.keep sB
    have Bp : B ≠ p := pB.ne_p nB
    refine ⟨.ref p, rfl, p, c, n + 4 + 1 + 1, m, 2, rfl, pC, by show n + 4 + 1 + 1 ≤ 1000000000000; omega, by decide, by decide, fun d HE d0 d1 bE pE => ?_⟩
    obtain ⟨u, eu, hu⟩ := pick2 (x := wo) (y := v) d0 d1
    refine ⟨B, _, _, .str u, rfl, rfl, SqL.of (bE _ _ Bp hB), eu, ?_⟩
    have b0E : But p H HE := b0A.trans (bB.trans ((But.of_same sB).trans bE))
    have hDE := bE _ _ Dp (sB _ _ (bB _ _ Dp hDA))
    have hWE := bE _ _ Wp (sB _ _ (bB _ _ Wp hWA))
    have us : u.length ≤ T + 5000 ∧ (sg u).count 32 ≤ 2 ∧ ∀ c ∈ sg u, c < 128 ∧ c ≠ 10 := by
      rcases hu with rfl | rfl
      · exact ⟨by have := ow.ln; omega, ow.sp, ow.ch⟩
      · have hp1 := part_of vm
        exact ⟨by have := hp1.1; omega, by rw [List.count_eq_zero.mpr (yf u vm)]; exact Nat.zero_le _, fun c hc => ls.ch y ym c (hp1.2 c hc)⟩
    obtain ⟨pw1, pw2, pw3⟩ := put_word (i := i) xT (ls.sp x xm) (ls.ch x xm) us.1 us.2.1 us.2.2
    have hix : ixN ((Txt.split x " ").map V.str).length (i : Int) = some i := by
      unfold ixN
      rw [List.length_map, if_pos (by omega), if_pos (by omega)]
      rfl
    refine ⟨.ref Wd, rfl, .int (i : Int), rfl, Wd, _, _, i, rfl, rfl, hWE, hix, ?_⟩
    rw [← List.map_set]
    generalize hh : upd HE Wd _ = HF
    have hWF : HF Wd = some (.lst (((Txt.split x " ").set i u).map V.str)) := by rw [← hh, upd_same]
    have hDF : HF D = some (.lst (xs.map V.str)) := by rw [← hh, upd_ne DW]; exact hDE
    have b0F : But p H HF := by
      rw [← hh]
      intro b o nb eb
      rw [upd_ne (ne_of_none eb Wd0)]
      exact b0E b o nb eb
    have pF : Pen HF p c (n + 4 + 1 + 1 + 1) m := by
      rw [← hh]
      exact pE.off Wp Wc
    clear hh hWE hDE b0E pE bE hix sB hB nB bB hSB pC pB hDA hWA hS pA b0A
    refine ⟨.ref D, rfl, .int (j : Int), rfl, (j : Int), rfl, D, _, rfl, SqL.of (hDF), fun A nA => ?_⟩
    generalize hh : upd HF A _ = HG
    have sA : Same HF HG := by rw [← hh]; exact same_upd nA
    have hA : HG A = some (.lst ((xs.take j).map V.str)) := by rw [← hh, upd_same, cut_to _ _ (by rw [List.length_map]; omega), List.map_take]
    clear hh
    have hDG := sA _ _ hDF
    have hWG := sA _ _ hWF
    refine ⟨⟨_, rfl⟩, .ref Wd, rfl, " ", Wd, (Txt.split x " ").set i u, rfl, rfl, .inl (SqL.of hWG), ?_, by show 1 ≤ sizeLine; decide, fun C nC => ?_⟩
    · have h1 := tot_set (Txt.split x " ") i u
      have h2 := (join1_len (y := " ") (s := 32) rfl (Txt.split x " ")).2.1 (fun z => by rw [z] at wl; cases wl)
      rw [join_back] at h2
      have h3 : (((Txt.split x " ").set i u).map (·.length)).sum + ((Txt.split x " ").set i u).length = tot ((Txt.split x " ").set i u) := by
        unfold tot
        generalize (Txt.split x " ").set i u = l
        induction l with
        | nil => rfl
        | cons a r ih => rw [List.map_cons, List.sum_cons, List.length_cons, List.map_cons, List.sum_cons, ← ih]; omega
      show _ + _ * 1 ≤ _
      rw [Nat.mul_one, h3]
      have := us.1
      omega
    generalize hh : upd HG C _ = HI
    have sC : Same HG HI := by rw [← hh]; exact same_upd nC
    have hC : HI C = some (.lst ([Txt.join " " ((Txt.split x " ").set i u)].map V.str)) := by rw [← hh, upd_same, List.map_cons, List.map_nil]
    clear hh
    refine ⟨A, C, _, _, rfl, rfl, sC _ _ hA, hC, by simp only [List.length_map, List.length_take, List.length_drop, List.length_append, List.length_reverse, List.length_cons, List.length_nil]; exact big_of (by omega), fun E nE => ?_⟩
    generalize hh : upd HI E _ = HJ
    have sE : Same HI HJ := by rw [← hh]; exact same_upd nE
    have hE : HJ E = some (.lst ((xs.take j ++ [Txt.join " " ((Txt.split x " ").set i u)]).map V.str)) := by rw [← hh, upd_same, ← List.map_append]
    clear hh
    refine ⟨.ref D, rfl, .int (j : Int), rfl, (j : Int), 1, rfl, rfl, _, rfl, D, _, rfl, SqL.of (sE _ _ (sC _ _ hDG)), fun G nG => ?_⟩
    rw [show (j : Int) + 1 = ((j + 1 : Nat) : Int) by omega]
    generalize hh : upd HJ G _ = HK
    have sG : Same HJ HK := by rw [← hh]; exact same_upd nG
    have hG : HK G = some (.lst ((xs.drop (j + 1)).map V.str)) := by rw [← hh, upd_same, cut_from, List.map_drop]
    clear hh
    refine ⟨E, G, _, _, rfl, rfl, sG _ _ hE, hG, by simp only [List.length_map, List.length_take, List.length_drop, List.length_append, List.length_reverse, List.length_cons, List.length_nil]; exact big_of (by omega), fun R nR => ?_⟩
    generalize hh : upd HK R _ = HR
    have sR : Same HK HR := by rw [← hh]; exact same_upd nR
    have hR : HR R = some (.lst ((xs.take j ++ [Txt.join " " ((Txt.split x " ").set i u)] ++ xs.drop (j + 1)).map V.str)) := by rw [← hh, upd_same, ← List.map_append]
    clear hh
    have sFK := sA.trans (sC.trans (sE.trans sG))
    have Rf := sFK.free nR
    exact q R _ _ (b0F.trans (.of_same (sFK.trans sR))) (b0F.free (pF.ne_p Rf) Rf) hR (by rw [List.append_assoc]; exact ls.mid (by omega) pw1 pw2 pw3) ((pF.keep (sFK.trans sR)).mono (by omega))
end
abbrev sAny : Stmt := top 43
/-! ### _law_any: some data, new, of few levels -/
def anyCost : Nat → Nat
  | 0 => 1
  | l + 1 => 2 + 3 * anyCost l
def anyB : Nat → Nat
  | 0 => 64
  | l + 1 => 3 * (anyB l + 30) + 30
/-- what the call hands back: data that stands apart from all that was tracked -/
def spAny (K : PySem.W.Frag) (lv : Nat) : Sp := fun vs H Q _ => ∃ (p c : Addr) (n : Nat) (m : List V), vs = [.ref p, .int lv] ∧ Pen H p c n m ∧ n + anyCost lv ≤ PB ∧
  ∀ (v : V) (d : PyData) (H' : Hp), But p H H' → Pen H' p c (n + anyCost lv) m → Dr K H' (fun a => H a = none) v d → OkD lv (anyB lv) d → (∀ x, v = .str x → x.length ≤ 100) → Q v H'
def menuL : List V := [.int 0, .int 1, .int (-1), .bl true, .non, .str "", .str "0", .str "a", .str "aA", .int (10 ^ 39), .str "10"]
theorem menu_get {K : PySem.W.Frag} {H : Hp} {N : Addr → Prop} (r : Int) (h0 : 0 ≤ r) (h1 : r < 11) : ∃ v d, atI menuL r = some v ∧ Dr K H N v d ∧ OkD 0 64 d ∧ ∀ x, v = .str x → x.length ≤ 100 := by
  obtain rfl | rfl | rfl | rfl | rfl | rfl | rfl | rfl | rfl | rfl | rfl : r = 0 ∨ r = 1 ∨ r = 2 ∨ r = 3 ∨ r = 4 ∨ r = 5 ∨ r = 6 ∨ r = 7 ∨ r = 8 ∨ r = 9 ∨ r = 10 := by omega
  · exact ⟨_, _, rfl, .int _, ⟨by decide +kernel, by decide +kernel, by decide +kernel⟩, fun _ e => nomatch e⟩
  · exact ⟨_, _, rfl, .int _, ⟨by decide +kernel, by decide +kernel, by decide +kernel⟩, fun _ e => nomatch e⟩
  · exact ⟨_, _, rfl, .int _, ⟨by decide +kernel, by decide +kernel, by decide +kernel⟩, fun _ e => nomatch e⟩
  · exact ⟨_, _, rfl, .bl _, ⟨by decide +kernel, by decide +kernel, by decide +kernel⟩, fun _ e => nomatch e⟩
  · exact ⟨_, _, rfl, .non, ⟨by decide +kernel, by decide +kernel, by decide +kernel⟩, fun _ e => nomatch e⟩
  · exact ⟨_, _, rfl, .str _, ⟨by decide +kernel, by decide +kernel, by decide +kernel⟩, fun x e => by cases e; decide +kernel⟩
  · exact ⟨_, _, rfl, .str _, ⟨by decide +kernel, by decide +kernel, by decide +kernel⟩, fun x e => by cases e; decide +kernel⟩
  · exact ⟨_, _, rfl, .str _, ⟨by decide +kernel, by decide +kernel, by decide +kernel⟩, fun x e => by cases e; decide +kernel⟩
  · exact ⟨_, _, rfl, .str _, ⟨by decide +kernel, by decide +kernel, by decide +kernel⟩, fun x e => by cases e; decide +kernel⟩
  · exact ⟨_, _, rfl, .int _, ⟨by decide +kernel, by decide +kernel, by decide +kernel⟩, fun _ e => nomatch e⟩
  · exact ⟨_, _, rfl, .str _, ⟨by decide +kernel, by decide +kernel, by decide +kernel⟩, fun x e => by cases e; decide +kernel⟩
section
variable {P : Program} {w : World} {K : PySem.W.Frag} {mg : Str → Option Value} {base : Heap}
theorem scAny : FnScope ["pen", "levels", "road", "parts", "turn", "k"] ["pen", "levels"] (defScope sAny) := ⟨rfl, rfl, rfl, by decide +kernel, rfl, by decide +kernel, by decide +kernel⟩
theorem ok_any0 {f fD : Addr} {fd fdD : FuncData} {k : Nat} (F : Fun K "_law_any" "_law_any" sAny f fd) (GD : FnOk P w K mg base CX0 k fD fdD ["pen", "below"] spDraw) (FD : Fun K "_law_draw" "_law_draw" sDraw fD fdD) (bD : Binds K fdD ["pen", "below"] []) (gD : mg "_law_draw" = some (.ref fD)) :
    FnOk P w K mg base CX0 (k + 1) f fd ["pen", "levels"] (spAny K 0) := by
  refine F.ok scAny (fun vs H Q E h => ?_) (fun cdv A outer s H vs Q E hr h => ?_)
  · obtain ⟨p, c, n, m, rfl, _⟩ := h
    rfl
  · obtain ⟨p, c, n, m, rfl, hp, hn, q⟩ := h
    have nd := scAny.nd
    refine ⟨_, pss_cons (ps_set (i := 2) nd rfl (.inl rfl) (pe_call GD hr (by rfl) gD FD.kp bD .nil pass0 (pa_cons (pv 0) (pa_cons (pe_ifExp (pt_cmpR op_gt (pv 1) pe_int (nomark _)) pe_int pe_int) pa_nil))))
      (pss_cons (ps_if (pt_cmpR op_lt (pv 2) pe_int (nomark _)) (pss_one (ps_ret (pe_ix ix_list (pe_lst (pa_cons pe_int (pa_cons pe_int (pa_cons (pe_un un_neg pe_int) (pa_cons pe_bl (pa_cons pe_non (pa_cons pe_str (pa_cons pe_str
          (pa_cons pe_str (pa_cons pe_str (pa_cons (pe_op op_pow pe_int pe_int) (pa_cons pe_str pa_nil)))))))))))) (pv 2) (fun _ _ => rfl)))) pss_nil)
      (pss_cons ps_never (pss_cons ps_never (pss_cons ps_never (pss_one ps_never))))), ?_⟩
    refine ⟨.ref p, rfl, .int 0, rfl, _, _, rfl, rfl, _, rfl, iteF ?_⟩
    refine ⟨p, c, n, m, 11, rfl, hp, by have : n + 1 ≤ PB := hn; omega, by decide, by decide, fun r H1 r0 r1 b1 p1 => ?_⟩
    refine ⟨.int r, rfl, _, _, rfl, rfl, _, rfl, ite2 (fun _ => ?_) (fun e => absurd (decide_eq_true r1) e)⟩
    refine ⟨_, rfl, _, _, rfl, rfl, ⟨by decide, by decide, by decide⟩, by show 11 ≤ sizeLine; decide, fun l nl => ?_⟩
    have s2 : Same H1 (upd H1 l (.lst menuL)) := same_upd nl
    obtain ⟨v, d, hv, hd, hok, hx⟩ := menu_get (K := K) (H := upd H1 l (.lst menuL)) (N := fun a => H a = none) r r0 r1
    refine ⟨.int r, rfl, l, menuL, r, v, rfl, rfl, SqL.of upd_same, hv, ?_⟩
    exact q v d _ (b1.trans (.of_same s2)) (p1.keep s2) hd hok hx
end
def keysL : List Key := [.inr "a", .inr "b", .inr "c", .inl 0]
theorem keysL_nd : keysL.Nodup := by decide +kernel
theorem keysL_ok {k : Key} (h : k ∈ keysL) : OkD 0 8 (keyD k) := by
  simp only [keysL, List.mem_cons, List.not_mem_nil, or_false] at h
  obtain rfl | rfl | rfl | rfl := h <;> exact ⟨by decide +kernel, by decide +kernel, by decide +kernel⟩
section
variable {P : Program} {w : World} {K : PySem.W.Frag} {mg : Str → Option Value} {base : Heap}
theorem ok_anyS {f fD : Addr} {fd fdD : FuncData} {k l : Nat} (F : Fun K "_law_any" "_law_any" sAny f fd) (GA : FnOk P w K mg base CX0 k f fd ["pen", "levels"] (spAny K l)) (bA : Binds K fd ["pen", "levels"] []) (gA : mg "_law_any" = some (.ref f))
    (GD : FnOk P w K mg base CX0 k fD fdD ["pen", "below"] spDraw) (FD : Fun K "_law_draw" "_law_draw" sDraw fD fdD) (bD : Binds K fdD ["pen", "below"] []) (gD : mg "_law_draw" = some (.ref fD))
    (mr : mg "range" = none) (md : mg "dict" = none) (ml : mg "len" = none) (mt : mg "tuple" = none) :
    FnOk P w K mg base CX0 (k + 1) f fd ["pen", "levels"] (spAny K (l + 1)) := by
  refine F.ok scAny (fun vs H Q E h => ?_) (fun cdv A outer s H vs Q E hr h => ?_)
  · obtain ⟨p, cc, n, m, rfl, _⟩ := h
    rfl
  · obtain ⟨p, cc, n, m, rfl, hp, hn, q⟩ := h
    have nd := scAny.nd
    refine ⟨_, pss_cons (ps_set (i := 2) nd rfl (.inl rfl) (pe_call GD hr (by rfl) gD FD.kp bD .nil pass0 (pa_cons (pv 0) (pa_cons (pe_ifExp (pt_cmpR op_gt (pv 1) pe_int (nomark _)) pe_int pe_int) pa_nil))))
      (pss_cons (ps_if (pt_cmpR op_lt (pv 2) pe_int (nomark _)) (pss_one (ps_ret (pe_ix ix_list (pe_lst (pa_cons pe_int (pa_cons pe_int (pa_cons (pe_un un_neg pe_int) (pa_cons pe_bl (pa_cons pe_non (pa_cons pe_str (pa_cons pe_str
          (pa_cons pe_str (pa_cons pe_str (pa_cons (pe_op op_pow pe_int pe_int) (pa_cons pe_str pa_nil)))))))))))) (pv 2) (fun _ _ => rfl)))) pss_nil)
      (pss_cons (ps_set (i := 3) nd rfl (.inr rfl) (pe_lc (own := [("turn", 4)]) (g := gName 4) (tt := tYes) rfl nd
          (pi_range1 (by rfl) mr (pa_cons (pe_call GD hr (by rfl) gD FD.kp bD .nil pass0 (pa_cons (pv 0) (pa_cons pe_int pa_nil))) pa_nil))
          (blkOk_by (N := ["pen", "levels", "road", "parts", "turn", "k"]) (sc := defScope sAny) (by decide +kernel)) (fun _ _ _ _ _ => pg_name (i := 4) nd rfl (.inl rfl)) (fun _ _ _ _ _ => pts_nil)
          (fun _ _ _ _ _ => pe_call GA hr (by rfl) gA F.kp bA .nil pass0 (pa_cons (pv 0) (pa_cons (pe_op op_sub (pv 1) pe_int) pa_nil)))))
      (pss_cons (ps_if (pt_cmpR op_eq (pv 2) pe_int (nomark _)) (pss_one (ps_ret (pv 3))) pss_nil)
      (pss_cons (ps_if (pt_cmpR op_eq (pv 2) pe_int (nomark _)) (pss_one (ps_ret (pe_callTy (call_dictP rfl) (by rfl) md (by decide +kernel) (pa_cons
          (pe_lc (own := [("k", 5)]) (g := gName 5) (tt := tYes) rfl nd (pi_range1 (by rfl) mr (pa_cons (pe_callB call_len_seq (by rfl) ml PySem.boot_len (pa_cons (pv 3) pa_nil)) pa_nil))
            (blkOk_by (N := ["pen", "levels", "road", "parts", "turn", "k"]) (sc := defScope sAny) (by decide +kernel)) (fun _ _ _ _ _ => pg_name (i := 5) nd rfl (.inl rfl)) (fun _ _ _ _ _ => pts_nil)
            (fun _ _ _ _ _ => pe_tup (pa_cons (pe_ix (r := rIxL K) ix_list (pe_lst (pa_cons pe_str (pa_cons pe_str (pa_cons pe_str (pa_cons pe_int pa_nil))))) (pv 5) (fun _ _ => rfl)) (pa_cons (pe_ix (r := rIxL K) ix_list (pv 3) (pv 5) (fun _ _ => rfl)) pa_nil)))) pa_nil)))) pss_nil)
      (pss_one (ps_ret (pe_callTy call_tuple_of (by rfl) mt (by decide +kernel) (pa_cons (pv 3) pa_nil)))))))), ?_⟩
    have hn' : n + (2 + 3 * anyCost l) ≤ PB := hn
    refine ⟨.ref p, rfl, .int ((l + 1 : Nat) : Int), rfl, _, _, rfl, rfl, _, rfl, ?_⟩
    rw [show decide ((0 : Int) < ((l + 1 : Nat) : Int)) = true from decide_eq_true (by omega)]
    refine iteT ⟨p, cc, n, m, 15, rfl, hp, by omega, by decide, by decide, fun r H1 r0 r1 b1 p1 => ?_⟩
    refine ⟨.int r, rfl, _, _, rfl, rfl, _, rfl, ite2 (fun e => ?_) (fun e => ?_)⟩
    · have r11 : r < 11 := of_decide_eq_true e
      refine ⟨_, rfl, _, _, rfl, rfl, ⟨by decide, by decide, by decide⟩, by show 11 ≤ sizeLine; decide, fun l' nl => ?_⟩
      have s2 : Same H1 (upd H1 l' (.lst menuL)) := same_upd nl
      obtain ⟨v, d, hv, hd, hok, hx⟩ := menu_get (K := K) (H := upd H1 l' (.lst menuL)) (N := fun a => H a = none) r r0 r11
      refine ⟨.int r, rfl, l', menuL, r, v, rfl, rfl, SqL.of upd_same, hv, ?_⟩
      refine q v d _ (b1.trans (.of_same s2)) ((p1.keep s2).mono ?_) hd (hok.mono (Nat.zero_le _) ?_) hx
      · show n + 1 ≤ n + (2 + 3 * anyCost l)
        omega
      · show 64 ≤ 3 * (anyB l + 30) + 30
        omega
    · -- parts
      refine ⟨.ref p, rfl, p, cc, n + 1, m, 4, rfl, p1, by omega, by decide, by decide, fun c H2 c0 c1 b2 p2 => ?_⟩
      refine ⟨c, rfl, by omega, by omega, fun D nD => ?_⟩
      have b12 : But p H H2 := b1.trans b2
      have nDp : D ≠ p := p2.ne_p nD
      have nDc : D ≠ cc := p2.ne_c nD
      have hD0 : H D = none := b12.free nDp nD
      refine lc_range (n := c.toNat) (fun i H' => ∃ vs ds, H' D = some (.lst vs) ∧ vs.length = i ∧ DrAll K H' (fun a => H a = none ∧ a ≠ D) vs ds ∧ (∀ d ∈ ds, OkD l (anyB l) d) ∧ But p H H' ∧ Pen H' p cc (n + 2 + i * anyCost l) m) ?_ ?_ ?_
      · refine ⟨[], [], upd_same, rfl, .nil, fun _ h => absurd h List.not_mem_nil, b12.trans (.of_same (same_upd nD)), (p2.keep (same_upd nD)).mono (by omega)⟩
      · rintro i H' hi ⟨vs, ds, hD, hl, hall, hok, bH, pH⟩
        refine ⟨rfl, yes_if ?_⟩
        have hc : i * anyCost l + anyCost l ≤ 3 * anyCost l := by
          have : (i + 1) * anyCost l ≤ 3 * anyCost l := Nat.mul_le_mul_right _ (by omega)
          rw [Nat.succ_mul] at this
          exact this
        refine ⟨.ref p, rfl, .int ((l + 1 : Nat) : Int), rfl, _, _, rfl, rfl, p, cc, n + 2 + i * anyCost l, m, ?_, pH, by omega, fun v d H3 b3 p3 hd hdk hx => ?_⟩
        · have e : ((l + 1 : Nat) : Int) - 1 = (l : Int) := by omega
          show [V.ref p, V.int (((l + 1 : Nat) : Int) - 1)] = _
          rw [e]
        have old : ∀ a, H' a = none → H a = none ∧ a ≠ D := fun a ha => ⟨bH.free (pH.ne_p ha) ha, fun e => by rw [e, hD] at ha; cases ha⟩
        have hD3 : H3 D = some (.lst vs) := b3 D _ nDp hD
        refine ⟨vs, hD3, Nat.lt_of_le_of_lt (show vs.length ≤ 1000 by omega) (by decide), vs ++ [v], ds ++ [d], upd_same, by rw [List.length_append, hl]; rfl, ?_, ?_, ?_, ?_⟩
        · refine DrAll.snoc ?_ ?_
          · refine hd.move (fun a o ha e => ?_) old
            rw [upd_ne (old a ha).2]
            exact e
          · refine hall.move (fun a o ha e => ?_) fun _ h => h
            rw [upd_ne ha.2]
            exact b3 a o (hp.ne_p ha.1) e
        · intro x hx
          rcases List.mem_append.mp hx with hx | hx
          · exact hok x hx
          · rw [List.mem_singleton.mp hx]
            exact hdk
        · intro a o na ha
          have naD : a ≠ D := fun e' => by
            rw [e', hD0] at ha
            cases ha
          rw [upd_ne naD]
          exact b3 a o na (bH a o na ha)
        · have e : n + 2 + (i + 1) * anyCost l = n + 2 + i * anyCost l + anyCost l := by rw [Nat.succ_mul]; omega
          rw [e]
          exact p3.off nDp nDc
      · rintro H' ⟨vs, ds, hD, hl, hall, hok, bH, pH⟩
        have hl3 : vs.length ≤ 3 := by omega
        have hds : ds.length = vs.length := hall.len.symm
        have pE : Pen H' p cc (n + anyCost (l + 1)) m := pH.mono (by
          have : c.toNat * anyCost l ≤ 3 * anyCost l := Nat.mul_le_mul_right _ (by omega)
          show _ ≤ n + (2 + 3 * anyCost l)
          omega)
        have hall' : DrAll K H' (fun a => H a = none) vs ds := hall.move (fun _ _ _ e => e) fun _ h => h.1
        refine ⟨.int r, rfl, rfl, _, rfl, ite2 (fun _ => ?_) (fun _ => ?_)⟩
        · refine ⟨.ref D, rfl, q (.ref D) (.list ds) H' bH pE (.lst hD0 (SqL.of hD) hall') ((OkD.list (n := 3) (by omega) hok).mono (Nat.le_refl _) ?_) fun _ e => nomatch e⟩
          show 3 * (anyB l + 2) + 2 ≤ 3 * (anyB l + 30) + 30
          omega
        refine ⟨.int r, rfl, rfl, _, rfl, ite2 (fun _ => ?_) (fun _ => ?_)⟩
        · have hsz : vs.length < 100 := by omega
          refine ⟨.ref D, rfl, D, vs, rfl, .inl (SqL.of hD), (vs.length : Int), rfl, by omega, by omega, fun G nG => ?_⟩
          have nGD : D ≠ G := ne_of_none hD nG
          refine lc_range (n := ((vs.length : Nat) : Int).toNat) (fun i H'' => ∃ ps : List Addr, H'' G = some (.lst (ps.map V.ref)) ∧ ps.length = i ∧ Paired (fun a kv => SqT K H'' a [kV kv.1, kv.2]) ps ((keysL.zip vs).take i) ∧ Same H' H'') ?_ ?_ ?_
          · exact ⟨[], upd_same, rfl, .nil, same_upd nG⟩
          · rintro i H'' hi ⟨ps, hG, hpl, hps, sm⟩
            have hiv : i < vs.length := hi
            refine ⟨rfl, yes_if ?_⟩
            refine ⟨by show 4 ≤ sizeLine; decide, fun b nb => ?_⟩
            have s1 : Same H'' (upd H'' b (.lst [.str "a", .str "b", .str "c", .int 0])) := same_upd nb
            have hk : ∃ key, keysL[i]? = some key ∧ ([.str "a", .str "b", .str "c", .int 0] : List V)[i]? = some (kV key) := by
              obtain rfl | rfl | rfl : i = 0 ∨ i = 1 ∨ i = 2 := by omega
              · exact ⟨_, rfl, rfl⟩
              · exact ⟨_, rfl, rfl⟩
              · exact ⟨_, rfl, rfl⟩
            obtain ⟨key, k1, k2⟩ := hk
            have hv : vs[i]? = some vs[i] := List.getElem?_eq_getElem hiv
            refine ⟨.int (0 + i), rfl, b, _, _, kV key, rfl, rfl, SqL.of upd_same, at_of (Int.zero_add _) k2, .ref D, rfl, .int (0 + i), rfl, D, vs, _, vs[i], rfl, rfl, SqL.of (s1 _ _ (sm _ _ hD)), at_of (Int.zero_add _) hv, by show 2 ≤ sizeLine; decide, fun t nt => ?_⟩
            have s2 := same_upd (o := .tup [kV key, vs[i]]) nt
            have hG2 := s2 _ _ (s1 _ _ hG)
            have ntG : t ≠ G := fun e => by rw [e, s1 _ _ hG] at nt; cases nt
            have zg : (keysL.zip vs)[i]? = some (key, vs[i]) := by
              rw [List.getElem?_zip_eq_some]
              exact ⟨k1, hv⟩
            refine ⟨_, hG2, Nat.lt_of_le_of_lt (show (ps.map V.ref).length ≤ 1000 by rw [List.length_map]; omega) (by decide), ps ++ [t], by rw [upd_same, List.map_append]; rfl, by rw [List.length_append, hpl]; rfl, ?_, ?_⟩
            · rw [List.take_add_one, zg]
              refine Paired.snoc (hps.mono fun a kv h => ?_) ?_
              · have h2 := h
                rcases h with (h | ⟨o, h⟩) | h
                · have na : a ≠ G := ne_of h hG (fun e => nomatch e)
                  exact .inl (.inl (by rw [upd_ne na]; exact s2 _ _ (s1 _ _ h)))
                · have na : a ≠ G := ne_of h hG (fun e => nomatch e)
                  exact .inl (.inr ⟨o, by rw [upd_ne na]; exact s2 _ _ (s1 _ _ h)⟩)
                · exact .inr h
              · refine .inl (.inl ?_)
                rw [upd_ne ntG, upd_same]
            · intro a o ha
              have naG : a ≠ G := ne_of_none ha nG
              rw [upd_ne naG]
              exact s2 _ _ (s1 _ _ (sm _ _ ha))
          · rintro H'' ⟨ps, hG, hpl, hps, sm⟩
            have ez : (keysL.zip vs).take ((vs.length : Nat) : Int).toNat = keysL.zip vs := List.take_of_length_le (by
              rw [List.length_zip]
              show min 4 vs.length ≤ vs.length
              omega)
            rw [ez] at hps
            refine ⟨G, ps, keysL.zip vs, rfl, SqL.of hG, hps, fun b nb => ?_⟩
            have em : mergeK [] (keysL.zip vs) = keysL.zip vs := by
              rw [mergeK_nd _ _ (by rw [List.nil_append]; exact nodup_zip keysL_nd vs), List.nil_append]
            rw [em]
            have s3 : Same H' (upd H'' b (.dK (keysL.zip vs))) := sm.trans (same_upd nb)
            have bH3 : But p H (upd H'' b (.dK (keysL.zip vs))) := bH.trans (.of_same s3)
            have pE3 := pE.keep s3
            have hb0 : H b = none := (bH.trans (.of_same sm)).free ((pE.keep sm).ne_p nb) nb
            refine q (.ref b) (.dict ((keysL.map keyD).zip ds)) _ bH3 pE3 (.dic hb0 (.inl upd_same) (DrKv.zip keysL (hall'.move (fun a o _ e => s3 a o e) fun _ h => h))) ((OkD.dict (n := 3) (C := 8) (B := anyB l) ?_ fun d hd => ?_).mono (Nat.le_refl _) ?_) fun _ e => nomatch e
            · rw [List.length_zip]
              omega
            · obtain ⟨h1, h2⟩ := List.of_mem_zip hd
              obtain ⟨key, hk, e⟩ := List.mem_map.mp h1
              rw [← e]
              exact ⟨(keysL_ok hk).mono (Nat.zero_le _) (Nat.le_refl _), hok _ h2⟩
            · show 3 * (8 + anyB l + 4) + 2 ≤ 3 * (anyB l + 30) + 30
              omega
        · refine ⟨.ref D, rfl, D, vs, rfl, .inl ⟨SqL.of hD, fun b nb => ?_⟩⟩
          have s3 : Same H' (upd H' b (.tup vs)) := same_upd nb
          refine q (.ref b) (.tuple ds) _ (bH.trans (.of_same s3)) (pE.keep s3) (.tup (bH.free (pE.ne_p nb) nb) (.inl (.inl upd_same)) (hall'.move (fun a o _ e => s3 a o e) fun _ h => h)) ((OkD.tuple (n := 3) (by omega) hok).mono (Nat.le_refl _) ?_) fun _ e => nomatch e
          show 3 * (anyB l + 2) + 3 ≤ 3 * (anyB l + 30) + 30
          omega
end
theorem join_low {y : Str} {ps : List Str} (hy : ∀ c ∈ sg y, c < 128) (hp : ∀ p ∈ ps, ∀ c ∈ sg p, c < 128) : ∀ c ∈ sg (Txt.join y ps), c < 128 := fun c h => by
  rw [TL.join_eq] at h
  have h' : c ∈ TL.tl (Str.join y ps) := h
  rw [TL.tl_join] at h'
  rcases mem_joinL h' with h | ⟨p, hm, h⟩
  · exact hy c h
  · obtain ⟨x, hx, rfl⟩ := List.mem_map.mp hm
    exact hp x hx c h

theorem wish3 (i : Nat) (hi : i < 3) : ∃ t : Bool, atI [V.str "table", .str "wish", .str "wish"] ((0 : Int) + (i : Nat)) = some (.str (wordB t)) := by
  obtain rfl | rfl | rfl : i = 0 ∨ i = 1 ∨ i = 2 := by omega
  · exact ⟨true, rfl⟩
  · exact ⟨false, rfl⟩
  · exact ⟨false, rfl⟩
def Tn : Nat → Nat
  | 0 => 29421
  | i + 1 => 3 * Tn i + 5003
theorem Tn_lt {i : Nat} (h : i < 3) : Tn i ≤ 300000 := by
  obtain rfl | rfl | rfl : i = 0 ∨ i = 1 ∨ i = 2 := by omega
  · decide
  · decide
  · decide
theorem Tn_le {i : Nat} (h : i ≤ 3) : Tn i ≤ 900000 := by
  obtain rfl | rfl | rfl | rfl : i = 0 ∨ i = 1 ∨ i = 2 ∨ i = 3 := by omega
  · decide
  · decide
  · decide
  · decide
def Itm (K : PySem.W.Frag) (N : Addr → Prop) (H : Hp) (v : V) : Prop := ∃ d, Dr K H N v d ∧ OkD 5 60000 d
theorem Itm.same {K : PySem.W.Frag} {N : Addr → Prop} {H H' : Hp} {v : V} (k : Same H H') (h : Itm K N H v) : Itm K N H' v := by
  obtain ⟨d, h1, h2⟩ := h
  exact ⟨d, h1.move (fun a o _ e => k a o e) (fun _ q => q), h2⟩
theorem okd_small {k : Nat} (h : k ≤ 100) : OkD 0 1000 (.int (k : Nat)) := by
  have : ∀ k : Fin 101, (PyData.int ((k.val : Nat) : Int)).showable = true ∧ (PyData.int ((k.val : Nat) : Int)).depth ≤ 0 ∧ (PyData.int ((k.val : Nat) : Int)).shown.length ≤ 1000 := by decide +kernel
  obtain ⟨h1, h2, h3⟩ := this ⟨k, by omega⟩
  exact ⟨h1, h2, h3⟩
theorem first_ls {t : Bool} {z : Nat} {ws : WRows} (z32 : z ≤ 32) (can : Can z ws) (few : ws.length ≤ 20) (l5 : ∀ r ∈ ws, r.2.length ≤ 5) : Ls (headW (wordB t) z :: ws.map lineW) 21 5 29421 := by
  have rok : ∀ r ∈ ws, isBits r.1 = true ∧ r.1.length ≤ z ∧ OkL isT r.2 := fun r hr => by
    have hm : r.1 ∈ ws.map (·.1) := List.mem_map.mpr ⟨r, hr, rfl⟩
    exact ⟨can.ok.pfx.bits _ hm, can.ok.pfx.len _ hm, can.ok.ok r hr⟩
  have len : ∀ x ∈ headW (wordB t) z :: ws.map lineW, x.length ≤ 1400 := fun x hx => by
    rcases List.mem_cons.mp hx with rfl | hx
    · have := head_len (t := t) z32
      omega
    · obtain ⟨r, hr, rfl⟩ := List.mem_map.mp hx
      obtain ⟨h1, h2, h3⟩ := rok r hr
      exact lineW_len h3 (by omega)
  refine ⟨by rw [List.length_cons, List.length_map]; omega, ?_, fun x hx => ?_, fun x hx => ?_⟩
  · have := tot_le len
    rw [List.length_cons, List.length_map] at this
    have h2 : (ws.length + 1) * (1400 + 1) ≤ 21 * 1401 := Nat.mul_le_mul_right _ (by omega)
    omega
  · have e := (split_sp x).1
    rcases List.mem_cons.mp hx with rfl | hx
    · rw [head_split] at e
      have e : 2 = (sg (headW (wordB t) z)).count 32 + 1 := e
      omega
    · obtain ⟨r, hr, rfl⟩ := List.mem_map.mp hx
      obtain ⟨h1, h2, h3⟩ := rok r hr
      rw [line_split h1 h3, List.length_cons, List.length_map] at e
      have := l5 r hr
      omega
  · rcases List.mem_cons.mp hx with rfl | hx
    · have h1 : ∀ k : Fin 33, ∀ t : Bool, ∀ c ∈ sg (headW (wordB t) k), c < 128 ∧ c ≠ 10 := by decide +kernel
      exact h1 ⟨z, by omega⟩ t
    · obtain ⟨r, hr, rfl⟩ := List.mem_map.mp hx
      obtain ⟨h1, h2, h3⟩ := rok r hr
      intro c hc
      refine ⟨?_, fun e => line_free h1 h3 (by rw [← e]; exact hc)⟩
      refine join_low (by decide) (fun q hq c hc => ?_) c hc
      rcases List.mem_cons.mp hq with rfl | hq
      · unfold hd0 at hc
        split at hc
        · have : c ∈ [42] := hc
          rw [List.mem_singleton.mp this]
          decide
        · rcases bits_iff.mp h1 c hc with e | e <;> omega
      · obtain ⟨o, ho, rfl⟩ := List.mem_map.mp hq
        cases o with
        | none =>
          have : c ∈ [45] := hc
          rw [List.mem_singleton.mp this]
          decide
        | some u =>
          have := (t_signs (h3.tg _ ho)).1 c hc
          omega
/-- the text of lines, and the lines of the text -/
theorem text_ls {xs : List Str} {N W T : Nat} (h : Ls xs N W T) (hN : N ≤ 59) (hW : W ≤ 40) (hT : T ≤ 900000) : FinT (Txt.join (Str.ofString "\n") xs) ∧ (∀ b ∈ Txt.split (Txt.join (Str.ofString "\n") xs) (Str.ofString "\n"), b.length ≤ 1000000) ∧ Txt.split (Txt.join (Str.ofString "\n") xs) (Str.ofString "\n") ≠ [] ∧ (xs.map (·.length)).sum + xs.length * Str.length (Str.ofString "\n") ≤ 16777216 := by
  have jl := (join1_len (y := Str.ofString "\n") (s := 10) rfl xs).1
  have hlen : (Txt.join (Str.ofString "\n") xs).length ≤ 900000 := Nat.le_trans jl (Nat.le_trans h.tt hT)
  have low : ∀ c ∈ sg (Txt.join (Str.ofString "\n") xs), c < 128 := join_low (by decide) fun p hp c hc => (h.ch p hp c hc).1
  have sp : xs ≠ [] → Txt.split (Txt.join (Str.ofString "\n") xs) (Str.ofString "\n") = xs := fun ne => TL.split_join (y := Str.ofString "\n") (s := 10) (S := []) rfl (by decide +kernel) ne fun p hp hc => (h.ch p hp 10 hc).2 rfl
  have cases' : Txt.split (Txt.join (Str.ofString "\n") xs) (Str.ofString "\n") = xs ∨ Txt.split (Txt.join (Str.ofString "\n") xs) (Str.ofString "\n") = [("" : Str)] := by
    by_cases ne : xs = []
    · subst ne
      exact .inr (by decide +kernel)
    · exact .inl (sp ne)
  refine ⟨⟨⟨by omega, low⟩, ?_, fun b hb => ?_⟩, fun b hb => Nat.le_trans (part_of hb).1 (by omega), fun e => ?_, ?_⟩
  · rcases cases' with e | e
    · rw [e]
      have := h.few
      omega
    · rw [e]
      decide
  · rw [(split_sp b).1]
    rcases cases' with e | e
    · rw [e] at hb
      have := h.sp b hb
      omega
    · rw [e] at hb
      rw [List.mem_singleton.mp hb]
      decide +kernel
  · have := (split_nl (Txt.join (Str.ofString "\n") xs)).1
    rw [e] at this
    cases this
  · have h3 : (xs.map (·.length)).sum + xs.length = tot xs := by
      unfold tot
      clear jl hlen low sp cases' h
      induction xs with
      | nil => rfl
      | cons a r ih => rw [List.map_cons, List.sum_cons, List.length_cons, List.map_cons, List.sum_cons, ← ih]; omega
    rw [show Str.length (Str.ofString "\n") = 1 by decide, Nat.mul_one, h3]
    have := h.tt
    omega
theorem rowsB_lt {t : Bool} {z : Nat} : ∀ (bs : List Str) (last : Option Str) (j k : Nat), rowsB t z last j bs = some k → k < j + bs.length
  | [], _, _, _, h => by cases h
  | b :: bs, last, j, k, h => by
    have h' : (if rfB t z last (Txt.split b " ") then rowsB t z (some (bk0 ((Txt.split b " ").getD 0 ""))) (j + 1) bs else some j) = some k := h
    rw [List.length_cons]
    split at h'
    · have := rowsB_lt bs _ _ _ h'
      omega
    · have := Option.some.inj h'
      omega
theorem outB_lt {ls : List Str} {k : Nat} (h : outB ls = some k) : k ≤ ls.length := by
  cases ls with
  | nil =>
    have : some 0 = some k := h
    have := Option.some.inj this
    omega
  | cons a bs =>
    have h' : (match hfW (Txt.split a " ") with
      | none => some 0
      | some q => rowsB q.1 q.2 none 1 bs) = some k := h
    rw [List.length_cons]
    split at h'
    · have := Option.some.inj h'
      omega
    · have := rowsB_lt bs _ _ _ h'
      omega
def finals : List Str := ["", "\n", "table 2\n", "table  2", " table 2", "table 2 ", "wish 1\n ", "wish 1\n* a a", "wish 1\n* a -", "table 1\n*"]
theorem finals_out : finals.map (fun t => outB (Txt.split t (Str.ofString "\n"))) = [some 0, some 0, some 1, some 0, some 0, some 0, some 1, some 1, some 1, some 1] := by decide +kernel
theorem finals_some : ∀ t ∈ finals, (outB (Txt.split t (Str.ofString "\n"))).isSome = true := by decide +kernel
theorem finals_val : (finals.map fun t => oV t (outB (Txt.split t (Str.ofString "\n")))) = [.int 0, .int 0, .int 1, .int 0, .int 0, .int 0, .int 1, .int 1, .int 1, .int 1] := by
  have e : (finals.map fun t => oV t (outB (Txt.split t (Str.ofString "\n")))) = (finals.map fun t => outB (Txt.split t (Str.ofString "\n"))).map kN := by
    rw [List.map_map]
    refine List.map_congr_left fun t ht => ?_
    obtain ⟨k, hk⟩ := Option.isSome_iff_exists.mp (finals_some t ht)
    show oV t (outB _) = kN (outB _)
    rw [hk]
    rfl
  rw [e, finals_out]
  rfl
def finD (t : Str) : Bool := decide (t.length ≤ 1000000) && ((sg t).all fun c => decide (c < 128)) && decide ((Txt.split t (Str.ofString "\n")).length ≤ 60) && (Txt.split t (Str.ofString "\n")).all fun b => decide ((Txt.split b " ").length ≤ 41)
theorem fin_of {t : Str} (h : finD t = true) : FinT t := by
  unfold finD at h
  rw [Bool.and_eq_true, Bool.and_eq_true, Bool.and_eq_true, decide_eq_true_iff, decide_eq_true_iff, List.all_eq_true, List.all_eq_true] at h
  exact ⟨⟨h.1.1.1, fun c hc => of_decide_eq_true (h.1.1.2 c hc)⟩, h.1.2, fun b hb => of_decide_eq_true (h.2 b hb)⟩
theorem finals_fin : ∀ t ∈ finals, FinT t := fun t ht => fin_of ((by decide +kernel : ∀ t ∈ finals, finD t = true) t ht)
def spLaw (K : PySem.W.Frag) : Sp := fun vs H Q _ => ∃ (a : Addr) (ns : List Int), vs = [.ref a] ∧ SqL K H a (ns.map V.int) ∧ ns.length ≤ 63 ∧ ∀ H', Q (.bl true) H'
abbrev sL : Stmt := top 50
section
variable {P : Program} {w : World} {K : PySem.W.Frag} {mg : Str → Option Value} {base : Heap}
abbrev NL : List Str := ["script", "pen", "turn", "kind", "size", "lines", "more", "some", "change", "line", "odd", "thing", "seen"]
theorem scL : FnScope NL ["script"] (defScope sL) := ⟨rfl, rfl, rfl, by decide +kernel, rfl, by decide +kernel, by decide +kernel⟩
set_option maxHeartbeats 8000000 in
theorem ok_L {f fP fS fRw fTx fDr fCh fFo fOc fAny : Addr} {fd fdP fdS fdRw fdTx fdDr fdCh fdFo fdOc fdAny : FuncData} {k : Nat} (F : Fun K "law" "law" sL f fd) (sys : ∃ mm, base.Ns sysModules mm)
    (GP : FnOk P w K mg base CX0 k fP fdP ["script"] (spPen K))
    (FP : Fun K "_law_pen" "_law_pen" sP fP fdP) (bP : Binds K fdP ["script"] []) (gP : mg "_law_pen" = some (.ref fP))
    (m_range : mg "range" = none)
    (GS : FnOk P w K mg base CX0 k fS fdS ["pen"] spSize)
    (FS : Fun K "_law_size" "_law_size" sS fS fdS) (bS : Binds K fdS ["pen"] []) (gS : mg "_law_size" = some (.ref fS))
    (GRw : FnOk P w K mg base CX0 k fRw fdRw ["pen", "kind", "size", "most"] spLRows)
    (FRw : Fun K "_law_rows" "_law_rows" sRw fRw fdRw) (bRw : Binds K fdRw ["pen", "kind", "size", "most"] []) (gRw : mg "_law_rows" = some (.ref fRw))
    (GTx : FnOk P w K mg base CX0 k fTx fdTx ["kind", "size", "rows_given"] ((spLText K)))
    (FTx : Fun K "_law_text" "_law_text" sTx fTx fdTx) (bTx : Binds K fdTx ["kind", "size", "rows_given"] []) (gTx : mg "_law_text" = some (.ref fTx))
    (GDr : FnOk P w K mg base CX0 k fDr fdDr ["pen", "below"] spDraw)
    (FDr : Fun K "_law_draw" "_law_draw" sDr fDr fdDr) (bDr : Binds K fdDr ["pen", "below"] []) (gDr : mg "_law_draw" = some (.ref fDr))
    (GCh : FnOk P w K mg base CX0 k fCh fdCh ["pen", "lines"] spCh)
    (FCh : Fun K "_law_changed" "_law_changed" sCh fCh fdCh) (bCh : Binds K fdCh ["pen", "lines"] []) (gCh : mg "_law_changed" = some (.ref fCh))
    (GFo : FnOk P w K mg base CX0 k fFo fdFo ["lines"] ((spFo K)))
    (FFo : Fun K "_law_first_odd" "_law_first_odd" sFo fFo fdFo) (bFo : Binds K fdFo ["lines"] []) (gFo : mg "_law_first_odd" = some (.ref fFo))
    (GOc : FnOk P w K mg base CX0 k fOc fdOc ["thing"] ((spOut K)))
    (FOc : Fun K "_law_outcome" "_law_outcome" sOc fOc fdOc) (bOc : Binds K fdOc ["thing"] []) (gOc : mg "_law_outcome" = some (.ref fOc))
    (m_repr : mg "repr" = none)
    (GAny : FnOk P w K mg base CX0 k fAny fdAny ["pen", "levels"] (spAny K 2))
    (FAny : Fun K "_law_any" "_law_any" sAny fAny fdAny) (bAny : Binds K fdAny ["pen", "levels"] []) (gAny : mg "_law_any" = some (.ref fAny))
    (m_str : mg "str" = none)
    (m_isinstance : mg "isinstance" = none)
    : FnG P w K mg base (k + 1) f fd ["script"] (spLaw K) := by
  refine okG F scL (fun vs H Q E h => ?_) (fun cdv A outer s H vs Q g hr h => ?_)
  · obtain ⟨a0, ns, rfl, _⟩ := h
    rfl
  · obtain ⟨a0, ns, rfl, hS, hlen, q⟩ := h
    have nd := scL.nd
    have hu := hr.units
    have hu1 := hu_of hr
    have hr1 := hr
    refine ⟨_, pss_cons (ps_set (i := 1) nd rfl (.inl rfl) (pe_call GP hr1 (by rfl) gP FP.kp bP .nil pass0 (pa_cons (pv 0) pa_nil)))
      (pss_cons (ps_for PassesOwn.never rfl (pi_range1 (by rfl) m_range (pa_cons pe_int pa_nil)) (pg_name (i := 2) nd rfl (.inl rfl))
        (pss_cons (ps_set (i := 3) nd rfl (.inl rfl) (pe_ix ix_list (pe_lst (pa_cons pe_str (pa_cons pe_str (pa_cons pe_str pa_nil)))) (pv 2) (fun _ _ => rfl)))
        (pss_cons (ps_set (i := 4) nd rfl (.inl rfl) (pe_call GS hr1 (by rfl) gS FS.kp bS .nil pass0 (pa_cons (pv 1) pa_nil)))
        (pss_cons (ps_set (i := 5) nd rfl (.inl rfl) (pe_split (pe_call GTx hr1 (by rfl) gTx FTx.kp bTx .nil pass0 (pa_cons (pv 3) (pa_cons (pv 4) (pa_cons (pe_call GRw hr1 (by rfl) gRw FRw.kp bRw .nil pass0 (pa_cons (pv 1) (pa_cons (pv 3) (pa_cons (pv 4) (pa_cons pe_int pa_nil))))) pa_nil)))) pe_str))
        (pss_one (ps_for PassesOwn.never rfl (pi_range1 (by rfl) m_range (pa_cons pe_int pa_nil)) (pg_name (i := 6) nd rfl (.inl rfl))
          (pss_cons (ps_set (i := 7) nd rfl (.inl rfl) (pv 5))
          (pss_cons (ps_for PassesOwn.never rfl (pi_range1 (by rfl) m_range (pa_cons (pe_op op_add pe_int (pe_call GDr hr1 (by rfl) gDr FDr.kp bDr .nil pass0 (pa_cons (pv 1) (pa_cons pe_int pa_nil)))) pa_nil)) (pg_name (i := 8) nd rfl (.inl rfl))
            (pss_one (ps_set (i := 7) nd rfl (.inl rfl) (pe_ifExp (pt_cmpR (op_neD hu) (pv 7) (pe_lst pa_nil) (nomark _)) (pe_call GCh hr1 (by rfl) gCh FCh.kp bCh .nil pass0 (pa_cons (pv 1) (pa_cons (pv 7) pa_nil))) (pe_lst (pa_cons pe_str pa_nil))))))
          (pss_cons (ps_set (i := 9) nd rfl (.inl rfl) (pe_join pe_str (pv 7)))
          (pss_cons (ps_set (i := 10) nd rfl (.inl rfl) (pe_call GFo hr1 (by rfl) gFo FFo.kp bFo .nil pass0 (pa_cons (pe_split (pv 9) pe_str) pa_nil)))
          (pss_one (ps_if (pt_cmpR op_ne (pe_callB (call_repr g hu sys) (by rfl) m_repr (by decide +kernel) (pa_cons (pe_call GOc hr1 (by rfl) gOc FOc.kp bOc .nil pass0 (pa_cons (pv 9) pa_nil)) pa_nil)) (pe_callB (call_repr g hu sys) (by rfl) m_repr (by decide +kernel) (pa_cons (pe_ifExp (pt_cmpR op_isN (pv 10) pe_non (nomark _)) (pv 9) (pv 10)) pa_nil)) (nomark _))
            (pss_one (ps_ret pe_bl)) pss_nil))))))))))))
      (pss_cons (ps_for PassesOwn.never rfl (pi_list (pe_lst (pa_cons pe_non (pa_cons pe_int (pa_cons pe_bl (pa_cons (pe_lst pa_nil) (pa_cons (pe_tup pa_nil) (pa_cons pe_dnewK (pa_cons (pe_lst (pa_cons pe_str pa_nil)) (pa_cons (pe_call GAny hr1 (by rfl) gAny FAny.kp bAny .nil pass0 (pa_cons (pv 1) (pa_cons pe_int pa_nil))) (pa_cons (pe_op op_pow pe_int pe_int) pa_nil))))))))))) (pg_name (i := 11) nd rfl (.inl rfl))
        (pss_cons (ps_set (i := 12) nd rfl (.inl rfl) (pe_callB (call_repr g hu sys) (by rfl) m_repr (by decide +kernel) (pa_cons (pv 11) pa_nil)))
        (pss_one (ps_if (PW.pt (pw_or (PW.pt (pw_and (pt_not (pt_val (pe_callB call_isi (by rfl) m_isinstance (by decide +kernel) (pa_cons (pv 11) (pa_cons (pe_bltn (v := .ty "str") (by rfl) m_str (by decide +kernel) rfl) pa_nil))))) (pw_and1 (pt_cmpR op_ne (pe_call GOc hr1 (by rfl) gOc FOc.kp bOc .nil pass0 (pa_cons (pv 11) pa_nil)) pe_int (nomark _))))) (pw_or1 (pt_cmpR op_ne (pe_callB (call_repr g hu sys) (by rfl) m_repr (by decide +kernel) (pa_cons (pv 11) pa_nil)) (pv 12) (nomark _)))))
          (pss_one (ps_ret pe_bl)) pss_nil))))
      (pss_cons (ps_set (i := 7) nd rfl (.inl rfl) (pe_lst (pa_cons pe_str (pa_cons pe_str (pa_cons pe_str (pa_cons pe_str (pa_cons pe_str (pa_cons pe_str (pa_cons pe_str (pa_cons pe_str pa_nil))))))))))
      (pss_cons (ps_set (i := 7) nd rfl (.inl rfl) (pe_op op_cat (pv 7) (pe_lst (pa_cons pe_str (pa_cons pe_str pa_nil)))))
      (pss_one (ps_ret (pe_cmpR (op_eqD hu) (pe_lc (own := [("line", 9)]) (g := gName 9) (tt := tYes) rfl nd (pi_list (pv 7)) (blkOk_by (N := NL) (sc := defScope sL) (by decide +kernel)) (fun _ _ _ _ _ => pg_name (i := 9) nd rfl (.inl rfl)) (fun _ _ _ _ _ => pts_nil) (fun _ _ _ _ _ => (pe_call GOc hr1 (by rfl) gOc FOc.kp bOc .nil pass0 (pa_cons (pv 9) pa_nil)))) (pe_lst (pa_cons pe_int (pa_cons pe_int (pa_cons pe_int (pa_cons pe_int (pa_cons pe_int (pa_cons pe_int (pa_cons pe_int (pa_cons pe_int (pa_cons pe_int (pa_cons pe_int pa_nil))))))))))) (nomark _)))))))), ?_⟩
    refine ⟨.ref a0, rfl, a0, ns, rfl, hS, hlen, fun H0 p c sm0 np nc hp => ?_⟩
    refine ⟨3, rfl, by decide, by decide, for_range (n := 3) (fun i σ H' => (∃ x2 x3 x4 x5 x6 x7 x8 x9 x10 x11 x12, σ = [some (.ref a0), some (.ref p), x2, x3, x4, x5, x6, x7, x8, x9, x10, x11, x12]) ∧ ∃ m, m.length ≤ 1 ∧ Pen H' p c (2000 * i) m) ⟨⟨_, _, _, _, _, _, _, _, _, _, _, rfl⟩, [], by decide, hp⟩ ?_ ?_⟩
    · rintro i σ H1 hi ⟨⟨x2, x3, x4, x5, x6, x7, x8, x9, x10, x11, x12, rfl⟩, m, hm, hp1⟩
      obtain ⟨t, hat⟩ := wish3 i hi
      refine ⟨by show 3 ≤ sizeLine; decide, fun KL nKL => ?_⟩
      have s1 := same_upd (o := .lst [.str "table", .str "wish", .str "wish"]) nKL
      have p1 := hp1.keep s1
      refine ⟨.int (0 + i), rfl, KL, _, _, .str (wordB t), rfl, rfl, SqL.of upd_same, hat, ?_⟩
      revert p1
      generalize upd H1 KL (.lst [.str "table", .str "wish", .str "wish"]) = H1'
      intro p1
      clear s1 nKL hat hp1
      refine ⟨.ref p, rfl, p, c, 2000 * i, m, rfl, p1, by show 2000 * i + 100 ≤ 1000000000000; omega, hm, fun z m' H2 b2 p2 hm' z1 z32 => ?_⟩
      refine ⟨.str (wordB t), rfl, .int z, rfl, .ref p, rfl, .str (wordB t), rfl, .int z, rfl, p, c, _, z, 6, m', wordB t, rfl, wordB_or t, p2, by show 2000 * i + 1 + 2000 ≤ 1000000000000; omega, z32, by decide, fun d ws H3 b3 nd hg p3 l5 => ?_⟩
      obtain ⟨can, few, kind⟩ := hg.can
      dsimp only [tNil, List.append_nil]
      refine ⟨p, wordB t, z, d, ws, rfl, z32, hg, fun H4 s4 => ?_⟩
      have hw := wordB_or t
      have p4 := p3.keep s4
      have ls0 := first_ls (t := t) z32 can few l5
      have spl : Txt.split (textW (wordB t) z ws) (Str.ofString "\n") = headW (wordB t) z :: ws.map lineW := TL.split_join (y := Str.ofString "\n") (s := 10) (S := []) rfl (by decide +kernel) (by simp) fun q hq hc => (ls0.ch q hq 10 hc).2 rfl
      have tl : (textW (wordB t) z ws).length + 2 ≤ 100000 := by
        have := (join1_len (y := Str.ofString "\n") (s := 10) rfl (headW (wordB t) z :: ws.map lineW)).1
        have h2 := ls0.tt
        show (Txt.join _ _).length + 2 ≤ _
        omega
      refine ⟨⟨_, rfl⟩, textW (wordB t) z ws, Str.ofString "\n", rfl, rfl, by decide, Nat.le_trans tl (by decide), fun Ln nL => ?_⟩
      rw [spl]
      generalize headW (wordB t) z :: ws.map lineW = xs0 at ls0
      generalize hh : upd H4 Ln _ = H5
      have sL : Same H4 H5 := by rw [← hh]; exact same_upd nL
      have hL : H5 Ln = some (.lst (xs0.map V.str)) := by rw [← hh, upd_same]
      clear hh
      have p5 := p4.keep sL
      have Lp : Ln ≠ p := p4.ne_p nL
      clear sL nL spl tl s4 hg p3 b3 nd p1 p2 b2 can few kind l5 p4
      refine ⟨12, rfl, by decide, by decide, for_range (n := 12) (fun j σ H' => (∃ x6 x7 x8 x9 x10, σ = [some (.ref a0), some (.ref p), some (.int (0 + i)), some (.str (wordB t)), some (.int z), some (.ref Ln), x6, x7, x8, x9, x10, x11, x12]) ∧ H' Ln = some (.lst (xs0.map V.str)) ∧ Pen H' p c (2000 * i + 500 + 30 * j) m') ⟨⟨_, _, _, _, _, rfl⟩, hL, p5.mono (by omega)⟩ ?_ ?_⟩
      rotate_left
      · rintro σ H6 ⟨⟨x6, x7, x8, x9, x10, rfl⟩, _, p6⟩
        exact ⟨⟨_, _, _, _, _, _, _, _, _, _, _, rfl⟩, m', hm', p6.mono (by omega)⟩
      clear hL p5
      rintro j σ H6 hj ⟨⟨x6, x7, x8, x9, x10, rfl⟩, hL6, p6⟩
      refine ⟨.ref Ln, rfl, ?_⟩
      refine ⟨.ref p, rfl, p, c, _, m', 3, rfl, p6, by show 2000 * i + 500 + 30 * j ≤ 1000000000000; omega, by decide, by decide, fun d H7 d0 d1 b7 p7 => ?_⟩
      refine ⟨1, d, rfl, rfl, _, rfl, by omega, by omega, ?_⟩
      have hL7 := b7 _ _ Lp hL6
      refine for_range (n := (1 + d).toNat) (fun k σ H' => (∃ x8 S xs, σ = [some (.ref a0), some (.ref p), some (.int (0 + i)), some (.str (wordB t)), some (.int z), some (.ref Ln), some (.int (0 + (j : Nat))), some (.ref S), x8, x9, x10, x11, x12] ∧ S ≠ p ∧ H' S = some (.lst ((xs : List Str).map V.str)) ∧ Ls xs (21 + k) (5 + 2 * k) (Tn k)) ∧ H' Ln = some (.lst (xs0.map V.str)) ∧ Pen H' p c (2000 * i + 500 + 30 * j + 1 + 8 * k) m') ⟨⟨_, Ln, xs0, rfl, Lp, hL7, ls0⟩, hL7, p7⟩ ?_ ?_
      · rintro k σ H8 hk ⟨⟨x8, S, xs, rfl, Sp, hS8, ls⟩, hL8, p8⟩
        have k3 : k < 3 := by omega
        refine ⟨.ref S, rfl, Nat.zero_le _, fun E nE => ?_⟩
        have s9 := same_upd (o := .lst []) nE
        have xsm : ∀ x ∈ xs, Sm 1000000 x := fun x hx => ⟨by have := ls.mem hx; have := Tn_lt k3; omega, fun c hc => (ls.ch x hx c hc).1⟩
        refine ⟨.list (xs.map PyData.str), .list [], .lst (SqL.of (s9 _ _ hS8)) (dpAll_strs _), .lst (SqL.of upd_same) .nil, strs_data' xsm, rfl, _, rfl, ?_⟩
        have ee : PyData.eqv (.list (xs.map PyData.str)) (.list []) = decide (xs = []) := strs_eqv2 xs []
        rw [ee]
        have hS9 := s9 _ _ hS8
        have hL9 := s9 _ _ hL8
        have p9 := p8.keep s9
        by_cases hz : xs = []
        · rw [decide_eq_true hz]
          refine iteF ⟨by show 1 ≤ sizeLine; decide, fun R nR => ?_⟩
          have s10 := same_upd (o := .lst [.str ""]) nR
          refine ⟨⟨_, R, [""], rfl, p9.ne_p nR, upd_same, ?_⟩, s10 _ _ hL9, (p9.keep s10).mono (by omega)⟩
          refine ⟨by show 1 ≤ 21 + (k + 1); omega, ?_, fun x hx => ?_, fun x hx => ?_⟩
          · show 1 ≤ 3 * Tn k + 5003
            omega
          · rw [List.mem_singleton.mp hx]
            exact Nat.zero_le _
          · rw [List.mem_singleton.mp hx]
            intro c hc
            cases hc
        · rw [decide_eq_false hz]
          refine iteT ⟨.ref p, rfl, .ref S, rfl, p, c, S, _, 21 + k, 5 + 2 * k, Tn k, m', xs, rfl, p9, by show 2000 * i + 500 + 30 * j + 1 + 8 * k + 100 ≤ 1000000000000; omega, hS9, Sp, ls, hz, by omega, Tn_lt k3, fun R xs' H10 b10 R0 hR ls' p10 => ?_⟩
          exact ⟨⟨_, R, xs', rfl, p9.ne_p R0, hR, ls'⟩, b10 _ _ Lp hL9, p10⟩
      rintro σ H8 ⟨⟨x8, S, xs, rfl, Sp, hS8, ls⟩, hL8, p8⟩
      have n3 : (1 + d).toNat ≤ 3 := by omega
      obtain ⟨fin, bl, sne, sumb⟩ := text_ls ls (by omega) (by omega) (Tn_le n3)
      refine ⟨⟨_, rfl⟩, .ref S, rfl, Str.ofString "\n", S, xs, rfl, rfl, .inl (SqL.of hS8), sumb, ?_⟩
      generalize Txt.join (Str.ofString "\n") xs = txt at fin bl sne
      refine ⟨.str txt, rfl, ⟨_, rfl⟩, txt, Str.ofString "\n", rfl, rfl, by decide, Nat.le_trans (show txt.length + 2 ≤ 1000002 by have := fin.sm.ln; omega) (by decide), fun Pt nP => ?_⟩
      have s9 := same_upd (o := .lst ((Txt.split txt (Str.ofString "\n")).map V.str)) nP
      dsimp only [tNil, List.append_nil]
      refine ⟨Pt, Txt.split txt (Str.ofString "\n"), rfl, SqL.of upd_same, sne, fin.few, fun b hb => ⟨bl b hb, fin.wd b hb⟩, fun H9 s10 => ?_⟩
      refine ⟨.str txt, rfl, ?_⟩
      dsimp only [tNil, List.append_nil]
      refine ⟨.str txt, rfl, TyS.of (N := fun _ => True) (.str txt), .inr ⟨txt, rfl, fin, fun H10 s11 => ?_⟩⟩
      have sA := s9.trans (s10.trans s11)
      have okT : OkD 0 10000002 (.str txt) := fin.sm.ok (by decide)
      have done : (∃ y6 y7 y8 y9 y10, [some (.ref a0), some (.ref p), some (.int (0 + i)), some (.str (wordB t)), some (.int z), some (.ref Ln), some (.int (0 + (j : Nat))), some (.ref S), x8, some (.str txt), some (kN (outB (Txt.split txt (Str.ofString "\n")))), x11, x12] = [some (.ref a0), some (.ref p), some (.int (0 + i)), some (.str (wordB t)), some (.int z), some (.ref Ln), y6, y7, y8, y9, y10, x11, x12]) ∧ H10 Ln = some (.lst (xs0.map V.str)) ∧ Pen H10 p c (2000 * i + 500 + 30 * (j + 1)) m' := ⟨⟨_, _, _, _, _, rfl⟩, sA _ _ hL8, (p8.keep sA).mono (by omega)⟩
      cases ho : outB (Txt.split txt (Str.ofString "\n")) with
      | none =>
        rw [ho] at done
        refine ⟨.str txt, .str txt, fun _ => True, rfl, .str _, okT.sh, Nat.le_trans okT.dp (by decide), Nat.le_trans okT.ln (by decide), ?_⟩
        refine ⟨.non, rfl, rfl, _, rfl, iteT ⟨.str txt, rfl, .str txt, .str txt, fun _ => True, rfl, .str _, okT.sh, Nat.le_trans okT.dp (by decide), Nat.le_trans okT.ln (by decide), rfl, _, rfl, iteNS rfl done⟩⟩
      | some e =>
        have ok := okd_small (k := e) (by have := outB_lt ho; have := fin.few; omega)
        rw [ho] at done
        refine ⟨.int (e : Nat), .int (e : Nat), fun _ => True, rfl, .int _, ok.sh, Nat.le_trans ok.dp (by decide), Nat.le_trans ok.ln (by decide), ?_⟩
        refine ⟨.int (e : Nat), rfl, rfl, _, rfl, iteF ⟨.int (e : Nat), rfl, .int (e : Nat), .int (e : Nat), fun _ => True, rfl, .int _, ok.sh, Nat.le_trans ok.dp (by decide), Nat.le_trans ok.ln (by decide), rfl, _, rfl, iteNS rfl done⟩⟩
    · rintro σ H1 ⟨⟨x2, x3, x4, x5, x6, x7, x8, x9, x10, x11, x12, rfl⟩, m, hm, hp1⟩
      refine ⟨by show 0 ≤ sizeLine; decide, fun L1 n1 => ⟨by show 0 ≤ sizeLine; decide, fun T1 n2 => ?_⟩⟩
      intro D1 n3
      refine ⟨by show 1 ≤ sizeLine; decide, fun L4 n4 => ?_⟩
      have q1 := same_upd (o := .lst []) n1
      have q2 := same_upd (o := .tup []) n2
      have q3 := same_upd (o := .dK []) n3
      have q4 := same_upd (o := .lst [.str "table 2"]) n4
      have f1 := q4 _ _ (q3 _ _ (q2 _ _ (upd_same (H := H1) (a := L1) (o := .lst []))))
      have f2 := q4 _ _ (q3 _ _ (upd_same (H := upd H1 L1 (.lst [])) (a := T1) (o := .tup [])))
      have f3 := q4 _ _ (upd_same (H := upd (upd H1 L1 (.lst [])) T1 (.tup [])) (a := D1) (o := .dK []))
      have f4 := upd_same (H := upd (upd (upd H1 L1 (.lst [])) T1 (.tup [])) D1 (.dK [])) (a := L4) (o := .lst [.str "table 2"])
      have pd := hp1.keep (q1.trans (q2.trans (q3.trans q4)))
      have m1 : L1 ≠ p := hp1.ne_p n1
      have m2 : T1 ≠ p := (hp1.keep q1).ne_p n2
      have m3 : D1 ≠ p := ((hp1.keep q1).keep q2).ne_p n3
      have m4 : L4 ≠ p := (((hp1.keep q1).keep q2).keep q3).ne_p n4
      clear q1 q2 q3 q4 n1 n2 n3 n4 hp1
      revert f1 f2 f3 f4 pd
      generalize upd (upd (upd (upd H1 L1 (.lst [])) T1 (.tup [])) D1 (.dK [])) L4 (.lst [.str "table 2"]) = H2
      intro f1 f2 f3 f4 pd
      refine ⟨.ref p, rfl, p, c, _, m, rfl, pd, by show 2000 * 3 + 17 ≤ 1000000000000; decide, fun v d H5 b5 p5 hd hok hx => ?_⟩
      refine ⟨_, _, rfl, rfl, ⟨by decide, by decide, by decide⟩, by show 9 ≤ sizeLine; decide, fun Z nZ => ?_⟩
      have sZ := same_upd (o := .lst [.non, .int 0, .bl true, .ref L1, .ref T1, .ref D1, .ref L4, v, .int (10 ^ (39 : Int).toNat)]) nZ
      have all1 : ∀ x ∈ ([.non, .int 0, .bl true, .ref L1, .ref T1, .ref D1, .ref L4, v, .int (10 ^ (39 : Int).toNat)] : List V), Itm K (fun a => a ≠ p) H5 x := by
        refine List.forall_mem_cons.mpr ⟨⟨_, .non, ⟨by decide +kernel, by decide +kernel, by decide +kernel⟩⟩, List.forall_mem_cons.mpr ⟨⟨_, .int _, ⟨by decide +kernel, by decide +kernel, by decide +kernel⟩⟩, List.forall_mem_cons.mpr ⟨⟨_, .bl _, ⟨by decide +kernel, by decide +kernel, by decide +kernel⟩⟩,
          List.forall_mem_cons.mpr ⟨⟨_, .lst m1 (SqL.of (b5 _ _ m1 f1)) .nil, ⟨by decide +kernel, by decide +kernel, by decide +kernel⟩⟩, List.forall_mem_cons.mpr ⟨⟨_, .tup m2 (.inl (.inl (b5 _ _ m2 f2))) .nil, ⟨by decide +kernel, by decide +kernel, by decide +kernel⟩⟩,
          List.forall_mem_cons.mpr ⟨⟨_, .dic m3 (.inl (b5 _ _ m3 f3)) .nil, ⟨by decide +kernel, by decide +kernel, by decide +kernel⟩⟩, List.forall_mem_cons.mpr ⟨⟨_, .lst m4 (SqL.of (b5 _ _ m4 f4)) (.cons (.str _) .nil), ⟨by decide +kernel, by decide +kernel, by decide +kernel⟩⟩,
          List.forall_mem_cons.mpr ⟨⟨d, hd.move (fun _ _ _ e => e) (fun a ha => pd.ne_p ha), hok.mono (by decide) (by decide)⟩, List.forall_mem_cons.mpr ⟨⟨_, .int _, ⟨by decide +kernel, by decide +kernel, by decide +kernel⟩⟩, List.forall_mem_nil _⟩⟩⟩⟩⟩⟩⟩⟩⟩
      have all2 := fun x hx => (all1 x hx).same sZ
      have hZ := upd_same (H := H5) (a := Z) (o := .lst [.non, .int 0, .bl true, .ref L1, .ref T1, .ref D1, .ref L4, v, .int (10 ^ (39 : Int).toNat)])
      revert all2 hZ
      clear all1 sZ nZ hok hd hx
      generalize upd H5 Z (.lst [.non, .int 0, .bl true, .ref L1, .ref T1, .ref D1, .ref L4, v, .int (10 ^ (39 : Int).toNat)]) = H6
      generalize ([.non, .int 0, .bl true, .ref L1, .ref T1, .ref D1, .ref L4, v, .int (10 ^ (39 : Int).toNat)] : List V) = its
      intro all2 hZ
      refine ⟨Z, rfl, ⟨_, SqL.of hZ⟩, for_list (K := K) (a := Z) (xs := its) (fun _ σ H' => (∃ x2 x3 x4 x5 x6 x7 x8 x9 x10 x11 x12, σ = [some (.ref a0), some (.ref p), x2, x3, x4, x5, x6, x7, x8, x9, x10, x11, x12]) ∧ Same H6 H') ⟨⟨_, _, _, _, _, _, _, _, _, _, _, rfl⟩, .refl _⟩ (fun _ _ _ _ h => h.2.seq (SqL.of hZ)) ?_ ?_⟩
      · rintro j v' σ H7 hv ⟨⟨x2, x3, x4, x5, x6, x7, x8, x9, x10, x11, x12, rfl⟩, s7⟩
        obtain ⟨d', hd0, hok⟩ := all2 v' (List.mem_of_getElem? hv)
        have hd7 := hd0.move (H' := H7) (N' := fun a => a ≠ p) (fun a o _ e => s7 a o e) fun _ h => h
        have sl : d'.shown.length ≤ sizeLine := Nat.le_trans hok.ln (by decide)
        have hdp : d'.depth ≤ 60 := Nat.le_trans hok.dp (by decide)
        refine ⟨v', rfl, v', d', _, rfl, hd7, hok.sh, hdp, sl, ?_⟩
        obtain ⟨tt, ty, kt⟩ := TyS.of hd7
        refine ⟨v', rfl, v', .ty "str", .type tt, .type "str", _, rfl, .ty _, ty, kt, _, rfl, ?_⟩
        cases hs : isStrV v' with
        | true =>
          refine iteF ⟨v', rfl, v', d', _, rfl, hd7, hok.sh, hdp, sl, .str d'.shown, rfl, rfl, _, rfl, iteNS rfl ?_⟩
          exact ⟨⟨_, _, _, _, _, _, _, _, _, _, _, rfl⟩, s7⟩
        | false =>
          refine iteT ⟨v', rfl, ?_⟩
          dsimp only [tNil, List.append_nil]
          refine ⟨v', rfl, TyS.of hd7, .inl ⟨hs, fun H8 s8 => ?_⟩⟩
          have hd8 := hd7.move (H' := H8) (N' := fun a => a ≠ p) (fun a o _ e => s8 a o e) fun _ h => h
          refine ⟨rfl, _, rfl, iteNS rfl ⟨v', rfl, v', d', _, rfl, hd8, hok.sh, hdp, sl, .str d'.shown, rfl, rfl, _, rfl, iteNS rfl ?_⟩⟩
          exact ⟨⟨_, _, _, _, _, _, _, _, _, _, _, rfl⟩, s7.trans s8⟩
      rintro σ H7 ⟨⟨x2, x3, x4, x5, x6, x7, x8, x9, x10, x11, x12, rfl⟩, s7⟩
      clear all2 hZ s7
      refine ⟨by show 8 ≤ sizeLine; decide, fun A1 nA1 => ?_⟩
      generalize hh : upd H7 A1 _ = H8
      have hA1 : H8 A1 = some (.lst ((finals.take 8).map V.str)) := by rw [← hh, upd_same]; rfl
      clear hh
      refine ⟨.ref A1, rfl, by show 2 ≤ sizeLine; decide, fun A2 nA2 => ?_⟩
      generalize hh : upd H8 A2 _ = H9
      have sA2 : Same H8 H9 := by rw [← hh]; exact same_upd nA2
      have hA2 : H9 A2 = some (.lst ((finals.drop 8).map V.str)) := by rw [← hh, upd_same]; rfl
      clear hh
      refine ⟨A1, A2, _, _, rfl, rfl, sA2 _ _ hA1, hA2, by show 10 ≤ sizeLine; decide, fun A3 nA3 => ?_⟩
      rw [← List.map_append, List.take_append_drop]
      generalize hh : upd H9 A3 _ = HA
      have hA3 : HA A3 = some (.lst (finals.map V.str)) := by rw [← hh, upd_same]
      clear hh sA2 hA2 hA1 nA1 nA2 nA3
      refine ⟨.ref A3, rfl, A3, rfl, ⟨_, SqL.of hA3⟩, fun D nD => ?_⟩
      refine lc_it (walk_list (K := K) (a := A3) (xs := finals.map V.str)) (fun i H' => H' D = some (.lst ((finals.take i).map fun t => oV t (outB (Txt.split t (Str.ofString "\n"))))) ∧ Same HA H') ⟨upd_same, same_upd nD⟩ (fun _ _ _ h => SqL.of (h.2 _ _ hA3)) ?_ ?_
      · rintro i v' HB HC hi ⟨hD, sA⟩ ⟨rfl, hv⟩
        rw [List.getElem?_map] at hv
        obtain ⟨u, hu, rfl⟩ := Option.map_eq_some_iff.mp hv
        have et : finals.take (i + 1) = finals.take i ++ [u] := by rw [List.take_add_one, hu]; rfl
        refine ⟨rfl, yes_if ⟨.str u, rfl, ?_⟩⟩
        dsimp only [tNil, List.append_nil]
        refine ⟨.str u, rfl, TyS.of (N := fun _ => True) (.str u), .inr ⟨u, rfl, finals_fin u (List.mem_of_getElem? hu), fun HD sD => ?_⟩⟩
        refine ⟨_, sD _ _ hD, ?_, ?_, fun b o eb => ?_⟩
        · rw [List.length_map, List.length_take]
          exact big_lt (by show min i 10 ≤ 1000; omega)
        · rw [upd_same, et, List.map_append]
          rfl
        · rw [upd_ne (ne_of_none eb nD)]
          exact sD _ _ (sA _ _ eb)
      rintro HB ⟨hD, sA⟩
      rw [List.length_map, List.take_length, finals_val] at hD
      refine ⟨by show 10 ≤ sizeLine; decide, fun E nE => ?_⟩
      have sE := same_upd (o := .lst [.int 0, .int 0, .int 1, .int 0, .int 0, .int 0, .int 1, .int 1, .int 1, .int 1]) nE
      refine ⟨.list ([0, 0, 1, 0, 0, 0, 1, 1, 1, 1].map PyData.int), .list ([0, 0, 1, 0, 0, 0, 1, 1, 1, 1].map PyData.int), .lst (SqL.of (sE _ _ hD)) (dpAll_ints [0, 0, 1, 0, 0, 0, 1, 1, 1, 1]), .lst (SqL.of upd_same) (dpAll_ints [0, 0, 1, 0, 0, 0, 1, 1, 1, 1]), PySem.W.ke_shaped_ints _, PySem.W.ke_shaped_ints _, ?_⟩
      rw [show PyData.eqv (.list ([0, 0, 1, 0, 0, 0, 1, 1, 1, 1].map PyData.int)) (.list ([0, 0, 1, 0, 0, 0, 1, 1, 1, 1].map PyData.int)) = true by decide +kernel]
      exact q _
end
abbrev sLaw : Stmt := sL
theorem all_mk {l : PySem.W.OpenLaw} {w : World} {K : PySem.W.Frag} {h : Heap} {mg : Str → Option Value} {fa fP fN fDr fB fS fX fH fI fWo fV fY fWa fSo fFr fFm fIp fPh fPr fPm fRw fTx fOc fIt fHf fRf fFo fCh fAny fL fK fU fWK fEq fG fR fPw CD CC CW CRE CPE fT cdaT ccT fWT cdaWT ccWT fQ cdaQ ccQ pG pR pPw : Addr} (X : K.In h) (G : h.Ns mainGlobals mg) (hfa : mg "law" = some (.ref fa))
    {odP anP odN anN odDr anDr odB anB odS anS odX anX odH anH odI anI odWo anWo odV anV odY anY odWa anWa odSo anSo odFr anFr odFm anFm odIp anIp odPh anPh odPr anPr odPm anPm odRw anRw odTx anTx odOc anOc odIt anIt odHf anHf odRf anRf odFo anFo odCh anCh odAny anAny odL anL odK anK odU anU odWK anWK odEq anEq odG anG odR anR odPw anPw : Option Addr} {slP slN slDr slB slS slX slH slI slWo slV slY slWa slSo slFr slFm slIp slPh slPr slPm slRw slTx slOc slIt slHf slRf slFo slCh slAny slL slK slU slWK slEq slG slR slPw : Array (Option Value)} {ocP dcP pmP cdP ctP kVP ocN dcN pmN cdN ctN kVN ocDr dcDr pmDr cdDr ctDr kVDr ocB dcB pmB cdB ctB kVB ocS dcS pmS cdS ctS kVS ocX dcX pmX cdX ctX kVX ocH dcH pmH cdH ctH kVH ocI dcI pmI cdI ctI kVI ocWo dcWo pmWo cdWo ctWo kVWo ocV dcV pmV cdV ctV kVV ocY dcY pmY cdY ctY kVY ocWa dcWa pmWa cdWa ctWa kVWa ocSo dcSo pmSo cdSo ctSo kVSo ocFr dcFr pmFr cdFr ctFr kVFr ocFm dcFm pmFm cdFm ctFm kVFm ocIp dcIp pmIp cdIp ctIp kVIp ocPh dcPh pmPh cdPh ctPh kVPh ocPr dcPr pmPr cdPr ctPr kVPr ocPm dcPm pmPm cdPm ctPm kVPm ocRw dcRw pmRw cdRw ctRw kVRw ocTx dcTx pmTx cdTx ctTx kVTx ocOc dcOc pmOc cdOc ctOc kVOc ocIt dcIt pmIt cdIt ctIt kVIt ocHf dcHf pmHf cdHf ctHf kVHf ocRf dcRf pmRf cdRf ctRf kVRf ocFo dcFo pmFo cdFo ctFo kVFo ocCh dcCh pmCh cdCh ctCh kVCh ocAny dcAny pmAny cdAny ctAny kVAny ocL dcL pmL cdL ctL kVL ocK dcK pmK cdK ctK kVK ocU dcU pmU cdU ctU kVU ocWK dcWK pmWK cdWK ctWK kVWK ocEq dcEq pmEq cdEq ctEq kVEq ocG dcG pmG cdG ctG kVG ocR dcR pmR cdR ctR kVR ocPw dcPw pmPw cdPw ctPw kVPw : Value} {tkZ tkE tkO tkEp tkNt : Tok}
    {ocT kVT dcT pmT ctT ckT lkT : Value} {odT anT cddT ldT : Option Addr} {slT csT lsT : Array (Option Value)} {vsT : Array Value} {fiT : Str} {tfT : Tok}
    {ocWT kVWT dcWT pmWT ctWT ckWT lkWT : Value} {odWT anWT cddWT ldWT : Option Addr} {slWT csWT lsWT : Array (Option Value)} {vsWT : Array Value} {fiWT : Str} {tfWT : Tok}
    {ocQ kVQ dcQ pmQ ctQ ckQ lkQ : Value} {odQ anQ cddQ ldQ : Option Addr} {slQ csQ lsQ : Array (Option Value)} {vsQ : Array Value} {fiQ : Str} {tfQ : Tok}
    {rsG : List Value}
    {rsR : List Value}
    {rsPw : List Value}
    (aP : PySem.W.nsIn K mainGlobals "_law_pen" = some (some (.ref fP)))
    (lP : K.lookup fP = some ⟨ocP, odP, .func (PySem.W.fnOf "_law_pen" "_law_pen" (defArgs sP) (defBody sP) (defScope sP) .none kVP dcP pmP anP cdP ctP), slP⟩)
    (cP : PySem.W.codeIn K cdP "_law_pen" = true) (kP : PySem.W.keepIn K (.ref fP) = true)
    (aN : PySem.W.nsIn K mainGlobals "_law_next" = some (some (.ref fN)))
    (lN : K.lookup fN = some ⟨ocN, odN, .func (PySem.W.fnOf "_law_next" "_law_next" (defArgs sN) (defBody sN) (defScope sN) .none kVN dcN pmN anN cdN ctN), slN⟩)
    (cN : PySem.W.codeIn K cdN "_law_next" = true) (kN : PySem.W.keepIn K (.ref fN) = true)
    (aDr : PySem.W.nsIn K mainGlobals "_law_draw" = some (some (.ref fDr)))
    (lDr : K.lookup fDr = some ⟨ocDr, odDr, .func (PySem.W.fnOf "_law_draw" "_law_draw" (defArgs sDr) (defBody sDr) (defScope sDr) .none kVDr dcDr pmDr anDr cdDr ctDr), slDr⟩)
    (cDr : PySem.W.codeIn K cdDr "_law_draw" = true) (kDr : PySem.W.keepIn K (.ref fDr) = true)
    (aB : PySem.W.nsIn K mainGlobals "_law_bits" = some (some (.ref fB)))
    (lB : K.lookup fB = some ⟨ocB, odB, .func (PySem.W.fnOf "_law_bits" "_law_bits" (defArgs sB) (defBody sB) (defScope sB) .none kVB dcB pmB anB cdB ctB), slB⟩)
    (cB : PySem.W.codeIn K cdB "_law_bits" = true) (kB : PySem.W.keepIn K (.ref fB) = true)
    (aS : PySem.W.nsIn K mainGlobals "_law_size" = some (some (.ref fS)))
    (lS : K.lookup fS = some ⟨ocS, odS, .func (PySem.W.fnOf "_law_size" "_law_size" (defArgs sS) (defBody sS) (defScope sS) .none kVS dcS pmS anS cdS ctS), slS⟩)
    (cS : PySem.W.codeIn K cdS "_law_size" = true) (kS : PySem.W.keepIn K (.ref fS) = true)
    (aX : PySem.W.nsIn K mainGlobals "_law_prefixes" = some (some (.ref fX)))
    (lX : K.lookup fX = some ⟨ocX, odX, .func (PySem.W.fnOf "_law_prefixes" "_law_prefixes" (defArgs sX) (defBody sX) (defScope sX) .none kVX dcX pmX anX cdX ctX), slX⟩)
    (cX : PySem.W.codeIn K cdX "_law_prefixes" = true) (kX : PySem.W.keepIn K (.ref fX) = true)
    (aH : PySem.W.nsIn K mainGlobals "has_only" = some (some (.ref fH)))
    (lH : K.lookup fH = some ⟨ocH, odH, .func (PySem.W.fnOf "has_only" "has_only" (defArgs sH) (defBody sH) (defScope sH) .none kVH dcH pmH anH cdH ctH), slH⟩)
    (cH : PySem.W.codeIn K cdH "has_only" = true) (kH : PySem.W.keepIn K (.ref fH) = true)
    (aI : PySem.W.nsIn K mainGlobals "is_prefix" = some (some (.ref fI)))
    (lI : K.lookup fI = some ⟨ocI, odI, .func (PySem.W.fnOf "is_prefix" "is_prefix" (defArgs sI) (defBody sI) (defScope sI) .none kVI dcI pmI anI cdI ctI), slI⟩)
    (cI : PySem.W.codeIn K cdI "is_prefix" = true) (kI : PySem.W.keepIn K (.ref fI) = true)
    (aWo : PySem.W.nsIn K mainGlobals "is_whole" = some (some (.ref fWo)))
    (lWo : K.lookup fWo = some ⟨ocWo, odWo, .func (PySem.W.fnOf "is_whole" "is_whole" (defArgs sWo) (defBody sWo) (defScope sWo) .none kVWo dcWo pmWo anWo cdWo ctWo), slWo⟩)
    (cWo : PySem.W.codeIn K cdWo "is_whole" = true) (kWo : PySem.W.keepIn K (.ref fWo) = true)
    (aV : PySem.W.nsIn K mainGlobals "is_width" = some (some (.ref fV)))
    (lV : K.lookup fV = some ⟨ocV, odV, .func (PySem.W.fnOf "is_width" "is_width" (defArgs sV) (defBody sV) (defScope sV) .none kVV dcV pmV anV cdV ctV), slV⟩)
    (cV : PySem.W.codeIn K cdV "is_width" = true) (kV : PySem.W.keepIn K (.ref fV) = true)
    (aY : PySem.W.nsIn K mainGlobals "_law_lines" = some (some (.ref fY)))
    (lY : K.lookup fY = some ⟨ocY, odY, .func (PySem.W.fnOf "_law_lines" "_law_lines" (defArgs sY) (defBody sY) (defScope sY) .none kVY dcY pmY anY cdY ctY), slY⟩)
    (cY : PySem.W.codeIn K cdY "_law_lines" = true) (kY : PySem.W.keepIn K (.ref fY) = true)
    (aWa : PySem.W.nsIn K mainGlobals "_law_wanted" = some (some (.ref fWa)))
    (lWa : K.lookup fWa = some ⟨ocWa, odWa, .func (PySem.W.fnOf "_law_wanted" "_law_wanted" (defArgs sWa) (defBody sWa) (defScope sWa) .none kVWa dcWa pmWa anWa cdWa ctWa), slWa⟩)
    (cWa : PySem.W.codeIn K cdWa "_law_wanted" = true) (kWa : PySem.W.keepIn K (.ref fWa) = true)
    (aSo : PySem.W.nsIn K mainGlobals "_law_sorted" = some (some (.ref fSo)))
    (lSo : K.lookup fSo = some ⟨ocSo, odSo, .func (PySem.W.fnOf "_law_sorted" "_law_sorted" (defArgs sSo) (defBody sSo) (defScope sSo) .none kVSo dcSo pmSo anSo cdSo ctSo), slSo⟩)
    (cSo : PySem.W.codeIn K cdSo "_law_sorted" = true) (kSo : PySem.W.keepIn K (.ref fSo) = true)
    (aFr : PySem.W.nsIn K mainGlobals "format_row" = some (some (.ref fFr)))
    (lFr : K.lookup fFr = some ⟨ocFr, odFr, .func (PySem.W.fnOf "format_row" "format_row" (defArgs sFr) (defBody sFr) (defScope sFr) .none kVFr dcFr pmFr anFr cdFr ctFr), slFr⟩)
    (cFr : PySem.W.codeIn K cdFr "format_row" = true) (kFr : PySem.W.keepIn K (.ref fFr) = true)
    (aFm : PySem.W.nsIn K mainGlobals "format_map" = some (some (.ref fFm)))
    (lFm : K.lookup fFm = some ⟨ocFm, odFm, .func (PySem.W.fnOf "format_map" "format_map" (defArgs sFm) (defBody sFm) (defScope sFm) .none kVFm dcFm pmFm anFm cdFm ctFm), slFm⟩)
    (cFm : PySem.W.codeIn K cdFm "format_map" = true) (kFm : PySem.W.keepIn K (.ref fFm) = true)
    (aIp : PySem.W.nsIn K mainGlobals "is_prefix_word" = some (some (.ref fIp)))
    (lIp : K.lookup fIp = some ⟨ocIp, odIp, .func (PySem.W.fnOf "is_prefix_word" "is_prefix_word" (defArgs sIp) (defBody sIp) (defScope sIp) .none kVIp dcIp pmIp anIp cdIp ctIp), slIp⟩)
    (cIp : PySem.W.codeIn K cdIp "is_prefix_word" = true) (kIp : PySem.W.keepIn K (.ref fIp) = true)
    (aPh : PySem.W.nsIn K mainGlobals "parse_head" = some (some (.ref fPh)))
    (lPh : K.lookup fPh = some ⟨ocPh, odPh, .func (PySem.W.fnOf "parse_head" "parse_head" (defArgs sPh) (defBody sPh) (defScope sPh) .none kVPh dcPh pmPh anPh cdPh ctPh), slPh⟩)
    (cPh : PySem.W.codeIn K cdPh "parse_head" = true) (kPh : PySem.W.keepIn K (.ref fPh) = true)
    (aPr : PySem.W.nsIn K mainGlobals "parse_row" = some (some (.ref fPr)))
    (lPr : K.lookup fPr = some ⟨ocPr, odPr, .func (PySem.W.fnOf "parse_row" "parse_row" (defArgs sPr) (defBody sPr) (defScope sPr) .none kVPr dcPr pmPr anPr cdPr ctPr), slPr⟩)
    (cPr : PySem.W.codeIn K cdPr "parse_row" = true) (kPr : PySem.W.keepIn K (.ref fPr) = true)
    (aPm : PySem.W.nsIn K mainGlobals "parse_map" = some (some (.ref fPm)))
    (lPm : K.lookup fPm = some ⟨ocPm, odPm, .func (PySem.W.fnOf "parse_map" "parse_map" (defArgs sPm) (defBody sPm) (defScope sPm) .none kVPm dcPm pmPm anPm cdPm ctPm), slPm⟩)
    (cPm : PySem.W.codeIn K cdPm "parse_map" = true) (kPm : PySem.W.keepIn K (.ref fPm) = true)
    (aRw : PySem.W.nsIn K mainGlobals "_law_rows" = some (some (.ref fRw)))
    (lRw : K.lookup fRw = some ⟨ocRw, odRw, .func (PySem.W.fnOf "_law_rows" "_law_rows" (defArgs sRw) (defBody sRw) (defScope sRw) .none kVRw dcRw pmRw anRw cdRw ctRw), slRw⟩)
    (cRw : PySem.W.codeIn K cdRw "_law_rows" = true) (kRw : PySem.W.keepIn K (.ref fRw) = true)
    (aTx : PySem.W.nsIn K mainGlobals "_law_text" = some (some (.ref fTx)))
    (lTx : K.lookup fTx = some ⟨ocTx, odTx, .func (PySem.W.fnOf "_law_text" "_law_text" (defArgs sTx) (defBody sTx) (defScope sTx) .none kVTx dcTx pmTx anTx cdTx ctTx), slTx⟩)
    (cTx : PySem.W.codeIn K cdTx "_law_text" = true) (kTx : PySem.W.keepIn K (.ref fTx) = true)
    (aOc : PySem.W.nsIn K mainGlobals "_law_outcome" = some (some (.ref fOc)))
    (lOc : K.lookup fOc = some ⟨ocOc, odOc, .func (PySem.W.fnOf "_law_outcome" "_law_outcome" (defArgs sOc) (defBody sOc) (defScope sOc) .none kVOc dcOc pmOc anOc cdOc ctOc), slOc⟩)
    (cOc : PySem.W.codeIn K cdOc "_law_outcome" = true) (kOc : PySem.W.keepIn K (.ref fOc) = true)
    (aIt : PySem.W.nsIn K mainGlobals "_law_is_target" = some (some (.ref fIt)))
    (lIt : K.lookup fIt = some ⟨ocIt, odIt, .func (PySem.W.fnOf "_law_is_target" "_law_is_target" (defArgs sIt) (defBody sIt) (defScope sIt) .none kVIt dcIt pmIt anIt cdIt ctIt), slIt⟩)
    (cIt : PySem.W.codeIn K cdIt "_law_is_target" = true) (kIt : PySem.W.keepIn K (.ref fIt) = true)
    (aHf : PySem.W.nsIn K mainGlobals "_law_head_fits" = some (some (.ref fHf)))
    (lHf : K.lookup fHf = some ⟨ocHf, odHf, .func (PySem.W.fnOf "_law_head_fits" "_law_head_fits" (defArgs sHf) (defBody sHf) (defScope sHf) .none kVHf dcHf pmHf anHf cdHf ctHf), slHf⟩)
    (cHf : PySem.W.codeIn K cdHf "_law_head_fits" = true) (kHf : PySem.W.keepIn K (.ref fHf) = true)
    (aRf : PySem.W.nsIn K mainGlobals "_law_row_fits" = some (some (.ref fRf)))
    (lRf : K.lookup fRf = some ⟨ocRf, odRf, .func (PySem.W.fnOf "_law_row_fits" "_law_row_fits" (defArgs sRf) (defBody sRf) (defScope sRf) .none kVRf dcRf pmRf anRf cdRf ctRf), slRf⟩)
    (cRf : PySem.W.codeIn K cdRf "_law_row_fits" = true) (kRf : PySem.W.keepIn K (.ref fRf) = true)
    (aFo : PySem.W.nsIn K mainGlobals "_law_first_odd" = some (some (.ref fFo)))
    (lFo : K.lookup fFo = some ⟨ocFo, odFo, .func (PySem.W.fnOf "_law_first_odd" "_law_first_odd" (defArgs sFo) (defBody sFo) (defScope sFo) .none kVFo dcFo pmFo anFo cdFo ctFo), slFo⟩)
    (cFo : PySem.W.codeIn K cdFo "_law_first_odd" = true) (kFo : PySem.W.keepIn K (.ref fFo) = true)
    (aCh : PySem.W.nsIn K mainGlobals "_law_changed" = some (some (.ref fCh)))
    (lCh : K.lookup fCh = some ⟨ocCh, odCh, .func (PySem.W.fnOf "_law_changed" "_law_changed" (defArgs sCh) (defBody sCh) (defScope sCh) .none kVCh dcCh pmCh anCh cdCh ctCh), slCh⟩)
    (cCh : PySem.W.codeIn K cdCh "_law_changed" = true) (kCh : PySem.W.keepIn K (.ref fCh) = true)
    (aAny : PySem.W.nsIn K mainGlobals "_law_any" = some (some (.ref fAny)))
    (lAny : K.lookup fAny = some ⟨ocAny, odAny, .func (PySem.W.fnOf "_law_any" "_law_any" (defArgs sAny) (defBody sAny) (defScope sAny) .none kVAny dcAny pmAny anAny cdAny ctAny), slAny⟩)
    (cAny : PySem.W.codeIn K cdAny "_law_any" = true) (kAny : PySem.W.keepIn K (.ref fAny) = true)
    (aL : PySem.W.nsIn K mainGlobals "law" = some (some (.ref fL)))
    (lL : K.lookup fL = some ⟨ocL, odL, .func (PySem.W.fnOf "law" "law" (defArgs sL) (defBody sL) (defScope sL) .none kVL dcL pmL anL cdL ctL), slL⟩)
    (cL : PySem.W.codeIn K cdL "law" = true) (kL : PySem.W.keepIn K (.ref fL) = true)
    (aD : PySem.W.nsIn K mainGlobals "PrefixMap" = some (some (.ref CD))) (pgD : PySem.W.plainGet K CD Str.empty = true) (hdD : PySem.W.hasDictIn K CD = true) (poD : PySem.W.plainOver K CD = true) (saD : PySem.W.findIn K (.ref CD) "__setattr__" = some (some (.builtin "object.__setattr__"))) (mkD : PySem.W.makesIn K CD = true) (kcD : PySem.W.keepIn K (.ref CD) = true)
    (aC : PySem.W.nsIn K mainGlobals "Table" = some (some (.ref CC))) (pgC : PySem.W.plainGet K CC Str.empty = true) (hdC : PySem.W.hasDictIn K CC = true) (poC : PySem.W.plainOver K CC = true) (saC : PySem.W.findIn K (.ref CC) "__setattr__" = some (some (.builtin "object.__setattr__"))) (mkC : PySem.W.makesIn K CC = true) (kcC : PySem.W.keepIn K (.ref CC) = true)
    (nC_width : PySem.W.findIn K (.ref CC) "_width" = some none)
    (nC_rows : PySem.W.findIn K (.ref CC) "_rows" = some none)
    (aW : PySem.W.nsIn K mainGlobals "Wish" = some (some (.ref CW))) (pgW : PySem.W.plainGet K CW Str.empty = true) (hdW : PySem.W.hasDictIn K CW = true) (poW : PySem.W.plainOver K CW = true) (saW : PySem.W.findIn K (.ref CW) "__setattr__" = some (some (.builtin "object.__setattr__"))) (mkW : PySem.W.makesIn K CW = true) (kcW : PySem.W.keepIn K (.ref CW) = true)
    (nW_width : PySem.W.findIn K (.ref CW) "_width" = some none)
    (nW_rows : PySem.W.findIn K (.ref CW) "_rows" = some none)
    (aK : PySem.W.findIn K (.ref CC) "_checked" = some (some (.ref fK))) (iK : PySem.W.isFn K (.ref fK) = true)
    (lK : K.lookup fK = some ⟨ocK, odK, .func (PySem.W.fnOf "_checked" "Table._checked" (defArgs sK) (defBody sK) (defScope sK) .none kVK dcK pmK anK cdK ctK), slK⟩)
    (cK : PySem.W.codeIn K cdK "Table._checked" = true) (kK : PySem.W.keepIn K (.ref fK) = true)
    (aU : PySem.W.findIn K (.ref CD) "__init__" = some (some (.ref fU))) (iU : PySem.W.isFn K (.ref fU) = true)
    (lU : K.lookup fU = some ⟨ocU, odU, .func (PySem.W.fnOf "__init__" "PrefixMap.__init__" (defArgs sU) (defBody sU) (defScope sU) .none kVU dcU pmU anU cdU ctU), slU⟩)
    (cU : PySem.W.codeIn K cdU "PrefixMap.__init__" = true) (kU : PySem.W.keepIn K (.ref fU) = true)
    (aWK : PySem.W.findIn K (.ref CW) "_checked" = some (some (.ref fWK))) (iWK : PySem.W.isFn K (.ref fWK) = true)
    (lWK : K.lookup fWK = some ⟨ocWK, odWK, .func (PySem.W.fnOf "_checked" "Wish._checked" (defArgs sWK) (defBody sWK) (defScope sWK) .none kVWK dcWK pmWK anWK cdWK ctWK), slWK⟩)
    (cWK : PySem.W.codeIn K cdWK "Wish._checked" = true) (kWK : PySem.W.keepIn K (.ref fWK) = true)
    (aEq : PySem.W.findIn K (.ref CC) "__eq__" = some (some (.ref fEq))) (iEq : PySem.W.isFn K (.ref fEq) = true)
    (lEq : K.lookup fEq = some ⟨ocEq, odEq, .func (PySem.W.fnOf "__eq__" "PrefixMap.__eq__" (defArgs sEq) (defBody sEq) (defScope sEq) .none kVEq dcEq pmEq anEq cdEq ctEq), slEq⟩)
    (cEq : PySem.W.codeIn K cdEq "PrefixMap.__eq__" = true) (kEq : PySem.W.keepIn K (.ref fEq) = true)
    (aT : PySem.W.findIn K (.ref CC) "__init__" = some (some (.ref fT))) (iT : PySem.W.isFn K (.ref fT) = true)
    (lT : K.lookup fT = some ⟨ocT, odT, .func (PySem.W.ksFn "__init__" "Table.__init__" (defArgs sT) (defBody sT) (defScope sT) .none kVT dcT pmT anT (.ref cdaT) ctT ccT), slT⟩)
    (cT : PySem.W.codeIn K (.ref cdaT) "Table.__init__" = true) (kT : PySem.W.keepIn K (.ref fT) = true) (qT : K.lookup cdaT = some ⟨ckT, cddT, .fields vsT, csT⟩) (xT : vsT[2]? = some (.str fiT tfT)) (uT : K.lookup ccT = some ⟨lkT, ldT, .cell (some (.ref CC)), lsT⟩)
    (hcT : PySem.W.isClsIn K CC = true) (hsT : PySem.W.mroIn K CC (.ref CC) = some true) (hmT : PySem.W.ks_superIn K CC CC "__init__" = some (some (.ref fU))) (hnT : PySem.W.fnIn K fU = true) (hpT : PySem.W.nsIn K cStatics "thirdparty.any" = some none)
    (hfT : ((l.prog.main.file : Str) == fiT) = true) (htT : (l.prog.main.scope.names.lookup ("super" : Str)).isSome = false)
    (aWT : PySem.W.findIn K (.ref CW) "__init__" = some (some (.ref fWT))) (iWT : PySem.W.isFn K (.ref fWT) = true)
    (lWT : K.lookup fWT = some ⟨ocWT, odWT, .func (PySem.W.ksFn "__init__" "Wish.__init__" (defArgs sWT) (defBody sWT) (defScope sWT) .none kVWT dcWT pmWT anWT (.ref cdaWT) ctWT ccWT), slWT⟩)
    (cWT : PySem.W.codeIn K (.ref cdaWT) "Wish.__init__" = true) (kWT : PySem.W.keepIn K (.ref fWT) = true) (qWT : K.lookup cdaWT = some ⟨ckWT, cddWT, .fields vsWT, csWT⟩) (xWT : vsWT[2]? = some (.str fiWT tfWT)) (uWT : K.lookup ccWT = some ⟨lkWT, ldWT, .cell (some (.ref CW)), lsWT⟩)
    (hcWT : PySem.W.isClsIn K CW = true) (hsWT : PySem.W.mroIn K CW (.ref CW) = some true) (hmWT : PySem.W.ks_superIn K CW CW "__init__" = some (some (.ref fU))) (hnWT : PySem.W.fnIn K fU = true) (hpWT : PySem.W.nsIn K cStatics "thirdparty.any" = some none)
    (hfWT : ((l.prog.main.file : Str) == fiWT) = true) (htWT : (l.prog.main.scope.names.lookup ("super" : Str)).isSome = false)
    (aQ : PySem.W.findIn K (.ref CPE) "__init__" = some (some (.ref fQ))) (iQ : PySem.W.isFn K (.ref fQ) = true)
    (lQ : K.lookup fQ = some ⟨ocQ, odQ, .func (PySem.W.ksFn "__init__" "ParseError.__init__" (defArgs sQ) (defBody sQ) (defScope sQ) .none kVQ dcQ pmQ anQ (.ref cdaQ) ctQ ccQ), slQ⟩)
    (cQ : PySem.W.codeIn K (.ref cdaQ) "ParseError.__init__" = true) (kQ : PySem.W.keepIn K (.ref fQ) = true) (qQ : K.lookup cdaQ = some ⟨ckQ, cddQ, .fields vsQ, csQ⟩) (xQ : vsQ[2]? = some (.str fiQ tfQ)) (uQ : K.lookup ccQ = some ⟨lkQ, ldQ, .cell (some (.ref CPE)), lsQ⟩)
    (hsQ : PySem.W.mroIn K CPE (.ref CPE) = some true) (hmQ : PySem.W.ks_superIn K CPE CPE "__init__" = some (some (.builtin "ValueError.__init__"))) (hpQ : PySem.W.nsIn K cStatics "thirdparty.any" = some none)
    (hfQ : ((l.prog.main.file : Str) == fiQ) = true) (htQ : (l.prog.main.scope.names.lookup ("super" : Str)).isSome = false)
    (aG : PySem.W.findIn K (.ref CC) "is_target" = some (some (.ref pG))) (tyG : PySem.W.typeIn K (.ref pG) = some (.type "staticmethod")) (ggG : PySem.W.specialIn K (.ref pG) "__get__" = some (some (.builtin "staticmethod.__get__"))) (tkG : PySem.W.takesIn K (.ref pG) = some false) (rcG : PySem.W.recIn K pG "staticmethod" = some (.ref fG :: rsG))
    (lG : K.lookup fG = some ⟨ocG, odG, .func (PySem.W.fnOf "is_target" "Table.is_target" (defArgs sG) (defBody sG) (defScope sG) .none kVG dcG pmG anG cdG ctG), slG⟩)
    (cG : PySem.W.codeIn K cdG "Table.is_target" = true) (kG : PySem.W.keepIn K (.ref fG) = true)
    (aR : PySem.W.findIn K (.ref CC) "rows" = some (some (.ref pR))) (ggR : PySem.W.specialIn K (.ref pR) "__get__" = some (some (.builtin "property.__get__"))) (tkR : PySem.W.takesIn K (.ref pR) = some true) (rcR : PySem.W.recIn K pR "property" = some (.ref fR :: rsR))
    (lR : K.lookup fR = some ⟨ocR, odR, .func (PySem.W.fnOf "rows" "PrefixMap.rows" (defArgs sR) (defBody sR) (defScope sR) .none kVR dcR pmR anR cdR ctR), slR⟩)
    (cR : PySem.W.codeIn K cdR "PrefixMap.rows" = true) (kR : PySem.W.keepIn K (.ref fR) = true)
    (aPw : PySem.W.findIn K (.ref CC) "width" = some (some (.ref pPw))) (ggPw : PySem.W.specialIn K (.ref pPw) "__get__" = some (some (.builtin "property.__get__"))) (tkPw : PySem.W.takesIn K (.ref pPw) = some true) (rcPw : PySem.W.recIn K pPw "property" = some (.ref fPw :: rsPw))
    (lPw : K.lookup fPw = some ⟨ocPw, odPw, .func (PySem.W.fnOf "width" "PrefixMap.width" (defArgs sPw) (defBody sPw) (defScope sPw) .none kVPw dcPw pmPw anPw cdPw ctPw), slPw⟩)
    (cPw : PySem.W.codeIn K cdPw "PrefixMap.width" = true) (kPw : PySem.W.keepIn K (.ref fPw) = true)
    (rdC : PySem.W.readsIn K CC (.type "type") = true) (sgC : PySem.W.specialIn K (.ref CC) "__getattribute__" = some (some (.builtin "type.__getattribute__")))
    (atG : PySem.W.findCls K (.ref CC) (.type "type") "is_target" = some (.get (.builtin "staticmethod.__get__") (.ref pG) .none (.ref CC)))
    (aWR : PySem.W.findIn K (.ref CW) "rows" = some (some (.ref pR)))
    (aWPw : PySem.W.findIn K (.ref CW) "width" = some (some (.ref pPw)))
    (aWEq : PySem.W.findIn K (.ref CW) "__eq__" = some (some (.ref fEq)))
    (aRE : PySem.W.nsIn K mainGlobals "RouteError" = some (some (.ref CRE))) (exRE : PySem.W.excIn K CRE [.type "ValueError", .type "Exception", .type "BaseException", .type "object"] "ValueError.__new__" = true) (ekRE : PySem.W.keepIn K (.ref CRE) = true) (ebRE : PySem.W.subIn K (.ref CRE) (.type "BaseException") = some true) (etRE : PySem.W.typeIn K (.ref CRE) = some (.type "type")) (eiRE : PySem.W.isClsIn K CRE = true) (ehRE : PySem.W.hasDictIn K CRE = true)
    (aPE : PySem.W.nsIn K mainGlobals "ParseError" = some (some (.ref CPE))) (oxPE : oexB K CPE = true) (saPE : PySem.W.findIn K (.ref CPE) "__setattr__" = some (some (.builtin "object.__setattr__"))) (ekPE : PySem.W.keepIn K (.ref CPE) = true) (ebPE : PySem.W.subIn K (.ref CPE) (.type "BaseException") = some true) (etPE : PySem.W.typeIn K (.ref CPE) = some (.type "type")) (eiPE : PySem.W.isClsIn K CPE = true) (ehPE : PySem.W.hasDictIn K CPE = true) (hvPE : PySem.W.subIn K (.ref CPE) (.type "ValueError") = some true)
    (q1 : PySem.W.findIn K (.ref CC) "__class__" = some (some (.builtin "object.__class__")))
    (q2 : PySem.W.specialIn K (.builtin "object.__class__") "__get__" = some (some (.builtin "getset_descriptor.__get__")))
    (q3 : PySem.W.takesIn K (.builtin "object.__class__") = some true)
    (q4 : PySem.W.mroIn K CC (.type "object") = some true)
    (q5 : PySem.W.findIn K (.ref CC) "__ne__" = some (some (.builtin "object.__ne__")))
    (q6 : PySem.W.isClsIn K CD = true)
    (q7 : PySem.W.typeIn K (.ref CD) = some (.type "type"))
    (q8 : PySem.W.mroIn K CC (.ref CD) = some true)
    (r1 : PySem.W.findIn K (.ref CW) "__class__" = some (some (.builtin "object.__class__")))
    (r2 : PySem.W.specialIn K (.builtin "object.__class__") "__get__" = some (some (.builtin "getset_descriptor.__get__")))
    (r3 : PySem.W.takesIn K (.builtin "object.__class__") = some true)
    (r4 : PySem.W.mroIn K CW (.type "object") = some true)
    (r5 : PySem.W.findIn K (.ref CW) "__ne__" = some (some (.builtin "object.__ne__")))
    (r6 : PySem.W.isClsIn K CD = true)
    (r7 : PySem.W.typeIn K (.ref CD) = some (.type "type"))
    (r8 : PySem.W.mroIn K CW (.ref CD) = some true)
    (kiC : PySem.W.kitOne K (.ref CC) (.ref CC) = some true)
    (kiW : PySem.W.kitOne K (.ref CW) (.ref CC) = some false)
    (y1 : PySem.W.findIn K (.ref CPE) "__getattribute__" = some (some (.builtin "BaseException.__getattribute__")))
    (y2 : PySem.W.findIn K (.ref CPE) "__getattr__" = some none)
    (y3 : PySem.W.findIn K (.ref CPE) "__class__" = some (some (.builtin "object.__class__")))
    (y4 : PySem.W.mroIn K CPE (.type "object") = some true)
    (y5 : PySem.W.subIn K (.ref CPE) (.ref CRE) = some true)
    (kiP : PySem.W.kitOne K (.ref CPE) (.ref CPE) = some true)
    (noPE : PySem.W.findIn K (.ref CPE) "line" = some none)
    (vZ : PySem.W.nsIn K mainGlobals "WIDEST" = some (some (.int 32 tkZ)))
    (vE : PySem.W.nsIn K mainGlobals "LONGEST_TARGET" = some (some (.int 8 tkE)))
    (vO : PySem.W.nsIn K mainGlobals "LETTERS" = some (some (.str letters tkO)))
    (vEp : PySem.W.nsIn K mainGlobals "EMPTY_PREFIX" = some (some (.str "*" tkEp)))
    (vNt : PySem.W.nsIn K mainGlobals "NO_TARGET" = some (some (.str "-" tkNt)))
    (z0 : PySem.W.nsIn K mainGlobals "list" = some none)
    (z1 : PySem.W.nsIn K mainGlobals "len" = some none)
    (z2 : PySem.W.nsIn K mainGlobals "range" = some none)
    (z3 : PySem.W.nsIn K mainGlobals "min" = some none)
    (z4 : PySem.W.nsIn K mainGlobals "isinstance" = some none)
    (z5 : PySem.W.nsIn K mainGlobals "str" = some none)
    (z6 : PySem.W.nsIn K mainGlobals "int" = some none)
    (z7 : PySem.W.nsIn K mainGlobals "bool" = some none)
    (z8 : PySem.W.nsIn K mainGlobals "dict" = some none)
    (z9 : PySem.W.nsIn K mainGlobals "sorted" = some none)
    (z10 : PySem.W.nsIn K mainGlobals "super" = some none)
    (z11 : PySem.W.nsIn K mainGlobals "tuple" = some none)
    (z12 : PySem.W.nsIn K mainGlobals "set" = some none)
    (z13 : PySem.W.nsIn K mainGlobals "type" = some none)
    (z14 : PySem.W.nsIn K mainGlobals "enumerate" = some none)
    (z15 : PySem.W.nsIn K mainGlobals "all" = some none)
    (z16 : PySem.W.nsIn K mainGlobals "repr" = some none)
    : ∃ fd : FuncData, (∀ (s : Shared) (v : Value), BindsTo s fd ⟨[v], []⟩ [("script", v)]) ∧ ∀ base : Heap, K.In base → base.Ns mainGlobals mg → (∃ mm, base.Ns sysModules mm) → FnG l.prog w K mg base 10 fa fd ["script"] (spLaw K) := by
  have e := hfa.symm.trans (PySem.W.mg_of X G aL)
  cases e
  have FP := fun_mk (st := sP) lP cP kP
  have bP := FP.binds (ps := ["script"]) fun _ _ _ _ _ _ us hl => match us, hl with | [_], _ => rfl
  have gP := PySem.W.mg_of X G aP
  have FN := fun_mk (st := sN) lN cN kN
  have bN := FN.binds (ps := ["pen"]) fun _ _ _ _ _ _ us hl => match us, hl with | [_], _ => rfl
  have gN := PySem.W.mg_of X G aN
  have FDr := fun_mk (st := sDr) lDr cDr kDr
  have bDr := FDr.binds (ps := ["pen", "below"]) fun _ _ _ _ _ _ us hl => match us, hl with | [_, _], _ => rfl
  have gDr := PySem.W.mg_of X G aDr
  have FB := fun_mk (st := sB) lB cB kB
  have bB := FB.binds (ps := ["pen", "size"]) fun _ _ _ _ _ _ us hl => match us, hl with | [_, _], _ => rfl
  have gB := PySem.W.mg_of X G aB
  have FS := fun_mk (st := sS) lS cS kS
  have bS := FS.binds (ps := ["pen"]) fun _ _ _ _ _ _ us hl => match us, hl with | [_], _ => rfl
  have gS := PySem.W.mg_of X G aS
  have FX := fun_mk (st := sX) lX cX kX
  have bX := FX.binds (ps := ["pen", "size", "most"]) fun _ _ _ _ _ _ us hl => match us, hl with | [_, _, _], _ => rfl
  have gX := PySem.W.mg_of X G aX
  have FH := fun_mk (st := sH) lH cH kH
  have bH := FH.binds (ps := ["text", "signs"]) fun _ _ _ _ _ _ us hl => match us, hl with | [_, _], _ => rfl
  have gH := PySem.W.mg_of X G aH
  have FI := fun_mk (st := sI) lI cI kI
  have bI := FI.binds (ps := ["thing", "width"]) fun _ _ _ _ _ _ us hl => match us, hl with | [_, _], _ => rfl
  have gI := PySem.W.mg_of X G aI
  have FWo := fun_mk (st := sWo) lWo cWo kWo
  have bWo := FWo.binds (ps := ["thing"]) fun _ _ _ _ _ _ us hl => match us, hl with | [_], _ => rfl
  have gWo := PySem.W.mg_of X G aWo
  have FV := fun_mk (st := sV) lV cV kV
  have bV := FV.binds (ps := ["thing"]) fun _ _ _ _ _ _ us hl => match us, hl with | [_], _ => rfl
  have gV := PySem.W.mg_of X G aV
  have FY := fun_mk (st := sY) lY cY kY
  have bY := FY.binds (ps := ["pen", "size", "most"]) fun _ _ _ _ _ _ us hl => match us, hl with | [_, _, _], _ => rfl
  have gY := PySem.W.mg_of X G aY
  have FWa := fun_mk (st := sWa) lWa cWa kWa
  have bWa := FWa.binds (ps := ["pen", "size", "most"]) fun _ _ _ _ _ _ us hl => match us, hl with | [_, _, _], _ => rfl
  have gWa := PySem.W.mg_of X G aWa
  have FSo := fun_mk (st := sSo) lSo cSo kSo
  have bSo := FSo.binds (ps := ["some"]) fun _ _ _ _ _ _ us hl => match us, hl with | [_], _ => rfl
  have gSo := PySem.W.mg_of X G aSo
  have FFr := fun_mk (st := sFr) lFr cFr kFr
  have bFr := FFr.binds (ps := ["prefix", "targets"]) fun _ _ _ _ _ _ us hl => match us, hl with | [_, _], _ => rfl
  have gFr := PySem.W.mg_of X G aFr
  have FFm := fun_mk (st := sFm) lFm cFm kFm
  have bFm := FFm.binds (ps := ["some"]) fun _ _ _ _ _ _ us hl => match us, hl with | [_], _ => rfl
  have gFm := PySem.W.mg_of X G aFm
  have FIp := fun_mk (st := sIp) lIp cIp kIp
  have bIp := FIp.binds (ps := ["word", "width"]) fun _ _ _ _ _ _ us hl => match us, hl with | [_, _], _ => rfl
  have gIp := PySem.W.mg_of X G aIp
  have FPh := fun_mk (st := sPh) lPh cPh kPh
  have bPh := FPh.binds (ps := ["line"]) fun _ _ _ _ _ _ us hl => match us, hl with | [_], _ => rfl
  have gPh := PySem.W.mg_of X G aPh
  have FPr := fun_mk (st := sPr) lPr cPr kPr
  have bPr := FPr.binds (ps := ["line", "width", "index"]) fun _ _ _ _ _ _ us hl => match us, hl with | [_, _, _], _ => rfl
  have gPr := PySem.W.mg_of X G aPr
  have FPm := fun_mk (st := sPm) lPm cPm kPm
  have bPm := FPm.binds (ps := ["text"]) fun _ _ _ _ _ _ us hl => match us, hl with | [_], _ => rfl
  have gPm := PySem.W.mg_of X G aPm
  have FRw := fun_mk (st := sRw) lRw cRw kRw
  have bRw := FRw.binds (ps := ["pen", "kind", "size", "most"]) fun _ _ _ _ _ _ us hl => match us, hl with | [_, _, _, _], _ => rfl
  have gRw := PySem.W.mg_of X G aRw
  have FTx := fun_mk (st := sTx) lTx cTx kTx
  have bTx := FTx.binds (ps := ["kind", "size", "rows_given"]) fun _ _ _ _ _ _ us hl => match us, hl with | [_, _, _], _ => rfl
  have gTx := PySem.W.mg_of X G aTx
  have FOc := fun_mk (st := sOc) lOc cOc kOc
  have bOc := FOc.binds (ps := ["thing"]) fun _ _ _ _ _ _ us hl => match us, hl with | [_], _ => rfl
  have gOc := PySem.W.mg_of X G aOc
  have FIt := fun_mk (st := sIt) lIt cIt kIt
  have bIt := FIt.binds (ps := ["word"]) fun _ _ _ _ _ _ us hl => match us, hl with | [_], _ => rfl
  have gIt := PySem.W.mg_of X G aIt
  have FHf := fun_mk (st := sHf) lHf cHf kHf
  have bHf := FHf.binds (ps := ["line"]) fun _ _ _ _ _ _ us hl => match us, hl with | [_], _ => rfl
  have gHf := PySem.W.mg_of X G aHf
  have FRf := fun_mk (st := sRf) lRf cRf kRf
  have bRf := FRf.binds (ps := ["kind", "size", "last", "line"]) fun _ _ _ _ _ _ us hl => match us, hl with | [_, _, _, _], _ => rfl
  have gRf := PySem.W.mg_of X G aRf
  have FFo := fun_mk (st := sFo) lFo cFo kFo
  have bFo := FFo.binds (ps := ["lines"]) fun _ _ _ _ _ _ us hl => match us, hl with | [_], _ => rfl
  have gFo := PySem.W.mg_of X G aFo
  have FCh := fun_mk (st := sCh) lCh cCh kCh
  have bCh := FCh.binds (ps := ["pen", "lines"]) fun _ _ _ _ _ _ us hl => match us, hl with | [_, _], _ => rfl
  have gCh := PySem.W.mg_of X G aCh
  have FAny := fun_mk (st := sAny) lAny cAny kAny
  have bAny := FAny.binds (ps := ["pen", "levels"]) fun _ _ _ _ _ _ us hl => match us, hl with | [_, _], _ => rfl
  have gAny := PySem.W.mg_of X G aAny
  have FL := fun_mk (st := sL) lL cL kL
  have clD : Cls K CD := ⟨pgD, hdD, poD, saD⟩
  have gD := PySem.W.mg_of X G aD
  have clC : Cls K CC := ⟨pgC, hdC, poC, saC⟩
  have gC := PySem.W.mg_of X G aC
  have clW : Cls K CW := ⟨pgW, hdW, poW, saW⟩
  have gW := PySem.W.mg_of X G aW
  have FK := fun_mk (st := sK) lK cK kK
  have bK := FK.binds (ps := ["self", "value"]) fun _ _ _ _ _ _ us hl => match us, hl with | [_, _], _ => rfl
  have mtK : Meth K CC "_checked" fK := ⟨aK, iK, kK⟩
  have FU := fun_mk (st := sU) lU cU kU
  have bU := FU.binds (ps := ["self", "width", "rows"]) fun _ _ _ _ _ _ us hl => match us, hl with | [_, _, _], _ => rfl
  have MD : Mk K CD fU := ⟨mkD, aU, iU, kcD⟩
  have FWK := fun_mk (st := sWK) lWK cWK kWK
  have bWK := FWK.binds (ps := ["self", "value"]) fun _ _ _ _ _ _ us hl => match us, hl with | [_, _], _ => rfl
  have mtWK : Meth K CW "_checked" fWK := ⟨aWK, iWK, kWK⟩
  have FEq := fun_mk (st := sEq) lEq cEq kEq
  have bEq := FEq.binds (ps := ["self", "other"]) fun _ _ _ _ _ _ us hl => match us, hl with | [_, _], _ => rfl
  have mtEq : Meth K CC "__eq__" fEq := ⟨aEq, iEq, kEq⟩
  have FT : FunS K fiT "__init__" "Table.__init__" sT fT CC _ := ⟨⟨_, _, _, _, _, _, _, _, _, _, _, _, _, _, _, _, _, _, rfl, lT, cT, qT, xT, uT⟩, kT⟩
  have bT : L2.Binds K (PySem.W.ksFn "__init__" "Table.__init__" (defArgs sT) (defBody sT) (defScope sT) .none kVT dcT pmT anT (.ref cdaT) ctT ccT) ["self", "width", "rows"] [] := .all fun us hl => match us, hl with | [_, _, _], _ => rfl
  have MC : Mk K CC fT := ⟨mkC, aT, iT, kcC⟩
  have FWT : FunS K fiWT "__init__" "Wish.__init__" sWT fWT CW _ := ⟨⟨_, _, _, _, _, _, _, _, _, _, _, _, _, _, _, _, _, _, rfl, lWT, cWT, qWT, xWT, uWT⟩, kWT⟩
  have bWT : L2.Binds K (PySem.W.ksFn "__init__" "Wish.__init__" (defArgs sWT) (defBody sWT) (defScope sWT) .none kVWT dcWT pmWT anWT (.ref cdaWT) ctWT ccWT) ["self", "width", "rows"] [] := .all fun us hl => match us, hl with | [_, _, _], _ => rfl
  have MW : Mk K CW fWT := ⟨mkW, aWT, iWT, kcW⟩
  have FQ : FunS K fiQ "__init__" "ParseError.__init__" sQ fQ CPE _ := ⟨⟨_, _, _, _, _, _, _, _, _, _, _, _, _, _, _, _, _, _, rfl, lQ, cQ, qQ, xQ, uQ⟩, kQ⟩
  have bQ : L2.Binds K (PySem.W.ksFn "__init__" "ParseError.__init__" (defArgs sQ) (defBody sQ) (defScope sQ) .none kVQ dcQ pmQ anQ (.ref cdaQ) ctQ ccQ) ["self", "line"] [] := .all fun us hl => match us, hl with | [_, _], _ => rfl
  have tyQ : PySem.W.typeIn K (.ref fQ) = some (.type "function") := beq_iff_eq.mp iQ
  have FG := fun_mk (st := sG) lG cG kG
  have bG := FG.binds (ps := ["thing"]) fun _ _ _ _ _ _ us hl => match us, hl with | [_], _ => rfl
  have SG : SMeth K CC "is_target" pG fG := ⟨aG, tyG, ggG, tkG, by decide +kernel, ⟨_, rcG⟩, kG⟩
  have FR := fun_mk (st := sR) lR cR kR
  have bR := FR.binds (ps := ["self"]) fun _ _ _ _ _ _ us hl => match us, hl with | [_], _ => rfl
  have PR : PropOf K CC "rows" pR fR := ⟨aR, ggR, tkR, ⟨_, rcR⟩⟩
  have FPw := fun_mk (st := sPw) lPw cPw kPw
  have bPw := FPw.binds (ps := ["self"]) fun _ _ _ _ _ _ us hl => match us, hl with | [_], _ => rfl
  have PPw : PropOf K CC "width" pPw fPw := ⟨aPw, ggPw, tkPw, ⟨_, rcPw⟩⟩
  have RCC : ClX.CRead K CC (.type "type") := ⟨rdC, sgC⟩
  have csG : CSta K CC (.type "type") "is_target" pG fG := ⟨atG, ⟨_, rcG⟩, kG⟩
  have FWR := FR
  have bWR := bR
  have PWR : PropOf K CW "rows" pR fR := ⟨aWR, ggR, tkR, ⟨_, rcR⟩⟩
  have FWPw := FPw
  have bWPw := bPw
  have PWPw : PropOf K CW "width" pPw fPw := ⟨aWPw, ggPw, tkPw, ⟨_, rcPw⟩⟩
  have FWEq := FEq
  have bWEq := bEq
  have mtWEq : Meth K CW "__eq__" fEq := ⟨aWEq, iEq, kEq⟩
  have gRE := PySem.W.mg_of X G aRE
  have ERE : ExF K CRE := ⟨exRE, ekRE, ebRE, etRE, eiRE⟩
  have gPE := PySem.W.mg_of X G aPE
  have OPE := oexC_of oxPE saPE ebPE etPE ekPE
  have wZ := PySem.W.mg_of X G vZ
  have wE := PySem.W.mg_of X G vE
  have wO := PySem.W.mg_of X G vO
  have wEp := PySem.W.mg_of X G vEp
  have wNt := PySem.W.mg_of X G vNt
  have m_list := PySem.W.mg_none_of X G z0
  have m_len := PySem.W.mg_none_of X G z1
  have m_range := PySem.W.mg_none_of X G z2
  have m_min := PySem.W.mg_none_of X G z3
  have m_isinstance := PySem.W.mg_none_of X G z4
  have m_str := PySem.W.mg_none_of X G z5
  have m_int := PySem.W.mg_none_of X G z6
  have m_bool := PySem.W.mg_none_of X G z7
  have m_dict := PySem.W.mg_none_of X G z8
  have m_sorted := PySem.W.mg_none_of X G z9
  have m_super := PySem.W.mg_none_of X G z10
  have m_tuple := PySem.W.mg_none_of X G z11
  have m_set := PySem.W.mg_none_of X G z12
  have m_type := PySem.W.mg_none_of X G z13
  have m_enumerate := PySem.W.mg_none_of X G z14
  have m_all := PySem.W.mg_none_of X G z15
  have m_repr := PySem.W.mg_none_of X G z16
  refine ⟨PySem.W.fnOf "law" "law" (defArgs sLaw) (defBody sLaw) (defScope sLaw) .none kVL dcL pmL anL cdL ctL, fun s v => .of_eq rfl, fun base _ _ sys => ?_⟩
  have xRE : PySem.W.exmOne K (.ref CPE) (.ref CRE) = some true := PySem.W.exm_ref ebRE ehRE etRE y5
  have EC : ExcC K CPE := ⟨y1, y2, ebPE, ehPE, y3, q2, q3, y4⟩
  have XC : XfC K CPE := ⟨y1, y2, ebPE, ehPE⟩
  have kP := kiP
  have OCC : ObjC K CC := ⟨q1, q2, q3, q4, q5⟩
  have OCW : ObjC K CW := ⟨r1, r2, r3, r4, r5⟩
  have iWEq := iEq
  have kC := kiC
  have kW := kiW
  have GP := (ok_pen (P := l.prog) (w := w) (base := base) (mg := mg) (k := 0) FP m_list)
  have GDr := (ok_draw (P := l.prog) (w := w) (base := base) (mg := mg) (k := 0) FDr FN bN gN m_len)
  have GB := (ok_bits (P := l.prog) (w := w) (base := base) (mg := mg) FB GDr FDr bDr gDr m_range)
  have GS := (ok_size (P := l.prog) (w := w) (base := base) (mg := mg) FS GDr FDr bDr gDr m_len)
  have GX := (ok_prefixes (P := l.prog) (w := w) (base := base) (mg := mg) FX (GDr.mono (by decide)) FDr bDr gDr GB FB bB gB m_range m_len m_min)
  have GI := (ok_pfx (P := l.prog) (w := w) (base := base) (mg := mg) (k := 0) FI FH bH gH m_isinstance m_str m_len)
  have GWo := (ok_whole (P := l.prog) (w := w) (base := base) (mg := mg) (k := 0) FWo m_isinstance m_int m_bool)
  have GV := (ok_width (P := l.prog) (w := w) (base := base) (mg := mg) FV GWo FWo bWo gWo wZ)
  have GY := (ok_lines (P := l.prog) (w := w) (base := base) (mg := mg) FY (GDr.mono (by decide)) FDr bDr gDr GX FX bX gX m_dict)
  have GG := (ok_tgt (P := l.prog) (w := w) (base := base) (mg := mg) (k := 0) FG FH bH gH m_isinstance m_str m_len wE wO)
  have GK := (ok_tchk (P := l.prog) (w := w) (base := base) (mg := mg) (C := CC) FK (⟨clC, nC_width, nC_rows⟩ : ClsF K CC) SG GG bG)
  have GU := (ok_init (P := l.prog) (w := w) (base := base) (mg := mg) FU (⟨clC, nC_width, nC_rows⟩ : ClsF K CC) (GV.mono (by decide : _ ≤ 3)) FV bV gV (GI.mono (by decide : _ ≤ 3)) FI bI gI GK mtK bK m_isinstance m_dict m_sorted)
  have GT := (ok_tinit (P := l.prog) (w := w) (base := base) (mg := mg) FT GU bU hnT (beq_iff_eq.mp iU) (Option.isSome_iff_exists.mp hcT) hsT hmT hpT m_super hfT htT)
  have GWK := ok_WK (P := l.prog) (w := w) (base := base) (mg := mg) (k := 2) FWK m_tuple m_list m_isinstance gC RCC (GG.mono (by decide)) csG bG m_set m_len m_sorted
  have FWU := FU
  have bWU := bU
  have GWU := ok_WU (P := l.prog) (w := w) (base := base) (mg := mg) (k := 3) FWU (GV.mono (by decide)) FV bV gV m_dict m_isinstance (GI.mono (by decide)) FI bI gI clW nW_width m_sorted (GWK.mono (by decide)) mtWK bWK nW_rows
  have GWT := (ok_wtinit (P := l.prog) (w := w) (base := base) (mg := mg) FWT GWU bU hnWT (beq_iff_eq.mp iU) (Option.isSome_iff_exists.mp hcWT) hsWT hmWT hpWT m_super hfWT htWT)
  have GR := (ok_rows (P := l.prog) (w := w) (base := base) (mg := mg) (k := 0) FR (⟨clC, nC_width, nC_rows⟩ : ClsF K CC) m_dict)
  have GWR := (ok_rows (P := l.prog) (w := w) (base := base) (mg := mg) (k := 0) FWR (⟨clW, nW_width, nW_rows⟩ : ClsF K CW) m_dict)
  have GPw := (ok_widthP (P := l.prog) (w := w) (base := base) (mg := mg) (k := 0) FPw (⟨clC, nC_width, nC_rows⟩ : ClsF K CC))
  have GWPw := (ok_widthP (P := l.prog) (w := w) (base := base) (mg := mg) (k := 0) FWPw (⟨clW, nW_width, nW_rows⟩ : ClsF K CW))
  have GEq := (ok_eqm (P := l.prog) (w := w) (base := base) (mg := mg) (k := 0) FEq (⟨clC, nC_width, nC_rows⟩ : ClsF K CC) m_isinstance m_type gD (kit_own q6 q7 q8) mkC (⟨q1, q2, q3, q4, q5⟩ : ObjC K CC))
  have GWEq := (ok_eqmW (P := l.prog) (w := w) (base := base) (mg := mg) (k := 0) FWEq (⟨clW, nW_width, nW_rows⟩ : ClsF K CW) m_isinstance m_type gD (kit_own r6 r7 r8) mkW (⟨r1, r2, r3, r4, r5⟩ : ObjC K CW))
  have GWa := ok_Wa (P := l.prog) (w := w) (base := base) (mg := mg) (k := 4) FWa (GX.mono (by decide)) FX bX gX (GDr.mono (by decide)) FDr bDr gDr
  have GSo := ok_So (P := l.prog) (w := w) (base := base) (mg := mg) (k := 0) FSo m_sorted m_tuple
  have GFr := ok_Fr (P := l.prog) (w := w) (base := base) (mg := mg) (k := 0) FFr wEp wNt
  have GFm := ok_Fm (P := l.prog) (w := w) (base := base) (mg := mg) (k := 1) FFm OCC OCW kC kW gC m_isinstance (GPw.mono (by decide)) PPw bPw clC (GR.mono (by decide)) PR bR (GWPw.mono (by decide)) PWPw bWPw clW (GWR.mono (by decide)) PWR bWR (GFr.mono (by decide)) FFr bFr gFr
  have GIp := ok_Ip (P := l.prog) (w := w) (base := base) (mg := mg) (k := 2) FIp (GI.mono (by decide)) FI bI gI wEp
  have GQ := (ok_perr (P := l.prog) (w := w) (base := base) (mg := mg) (k := 0) FQ OPE hsQ hmQ hvPE hpQ m_super hfQ htQ noPE)
  have GPh := ok_Ph (P := l.prog) (w := w) (base := base) (mg := mg) (k := 1) FPh m_range wZ (GQ.mono (by decide)) OPE gPE aQ tyQ bQ
  have GPr := ok_Pr (P := l.prog) (w := w) (base := base) (mg := mg) (k := 3) FPr m_set m_sorted (GIp.mono (by decide)) FIp bIp gIp (GQ.mono (by decide)) OPE gPE aQ tyQ bQ gC RCC (GG.mono (by decide)) csG bG wNt wEp
  have GPm := ok_Pm (P := l.prog) (w := w) (base := base) (mg := mg) (k := 6) FPm m_str m_isinstance (GQ.mono (by decide)) OPE gPE aQ tyQ bQ (GPh.mono (by decide)) FPh bPh gPh m_enumerate (GPr.mono (by decide)) FPr bPr gPr m_len (GT.mono (by decide)) MC gC bT (GWT.mono (by decide)) MW gW bWT
  have GRw := ok_Rw (P := l.prog) (w := w) (base := base) (mg := mg) (k := 5) FRw (GY.mono (by decide)) FY bY gY (GWa.mono (by decide)) FWa bWa gWa
  have GTx := ok_Tx (P := l.prog) (w := w) (base := base) (mg := mg) (k := 1) FTx m_str m_sorted (GSo.mono (by decide)) FSo bSo gSo
  have GOc := ok_Oc (P := l.prog) (w := w) (base := base) (mg := mg) (k := 8) FOc xRE EC XC kP noPE ERE gRE (GPm.mono (by decide)) FPm bPm gPm (GFm.mono (by decide)) FFm bFm gFm gPE m_isinstance
  have GIt := ok_It (P := l.prog) (w := w) (base := base) (mg := mg) (k := 0) FIt m_all m_len
  have GHf := ok_Hf (P := l.prog) (w := w) (base := base) (mg := mg) (k := 0) FHf m_range m_str m_len
  have GRf := ok_Rf (P := l.prog) (w := w) (base := base) (mg := mg) (k := 1) FRf m_all m_len (GIt.mono (by decide)) FIt bIt gIt m_range
  have GFo := ok_Fo (P := l.prog) (w := w) (base := base) (mg := mg) (k := 2) FFo (GHf.mono (by decide)) FHf bHf gHf m_int m_range m_len (GRf.mono (by decide)) FRf bRf gRf
  have GCh := ok_Ch (P := l.prog) (w := w) (base := base) (mg := mg) (k := 2) FCh (GDr.mono (by decide)) FDr bDr gDr m_len
  have GAny := (ok_anyS (P := l.prog) (w := w) (base := base) (mg := mg) FAny (ok_anyS (P := l.prog) (w := w) (base := base) (mg := mg) FAny (ok_any0 (P := l.prog) (w := w) (base := base) (mg := mg) FAny GDr FDr bDr gDr) bAny gAny (GDr.mono (by decide)) FDr bDr gDr m_range m_dict m_len m_tuple) bAny gAny (GDr.mono (by decide)) FDr bDr gDr m_range m_dict m_len m_tuple)
  exact (ok_L (P := l.prog) (w := w) (base := base) (mg := mg) (k := 9) FL sys (GP.mono (by decide)) FP bP gP m_range (GS.mono (by decide)) FS bS gS (GRw.mono (by decide)) FRw bRw gRw (GTx.mono (by decide)) FTx bTx gTx (GDr.mono (by decide)) FDr bDr gDr (GCh.mono (by decide)) FCh bCh gCh (GFo.mono (by decide)) FFo bFo gFo (GOc.mono (by decide)) FOc bOc gOc m_repr (GAny.mono (by decide)) FAny bAny gAny m_str m_isinstance).mono (by decide)
end Kt
open PySem PySem.W PyProof.Rows
set_option maxRecDepth 100000 in
set_option maxHeartbeats 0 in
theorem PySem.Challenge.cw_keptroutes_k17_texts_that_are_none_holds : PySem.Challenge.rw_keptroutes_k17_texts_that_are_none.Holds := by
  refine Kt.head0 ?_
  k_fill
  refine Kt.walkG (l := PySem.Challenge.rw_keptroutes_k17_texts_that_are_none) (n := 63) (k := 10) (x := "script") (sp := fun w => Kt.spLaw _) rfl (by decide) rfl ?him ⟨rfl, by decide, by decide⟩ (fun w h Y => PySem.W.kIn_of Y) ?F (fun _ _ a ns hl hS => ⟨a, ns, rfl, hS, hl, fun _ => rfl⟩)
  case him => rfl
  case F =>
    intro w mg fa h KX G hmg
    refine' Kt.all_mk KX G hmg ?aP ?lP ?cP ?kP ?aN ?lN ?cN ?kN ?aDr ?lDr ?cDr ?kDr ?aB ?lB ?cB ?kB ?aS ?lS ?cS ?kS ?aX ?lX ?cX ?kX ?aH ?lH ?cH ?kH ?aI ?lI ?cI ?kI ?aWo ?lWo ?cWo ?kWo ?aV ?lV ?cV ?kV ?aY ?lY ?cY ?kY ?aWa ?lWa ?cWa ?kWa ?aSo ?lSo ?cSo ?kSo ?aFr ?lFr ?cFr ?kFr ?aFm ?lFm ?cFm ?kFm ?aIp ?lIp ?cIp ?kIp ?aPh ?lPh ?cPh ?kPh ?aPr ?lPr ?cPr ?kPr ?aPm ?lPm ?cPm ?kPm ?aRw ?lRw ?cRw ?kRw ?aTx ?lTx ?cTx ?kTx ?aOc ?lOc ?cOc ?kOc ?aIt ?lIt ?cIt ?kIt ?aHf ?lHf ?cHf ?kHf ?aRf ?lRf ?cRf ?kRf ?aFo ?lFo ?cFo ?kFo ?aCh ?lCh ?cCh ?kCh ?aAny ?lAny ?cAny ?kAny ?aL ?lL ?cL ?kL ?aD ?pgD ?hdD ?poD ?saD ?mkD ?kcD ?aC ?pgC ?hdC ?poC ?saC ?mkC ?kcC ?nC_width ?nC_rows ?aW ?pgW ?hdW ?poW ?saW ?mkW ?kcW ?nW_width ?nW_rows ?aK ?iK ?lK ?cK ?kK ?aU ?iU ?lU ?cU ?kU ?aWK ?iWK ?lWK ?cWK ?kWK ?aEq ?iEq ?lEq ?cEq ?kEq ?aT ?iT ?lT ?cT ?kT ?qT ?xT ?uT ?hcT ?hsT ?hmT ?hnT ?hpT ?hfT ?htT ?aWT ?iWT ?lWT ?cWT ?kWT ?qWT ?xWT ?uWT ?hcWT ?hsWT ?hmWT ?hnWT ?hpWT ?hfWT ?htWT ?aQ ?iQ ?lQ ?cQ ?kQ ?qQ ?xQ ?uQ ?hsQ ?hmQ ?hpQ ?hfQ ?htQ ?aG ?tyG ?ggG ?tkG ?rcG ?lG ?cG ?kG ?aR ?ggR ?tkR ?rcR ?lR ?cR ?kR ?aPw ?ggPw ?tkPw ?rcPw ?lPw ?cPw ?kPw ?rdC ?sgC ?atG ?aWR ?aWPw ?aWEq ?aRE ?exRE ?ekRE ?ebRE ?etRE ?eiRE ?ehRE ?aPE ?oxPE ?saPE ?ekPE ?ebPE ?etPE ?eiPE ?ehPE ?hvPE ?q1 ?q2 ?q3 ?q4 ?q5 ?q6 ?q7 ?q8 ?r1 ?r2 ?r3 ?r4 ?r5 ?r6 ?r7 ?r8 ?kiC ?kiW ?y1 ?y2 ?y3 ?y4 ?y5 ?kiP ?noPE ?vZ ?vE ?vO ?vEp ?vNt ?z0 ?z1 ?z2 ?z3 ?z4 ?z5 ?z6 ?z7 ?z8 ?z9 ?z10 ?z11 ?z12 ?z13 ?z14 ?z15 ?z16
    (case aPE => k_is); (case aP => k_is); (case lP => k_is); (case cP => k_is); (case kP => k_is); (case aN => k_is); (case lN => k_is); (case cN => k_is); (case kN => k_is); (case aDr => k_is); (case lDr => k_is); (case cDr => k_is); (case kDr => k_is); (case aB => k_is); (case lB => k_is); (case cB => k_is); (case kB => k_is); (case aS => k_is); (case lS => k_is); (case cS => k_is); (case kS => k_is); (case aX => k_is); (case lX => k_is); (case cX => k_is); (case kX => k_is); (case aH => k_is); (case lH => k_is); (case cH => k_is); (case kH => k_is); (case aI => k_is); (case lI => k_is); (case cI => k_is); (case kI => k_is); (case aWo => k_is); (case lWo => k_is); (case cWo => k_is); (case kWo => k_is); (case aV => k_is); (case lV => k_is); (case cV => k_is); (case kV => k_is); (case aY => k_is); (case lY => k_is); (case cY => k_is); (case kY => k_is); (case aWa => k_is); (case lWa => k_is); (case cWa => k_is); (case kWa => k_is); (case aSo => k_is); (case lSo => k_is); (case cSo => k_is); (case kSo => k_is); (case aFr => k_is); (case lFr => k_is); (case cFr => k_is); (case kFr => k_is); (case aFm => k_is); (case lFm => k_is); (case cFm => k_is); (case kFm => k_is); (case aIp => k_is); (case lIp => k_is); (case cIp => k_is); (case kIp => k_is); (case aPh => k_is); (case lPh => k_is); (case cPh => k_is); (case kPh => k_is); (case aPr => k_is); (case lPr => k_is); (case cPr => k_is); (case kPr => k_is); (case aPm => k_is); (case lPm => k_is); (case cPm => k_is); (case kPm => k_is); (case aRw => k_is); (case lRw => k_is); (case cRw => k_is); (case kRw => k_is); (case aTx => k_is); (case lTx => k_is); (case cTx => k_is); (case kTx => k_is); (case aOc => k_is); (case lOc => k_is); (case cOc => k_is); (case kOc => k_is); (case aIt => k_is); (case lIt => k_is); (case cIt => k_is); (case kIt => k_is); (case aHf => k_is); (case lHf => k_is); (case cHf => k_is); (case kHf => k_is); (case aRf => k_is); (case lRf => k_is); (case cRf => k_is); (case kRf => k_is); (case aFo => k_is); (case lFo => k_is); (case cFo => k_is); (case kFo => k_is); (case aCh => k_is); (case lCh => k_is); (case cCh => k_is); (case kCh => k_is); (case aAny => k_is); (case lAny => k_is); (case cAny => k_is); (case kAny => k_is); (case aL => k_is); (case lL => k_is); (case cL => k_is); (case kL => k_is); (case aD => k_is); (case pgD => k_is); (case hdD => k_is); (case poD => k_is); (case saD => k_is); (case mkD => k_is); (case kcD => k_is); (case aC => k_is); (case pgC => k_is); (case hdC => k_is); (case poC => k_is); (case saC => k_is); (case mkC => k_is); (case kcC => k_is); (case nC_width => k_is); (case nC_rows => k_is); (case aW => k_is); (case pgW => k_is); (case hdW => k_is); (case poW => k_is); (case saW => k_is); (case mkW => k_is); (case kcW => k_is); (case nW_width => k_is); (case nW_rows => k_is); (case aK => k_is); (case iK => k_is); (case lK => k_is); (case cK => k_is); (case kK => k_is); (case aU => k_is); (case iU => k_is); (case lU => k_is); (case cU => k_is); (case kU => k_is); (case aWK => k_is); (case iWK => k_is); (case lWK => k_is); (case cWK => k_is); (case kWK => k_is); (case aEq => k_is); (case iEq => k_is); (case lEq => k_is); (case cEq => k_is); (case kEq => k_is); (case aT => k_is); (case iT => k_is); (case lT => k_is); (case cT => k_is); (case kT => k_is); (case qT => k_is); (case xT => first | k_is | rfl | decide +kernel); (case uT => k_is); (case hcT => k_is); (case hsT => k_is); (case hmT => ks_is); (case hnT => k_is); (case hpT => k_is); (case hfT => first | k_is | rfl | decide +kernel); (case htT => first | k_is | rfl | decide +kernel); (case aWT => k_is); (case iWT => k_is); (case lWT => k_is); (case cWT => k_is); (case kWT => k_is); (case qWT => k_is); (case xWT => first | k_is | rfl | decide +kernel); (case uWT => k_is); (case hcWT => k_is); (case hsWT => k_is); (case hmWT => ks_is); (case hnWT => k_is); (case hpWT => k_is); (case hfWT => first | k_is | rfl | decide +kernel); (case htWT => first | k_is | rfl | decide +kernel); (case aQ => k_is); (case iQ => k_is); (case lQ => k_is); (case cQ => k_is); (case kQ => k_is); (case qQ => k_is); (case xQ => first | k_is | rfl | decide +kernel); (case uQ => k_is); (case hsQ => k_is); (case hmQ => ks_is); (case hpQ => k_is); (case hfQ => first | k_is | rfl | decide +kernel); (case htQ => first | k_is | rfl | decide +kernel); (case aG => k_is); (case tyG => k_is); (case ggG => k_is); (case tkG => k_is); (case rcG => k_is); (case lG => k_is); (case cG => k_is); (case kG => k_is); (case aR => k_is); (case ggR => k_is); (case tkR => k_is); (case rcR => k_is); (case lR => k_is); (case cR => k_is); (case kR => k_is); (case aPw => k_is); (case ggPw => k_is); (case tkPw => k_is); (case rcPw => k_is); (case lPw => k_is); (case cPw => k_is); (case kPw => k_is); (case rdC => k_is); (case sgC => k_is); (case atG => k_is); (case aWR => k_is); (case aWPw => k_is); (case aWEq => k_is); (case aRE => k_is); (case exRE => k_exc); (case ekRE => k_is); (case ebRE => k_is); (case etRE => k_is); (case eiRE => k_is); (case ehRE => k_is); (case oxPE => kernel_rfl); (case saPE => k_is); (case ekPE => k_is); (case ebPE => k_is); (case etPE => k_is); (case eiPE => k_is); (case ehPE => k_is); (case hvPE => k_is); (case q1 => k_is); (case q2 => k_is); (case q3 => k_is); (case q4 => k_is); (case q5 => k_is); (case q6 => k_is); (case q7 => k_is); (case q8 => k_is); (case r1 => k_is); (case r2 => k_is); (case r3 => k_is); (case r4 => k_is); (case r5 => k_is); (case r6 => k_is); (case r7 => k_is); (case r8 => k_is); (case kiC => kit_is); (case kiW => kit_is); (case y1 => k_is); (case y2 => k_is); (case y3 => k_is); (case y4 => k_is); (case y5 => k_is); (case kiP => kit_is); (case noPE => k_is); (case vZ => k_is); (case vE => k_is); (case vO => k_is); (case vEp => k_is); (case vNt => k_is); (case z0 => k_is); (case z1 => k_is); (case z2 => k_is); (case z3 => k_is); (case z4 => k_is); (case z5 => k_is); (case z6 => k_is); (case z7 => k_is); (case z8 => k_is); (case z9 => k_is); (case z10 => k_is); (case z11 => k_is); (case z12 => k_is); (case z13 => k_is); (case z14 => k_is); (case z15 => k_is); (case z16 => k_is)

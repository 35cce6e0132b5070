import PyProof.Rows.All
import Wide.All
import OpenK.AllK
import Wide.FinOn
import HandS.ForMost
import HandS.SortInts
import HandS.TupAny
import HandS.Conv
import KE.KIndexOf
import PyProof.ReprRoads
import PyProof.ReprLen
import HandS.IsInst
import HandS.Strs
import HandS.Rev
import HandS.Style
import HandS.TupLe
import HandS.Zip
import HandS.Comp
import HandS.SetBool
import HandS.SetFor
import HandS.TupMul
import HandS.More
import HandS.ForExc
import HandS.ExcInit
import HandS.ExcValue
import KE.KExcSuper
import KE.KExcIs
import KE.KIsAll
import HandS.Exc
import KE.KExcInit
import KE.KSuper
import HandS.WordsExc
import HandS.ExcOwn
import PyProof.CallFns
import PyProof.WalksMore
import HandS.TryOnly
import KE.KDictZip
import PyProof.ListNew
import HandS.DictComp
import HandS.Iter
import HandS.OwnEq
import KE.KCallOwn
import PyProof.Conv_bool
import PyProof.FactsAll.object
import PyProof.EqKinds
import PyProof.InstEq
import PyProof.InstNe
import HandS.Dict
import PyProof.FactsAll.NoneType
import PyProof.FactsAll.int
import PyProof.FactsAll.bool
import PyProof.FactsAll.str
import PyProof.FactsAll.list
import PyProof.FactsAll.tuple
import PyProof.FactsAll.dict
import HandS.TupSets
import KE.KeyNested
import PyProof.DictRoadsH
import PyProof.Rows.TupTab
import PyProof.SetRoads
import HandS.Walk
import HandS.SetKeys
import HandS.TupLen
import KE.KDictCopyH
import HandS.Defaults
import HandS.Lambda
import PyProof.BootLay
import HandS.EndTab
import KE.SortData
import HandS.Deep
import KE.DataFind
import HandS.Codes
import HandS.FStr
import KE.KDictSum
import HandS.Flow
import KE.KExcLine
import KE.RegKTryMore
import PyProof.ExcBaseAll.LookupError
import PyProof.ExcBaseAll.ValueError
import PyProof.InstStoreFacts
import PySem.Challenge.RW_surehand_k42_all_that_may_lie
set_option Elab.async false
set_option linter.all false
set_option maxRecDepth 100000
set_option maxHeartbeats 4000000
/-! ### B0: what every law's text uses: a def by its name, calls, the end where nothing is being written out -/
namespace Su
open PySem PySem.Spec PyProof.Rows L2
/-- a def of the text stands under its name -/
structure At (K : PySem.W.Frag) (mg : Str → Option Value) (x : Str) (st : Stmt) (ps : List Str) : Prop where
  ex : ∃ (f : Addr) (fd : FuncData), Fun K x x st f fd ∧ mg x = some (.ref f) ∧ Binds K fd ps []
/-- a def that keeps a promise may be called by its name -/
structure Cal (P : Program) (w : World) (K : PySem.W.Frag) (mg : Str → Option Value) (base : Heap) (k : Nat) (x : Str) (ps : List Str) (sp : Sp) : Prop where
  ex : ∃ (f : Addr) (fd : FuncData), FnOk P w K mg base CX0 k f fd ps sp ∧ mg x = some (.ref f) ∧ PySem.W.keepIn K (.ref f) = true ∧ Binds K fd ps [] ∧ ∃ o : Obj, K.lookup f = some o ∧ o.data = .func fd
section
variable {P : Program} {w : World} {K : PySem.W.Frag} {mg : Str → Option Value} {base : Heap}
theorem cal_of {x : Str} {st : Stmt} {N ps : List Str} {k : Nat} {sp : Sp} (T : At K mg x st ps) (S : FnScope N ps (defScope st)) (len : ∀ vs H Q E, sp vs H Q E → vs.length = ps.length)
    (hb : ∀ (f : Addr) (cdv : Value) (A : Around) (outer : List Env) (s : Shared) (H : Hp) (vs : List V) (Q : VK) (E : XK), Room k (A.deeper (envOfC x (defScope st) s.heap.objs.size f cdv)) → sp vs H Q E →
      ∃ t, PSs (cxOf CX0 P w K mg base N x (defScope st) f cdv A outer s H E).nox (defBody st) t ∧ t { nx := fun _ H' => Q .non H', rt := Q } (start N vs) H) : Cal P w K mg base (k + 1) x ps sp := by
  obtain ⟨f, fd, F, hm, b⟩ := T.ex
  have z : ∃ o : Obj, K.lookup f = some o ∧ o.data = .func fd := by
    obtain ⟨oc, od, kV, doc, pm, an, cdv, ct, osl, _, lk, _⟩ := F.ex
    exact ⟨_, lk, rfl⟩
  exact ⟨f, fd, F.ok S len (fun cdv A outer s H vs Q E => hb f cdv A outer s H vs Q E), hm, F.kp, b, z⟩
end
section
variable {X : Cx} {k j : Nat} {x : Str} {ps : List Str} {sp : Sp} {p pos : Pos} {e : Expr} {es : List Expr} {t : TA}
theorem pe_own (C : Cal X.prog X.w X.K X.mg X.base k x ps sp) (hr : Room j X.A) (hk : k ≤ j) (hg : Gl X x) (ha : PA X (e :: es) t)
    (hdb : (x == ("__debug__" : Str)) = false := by decide) (he : starEach (e :: es) X.env = (false, eval e X.env) :: starEach es X.env := by rfl) (hpl : (backTo pos (starEach es X.env)).any (·.1) = false := by rfl) :
    PE X (.Call (.Name x p) (e :: es) [] pos) (tCall sp [] E0 t) := by
  obtain ⟨f, fd, F, hm, kp, b, _⟩ := C.ex
  exact pe_call F (hr.mono hk) hg hm kp b .nil (fun _ _ _ _ _ _ _ h => h.elim) ha hdb he hpl
theorem pe_own0 (C : Cal X.prog X.w X.K X.mg X.base k x ps sp) (hr : Room j X.A) (hk : k ≤ j) (hg : Gl X x) (hdb : (x == ("__debug__" : Str)) = false := by decide) :
    PE X (.Call (.Name x p) [] [] pos) (tCall sp [] E0 tNil) := by
  obtain ⟨f, fd, F, hm, kp, b, _⟩ := C.ex
  exact pe_call0 F (hr.mono hk) hg hm kp b .nil (fun _ _ _ _ _ _ _ h => h.elim) hdb
end
/-- the same promise, asked only where no object is being written out -/
structure FnG (P : Program) (w : World) (K : PySem.W.Frag) (mg : Str → Option Value) (base : Heap) (CX : CXT) (k : Nat) (f : Addr) (fd : FuncData) (ps : List Str) (sp : Sp) : Prop where
  len : ∀ vs H Q E, sp vs H Q E → vs.length = ps.length
  run : ∀ (A : Around) (outer : List Env) (s : Shared) (H : Hp) (args : Args) (us : List Value) (vs : List V) (Q : VK) (E : XK), A.guards = some [] → Room k A → Env0 P w K mg base A outer s H →
    BindsTo s fd args (ps.zip us) → Vals vs us → sp vs H Q E → codeAny (model P w) A (.call (.ref f) args) (CR CX outer P w H s Q E) s
theorem deeper_guards {A : Around} {e : Env} (h : A.guards = some []) : (A.deeper e).guards = some [] := by
  first
    | exact h
    | simpa [Around.deeper, Around.under, pushGuards, Code.guards, Code.isGuard] using h
theorem fnG_of {CX : CXT} {P : Program} {w : World} {K : PySem.W.Frag} {mg : Str → Option Value} {base : Heap} {k : Nat} {f : Addr} {nm ql : Str} {pr : Arguments} {bd : List Stmt} {sc : Scope} {dv kv dc pm cd ct oc : Value} {an od : Option Addr}
    {sl : Array (Option Value)} {N ps : List Str} {sp : Sp}
    (lk : K.lookup f = some ⟨oc, od, .func (PySem.W.fnOf nm ql pr bd sc dv kv dc pm an cd ct), sl⟩)
    (hcd : PySem.W.codeIn K cd ql = true) (S : FnScope N ps sc) (len : ∀ vs H Q E, sp vs H Q E → vs.length = ps.length)
    (hb : ∀ (A : Around) (outer : List Env) (s : Shared) (H : Hp) (vs : List V) (Q : VK) (E : XK), (A.deeper (envOfC ql sc s.heap.objs.size f cd)).guards = some [] → Room k (A.deeper (envOfC ql sc s.heap.objs.size f cd)) → sp vs H Q E →
      ∃ t, PSs (cxOf CX P w K mg base N ql sc f cd A outer s H E) bd t ∧ t { nx := fun _ H' => Q .non H', rt := Q } (start N vs) H) :
    FnG P w K mg base CX (k + 1) f (PySem.W.fnOf nm ql pr bd sc dv kv dc pm an cd ct) ps sp := by
  refine ⟨len, fun A outer s H args us vs Q E hgd hr e0 hbi rv hs => ?_⟩
  obtain ⟨t, ht, hq⟩ := hb A outer s H vs Q E (deeper_guards hgd) (hr.deeper _) hs
  -- the very same body, as a promise that asks for this surrounding alone
  have kin : K.In s.heap := e0.mod.kin.keeps fun b o z => (e0.bs b o z).1
  have nol : s.heap.NoLimit := e0.mod.nolimit.keeps fun b o z => (e0.bs b o z).1
  refine codeAny_call_function hr.depth (kin _ _ lk) rfl S.co S.gen rfl (PySem.W.codeRec_of kin hcd) (hbi _ _ _ _ ?_)
  refine wpAny_newFunctionEnv_cells S.kind (fun y hy => ?_) fun env he s1 x => ?_
  · rcases S.par y.1 (List.of_mem_zip (show (y.1, y.2) ∈ ps.zip us from hy)).1 with z | z
    · exact Or.inl z
    · exact Or.inr ⟨z, PySem.W.cellsFrom_some _ _ _ (Or.inl z)⟩
  · subst he
    refine ⟨nol.keeps x.toInCall.keep, codeAny_func (wpAny_mono (ht.run [] s1 (start N vs) H _ (inv_start S hr.hd e0 (len _ _ _ _ hs) rv x) hq) (fun fl s' z => ?_) fun _ _ z => z)⟩
    cases fl with
    | ret u =>
      obtain ⟨v, σ', H', J, r', q'⟩ := z
      exact ⟨v, H', J.os, J.bare, J.base, J.hok, r', q'⟩
    | next =>
      obtain ⟨σ', H', J, q'⟩ := z
      exact ⟨V.non, H', J.os, J.bare, J.base, J.hok, rfl, q'⟩
    | brk => exact (z.elim fun _ z => z.elim fun _ z => False.elim z.2)
    | cont => exact (z.elim fun _ z => z.elim fun _ z => False.elim z.2)
theorem hid_ns {h : Heap} {H : Hp} {b : Addr} {m : Str → Option Value} (no : ∀ (o : Obj) (es : Array DictEntry) (ep : Nat), h.get? b = some o → o.data = .dict es ep → H b = none) (n : h.Ns b m) : (hidT h H).Ns b m := by
  obtain ⟨o, es, ep, e, d, r⟩ := n
  exact ⟨o, es, ep, hidT_get e (no o es ep e d), d, r⟩
/-- the law's call, from a promise that is asked only where no object is being written out -/
theorem law_callG {P : Program} {w : World} {K : PySem.W.Frag} {mg mb : Str → Option Value} {CX : CXT} {k : Nat} {fa a : Addr} {fd : FuncData} {x : Str} {sp : Sp} {t : Shared} {vs : List Value} {ns : List Int}
    (KX : K.In t.heap) (g1 : t.heap.Ns mainGlobals mg) (g2 : t.heap.Ns builtinsNs mb) (g3 : ∀ y : Str, y ≠ "__name__" → mb y = bootBuiltins y) (g4 : t.heap.NoLimit) (g5 : t.gens = #[])
    (ha : t.heap.get? a = some { cls := .type "list", data := .seq vs.toArray }) (hi : IntsAre vs ns) (hl : ns.length ≤ sizeLine) (hr : Room k callerA)
    (F : ∀ bs : Heap, K.In bs → bs.Ns mainGlobals mg → FnG P w K mg bs CX k fa fd [x] sp) (hbi : ∀ (s : Shared) (u : Value), BindsTo s fd ⟨[u], []⟩ [(x, u)])
    (hsp : ∀ H : Hp, Only H → SqL K H a (ns.map V.int) → sp [.ref a] H (fun v _ => v = .bl true) fun _ _ _ => False)
    (hCX : ∀ H e s', CX [] H t (fun _ _ _ => False) e s' → False) :
    codeAny (model P w) callerA (.call (.ref fa) ⟨[.ref a], []⟩) (fun r s' => r = .ok (.ret (.bool true)) ∧ OldK t.heap s'.heap ∧ s'.os = t.os ∧ AllBare s'.gens) t := by
  have rv := vals_ints hi
  have main : ∀ H : Hp, Only H → SqL K H a (ns.map V.int) → HOk P w H t.heap → (∀ b, H b ≠ none → b = a) → (H a ≠ none → K.lookup a = none) →
      codeAny (model P w) callerA (.call (.ref fa) ⟨[.ref a], []⟩) (fun r s' => r = .ok (.ret (.bool true)) ∧ OldK t.heap s'.heap ∧ s'.os = t.os ∧ AllBare s'.gens) t := by
    intro H only hS hok one out
    have no : ∀ (b : Addr) (o : Obj) (es : Array DictEntry) (ep : Nat), t.heap.get? b = some o → o.data = .dict es ep → H b = none := by
      intro b o es ep e d
      cases z : H b with
      | none => rfl
      | some u =>
        obtain rfl : b = a := one b (by rw [z]; simp)
        rw [ha] at e
        cases e
        exact absurd d (by simp)
    have kb : K.In (hidT t.heap H) := by
      intro b o e
      refine hidT_get (KX b o e) ?_
      cases z : H b with
      | none => rfl
      | some u =>
        obtain rfl : b = a := one b (by rw [z]; simp)
        rw [out (by rw [z]; simp)] at e
        cases e
    have ng : (hidT t.heap H).Ns mainGlobals mg := hid_ns (no _) g1
    have md : Mod K mg (hidT t.heap H) := ⟨kb, ng, ⟨mb, hid_ns (no _) g2, g3⟩, g4.elim fun mc h => ⟨mc, hid_ns (no _) h.1, h.2⟩⟩
    have ev : Env0 P w K mg (hidT t.heap H) callerA [] t H :=
      ⟨rfl, md, fun b o e => of_hidT e, Nat.le_of_eq (hidT_size _ _), trivial, fun b z => (List.not_mem_nil z).elim, hok, .of_eq g5⟩
    refine codeAny_mono ((F _ kb ng).run callerA [] t H ⟨[.ref a], []⟩ [.ref a] [.ref a] _ _ rfl hr ev (hbi t (.ref a)) (.cons rfl .nil) (hsp H only hS)) fun r s' h => ?_
    match r, h with
    | .error e, h => exact (hCX H e s' h).elim
    | .ok .next, h => exact False.elim h
    | .ok .brk, h => exact False.elim h
    | .ok .cont, h => exact False.elim h
    | .ok (.ret u), h =>
      obtain ⟨v, H', os, bare, un, hok2, r2, q⟩ := h
      obtain rfl : v = .bl true := q
      obtain rfl : u = Value.bool true := r2
      refine ⟨rfl, OldK.of_keep fun b o e => ?_, os, bare⟩
      rcases only b with z | ⟨ob, xs, z⟩
      · exact un.keep b o e z (fun y => (List.not_mem_nil y).elim) (by simp)
      · have y1 := (hok b _ z).1
        have y2 := (hok2 b _ (un.frzs b ob _ z)).1
        rw [e] at y1
        cases y1
        exact y2
  cases hk : K.lookup a with
  | some o =>
    have e := KX a o hk
    rw [ha] at e
    cases e
    refine main (fun _ => none) (fun _ => .inl rfl) (.inr ⟨_, vs.toArray, _, hk, rfl, rfl, rfl, ?_, ?_⟩) (fun b u z => nomatch (show (none : Option HO) = some u from z)) (fun b z => absurd rfl z) fun z => absurd rfl z
    · rw [List.size_toArray, hi.length]
      exact hl
    · simpa using rv
  | none =>
    have at1 : (fun b => if b = a then some (HO.frz { cls := .type "list", data := .seq vs.toArray } (.lst (ns.map V.int))) else none : Hp) a = some (HO.frz { cls := .type "list", data := .seq vs.toArray } (.lst (ns.map V.int))) := if_pos rfl
    refine main (fun b => if b = a then some (.frz { cls := .type "list", data := .seq vs.toArray } (.lst (ns.map V.int))) else none) (fun b => ?_) (.inl (.inr ⟨_, at1⟩)) (fun b u z => ?_) (fun b z => ?_) fun _ => hk
    · by_cases e : b = a
      · exact .inr ⟨_, _, if_pos e⟩
      · exact .inl (if_neg e)
    · by_cases e : b = a
      · subst e
        have y := at1.symm.trans z
        cases y
        exact ⟨ha, by rw [List.length_map]; exact hl, vs, _, rv, ha⟩
      · exact nomatch ((if_neg e).symm.trans z)
    · by_cases e : b = a
      · exact e
      · exact absurd (if_neg e) z
theorem walk_ofG {l : PySem.W.OpenLaw} {n k : Nat} {q : Program} {loose : List Str} {XP : (Str → Option Value) → Heap → Prop} {YP : World → Heap → Prop} {d : DefRec} {K : Params → PySem.W.Frag} {CX : CXT} {sp : PySem.W.Frag → Sp} {x : Str}
    (hn : l.most = some n) (hn2 : n ≤ sizeLine) (hdf : d.params.defaults = []) (hr : Room k callerA) (hY : ∀ (w : World) (h : Heap), YP w h → (K w.params).In h)
    (F : ∀ (w : World) (mg : Str → Option Value) (fa : Addr) (h : Heap), (K w.params).In h → h.Ns mainGlobals mg → mg d.name = some (.ref fa) →
      ∃ fd : FuncData, (∀ (s : Shared) (u : Value), BindsTo s fd ⟨[u], []⟩ [(x, u)]) ∧
        ∀ bs : Heap, (K w.params).In bs → bs.Ns mainGlobals mg → FnG l.prog w (K w.params) mg bs CX k fa fd [x] (sp (K w.params)))
    (hsp : ∀ (K : PySem.W.Frag) (H : Hp) (a : Addr) (ns : List Int), ns.length ≤ n → SqL K H a (ns.map V.int) → sp K [.ref a] H (fun v _ => v = .bl true) fun _ _ _ => False)
    (hCX : ∀ (H : Hp) (s : Shared) (e : Value) (s' : Shared), CX [] H s (fun _ _ _ => False) e s' → False) :
    PySem.W.WalkO q loose XP YP l.row.toRowW d [] (fun f vs => PySem.call f vs) := by
  refine Att.attach_call hn hdf fun w s₀ t mg mb fa o pm cd doc a vs ns G Y ho hd hcd hmg hobj hints hlen hg => ?_
  have KX := hY w _ Y
  obtain ⟨fd, hb, hF⟩ := F w mg fa _ KX G.T.g hmg
  exact law_callG KX G.T.g G.T.b G.T.builtins G.T.nolimit hg hobj hints (Nat.le_trans hlen hn2) hr hF hb (fun H _ hS => hsp (K w.params) H a ns hlen hS) fun H e s' => hCX H t e s'
end Su
/-! ### B1: repr of data, t.index(n), a call by keywords alone, data that is small enough -/
namespace Su
open PySem PySem.Spec PyProof.Rows L2
/-- data of small numbers, of depth n at most, of weight m at most -/
structure Fine (d : PyData) (n m : Nat) : Prop where
  sh : d.showable = true
  nd : d.hasDict = false
  dp : d.depth ≤ n
  lv : d.leavesShort 13 = true
  wt : d.weight ≤ m
  cl : d.canLay0 = true
structure FineL (ds : List PyData) (n m : Nat) : Prop where
  sh : PyData.showableAll ds = true
  nd : PyData.hasDictAll ds = false
  dp : PyData.depthAll ds ≤ n
  lv : PyData.leavesShortAll 13 ds = true
  wt : PyData.weightAll ds ≤ m
  cl : PyData.canLayAll0 ds = true
theorem Fine.int {i : Int} (h1 : -1000000 ≤ i) (h2 : i ≤ 1000000) : Fine (.int i) 0 40 := by
  have hb : i.natAbs < 10 ^ 12 := by omega
  have e : i.natAbs < 2 ^ 20 := by omega
  have hl : i.natAbs.log2 < 39 := by
    by_cases z : i.natAbs = 0
    · rw [z]
      decide
    · exact (Nat.log2_lt z).mpr (by omega)
  refine ⟨?_, by simp [PyData.hasDict], by simp [PyData.depth], ?_, ?_, by first | rfl | simp [PyData.canLay0]⟩
  · simp only [PyData.showable, decide_eq_true_eq]
    omega
  · simp only [PyData.leavesShort, decide_eq_true_eq]
    exact PyData.shown_int_le hb
  · simp only [PyData.weight]
    split <;> omega
theorem Fine.bool (b : Bool) : Fine (.bool b) 0 0 := ⟨by simp [PyData.showable], by simp [PyData.hasDict], by simp [PyData.depth], by simp [PyData.leavesShort], by simp [PyData.weight], by first | rfl | simp [PyData.canLay0]⟩
theorem Fine.none : Fine .none 0 0 := ⟨by simp [PyData.showable], by simp [PyData.hasDict], by simp [PyData.depth], by simp [PyData.leavesShort], by simp [PyData.weight], by first | rfl | simp [PyData.canLay0]⟩
theorem FineL.nil {n : Nat} : FineL [] n 0 := ⟨by simp [PyData.showableAll], by simp [PyData.hasDictAll], by simp [PyData.depthAll], by simp [PyData.leavesShortAll], by simp [PyData.weightAll], by first | rfl | simp [PyData.canLayAll0]⟩
theorem FineL.cons {d : PyData} {ds : List PyData} {n m k : Nat} (h : Fine d n m) (t : FineL ds n k) : FineL (d :: ds) n (m + 1 + k) := by
  refine ⟨?_, ?_, ?_, ?_, ?_, ?_⟩
  · simp only [PyData.showableAll, h.sh, t.sh, Bool.and_self]
  · simp only [PyData.hasDictAll, h.nd, t.nd, Bool.or_self]
  · simp only [PyData.depthAll]
    have := h.dp
    have := t.dp
    omega
  · simp only [PyData.leavesShortAll, h.lv, t.lv, Bool.and_self]
  · simp only [PyData.weightAll]
    have := h.wt
    have := t.wt
    omega
  · simp only [PyData.canLayAll0, h.cl, t.cl, Bool.and_self]
theorem Fine.tuple {ds : List PyData} {n m : Nat} (t : FineL ds n m) : Fine (.tuple ds) (n + 1) m :=
  ⟨by simpa only [PyData.showable] using t.sh, by simpa only [PyData.hasDict] using t.nd, by simp only [PyData.depth]; have := t.dp; omega, by simpa only [PyData.leavesShort] using t.lv, by simpa only [PyData.weight] using t.wt, by simpa only [PyData.canLay0] using t.cl⟩
theorem Fine.list {ds : List PyData} {n m : Nat} (t : FineL ds n m) : Fine (.list ds) (n + 1) m :=
  ⟨by simpa only [PyData.showable] using t.sh, by simpa only [PyData.hasDict] using t.nd, by simp only [PyData.depth]; have := t.dp; omega, by simpa only [PyData.leavesShort] using t.lv, by simpa only [PyData.weight] using t.wt, by simpa only [PyData.canLay0] using t.cl⟩
theorem Fine.up {d : PyData} {n m n' m' : Nat} (h : Fine d n m) (a : n ≤ n') (b : m ≤ m') : Fine d n' m' := ⟨h.sh, h.nd, Nat.le_trans h.dp a, h.lv, Nat.le_trans h.wt b, h.cl⟩
theorem FineL.ints : ∀ ns : List Int, (∀ z ∈ ns, -1000000 ≤ z ∧ z ≤ 1000000) → FineL (ns.map PyData.int) 0 (41 * ns.length)
  | [], _ => FineL.nil
  | z :: ns, h => by
    have a := FineL.cons (Fine.int (h z List.mem_cons_self).1 (h z List.mem_cons_self).2) (FineL.ints ns fun y hy => h y (List.mem_cons_of_mem _ hy))
    have e : 40 + 1 + 41 * ns.length = 41 * (z :: ns).length := by
      rw [List.length_cons]
      omega
    rw [e] at a
    exact a
theorem Fine.len {d : PyData} {n m : Nat} (h : Fine d n m) (hm : m ≤ 1000000) : d.shown.length ≤ sizeLine := PyData.shown_fits (B := 13) (by decide) (by decide) h.lv (by have := h.wt; omega)
theorem Fine.shaped {d : PyData} {n m : Nat} (h : Fine d n m) (hn : n ≤ 64) : SeqAt.shaped d = true := by
  unfold SeqAt.shaped
  rw [h.cl, Bool.true_and, decide_eq_true_eq]
  exact Nat.le_trans h.dp hn
theorem Fine.eqv {d : PyData} {n m : Nat} (h : Fine d n m) : PyData.eqv d d = true := SeqAt.eqv_refl d h.cl
section
variable {X : Cx}
/-- repr(x), x a list or tuple of data -/
def rReprD (K : PySem.W.Frag) : List V → Hp → VK → Prop := fun xs H Q => ∃ (a : Addr) (d : PyData) (n m : Nat), xs = [.ref a] ∧ Dp K H (.ref a) d ∧ Fine d n m ∧ n ≤ 60 ∧ m ≤ 1000000 ∧ Q (.str d.shown) H
theorem call_reprD (hg : X.A.guards = some []) (hu : X.A.units + 64 < cLine) : CallR X (.builtin "repr") (rReprD X.K) := by
  intro pins s σ H xs us Q I r h
  obtain ⟨a, d, n, m, rfl, hd, hf, hn, hm, q⟩ := h
  rw [Vals.ref1 r]
  obtain ⟨as, rd⟩ := Dp.reads I d _ (.ref a) hd rfl
  refine repr_of_reads' rd hf.sh (PyData.noDict_hsm hf.nd) hg (by have := hf.dp; omega) (fun _ _ z => z) (fun h' u tk hk => ⟨.str d.shown, H, I.kept hk, ⟨u, rfl⟩, q⟩) (hf.len hm)
/-- t.index(n), t a tuple of ints that has n -/
def rTIndex (K : PySem.W.Frag) : V → List V → Hp → VK → Prop := fun x xs H Q => ∃ (p : Addr) (ns : List Int) (k : Int), x = .ref p ∧ xs = [.int k] ∧ SqT K H p (ns.map V.int) ∧ k ∈ ns ∧ Q (.int (ns.idxOf k : Nat)) H
theorem ints_of : ∀ {ns : List Int} {vs : List Value}, Vals (ns.map V.int) vs → IntsAre vs ns
  | [], _, r => by
    cases r
    exact .nil
  | n :: ns, _, r => by
    cases r with
    | cons r1 r2 =>
      obtain ⟨t, rfl⟩ := r1
      exact .cons _ _ (ints_of r2)
theorem mt_tindex : MtR X "tuple.index" (rTIndex X.K) := by
  intro pins s σ H x xs v us Q I rx rs h
  obtain ⟨p, ns, k, rfl, rfl, hq, hk, q⟩ := h
  cases rx
  obtain ⟨u, rfl, t, rfl⟩ := vals1 rs
  obtain ⟨its, r, pl, hz⟩ := I.tuple hq
  exact PySem.SeqAt.tuple_index_ints (l := p) (vs := its) pl (ints_of r) hk ⟨.int (ns.idxOf k : Nat), H, I.tok _, ⟨_, rfl⟩, q⟩
end
section
variable {X : Cx} {k j : Nat} {x : Str} {ps ks : List Str} {sp : Sp} {p pos : Pos} {kws : List Keyword} {tk : TA}
/-- a def that keeps a promise, called by keywords alone -/
structure KCal (P : Program) (w : World) (K : PySem.W.Frag) (mg : Str → Option Value) (base : Heap) (k : Nat) (x : Str) (ks : List Str) (gV : List V → List V → List V) (sp : Sp) : Prop where
  ex : ∃ (f : Addr) (fd : FuncData) (ps : List Str) (g : List Value → List Value → List Value), FnOk P w K mg base CX0 k f fd ps sp ∧ mg x = some (.ref f) ∧ PySem.W.keepIn K (.ref f) = true ∧ KBinds K fd ps ks g gV
variable {gV : List V → List V → List V}
def tKws (sp : Sp) (gV : List V → List V → List V) (tk : TA) : TE := fun σ H Q => tk σ H fun zs H2 => sp (gV [] zs) H2 Q E0
theorem pe_ownK (C : KCal X.prog X.w X.K X.mg X.base k x ks gV sp) (hr : Room j X.A) (hk : k ≤ j) (hg : Gl X x) (hkw : PK X kws tk)
    (hall : (backToKw pos (keywordEach kws X.env)).all (·.1.isSome) = true := by rfl) (hks : (backToKw pos (keywordEach kws X.env)).filterMap (·.1) = ks := by rfl) (hdb : (x == ("__debug__" : Str)) = false := by decide)
    (hpl : ((backTo pos (starEach [] X.env)).any (·.1) || (backToKw pos (keywordEach kws X.env)).any (·.1.isNone)) = false := by rfl) : PE X (.Call (.Name x p) [] kws pos) (tKws sp gV tk) := by
  obtain ⟨f, fd, ps, g, F, hm, kp, b⟩ := C.ex
  refine ⟨fun pins s σ H Q I h => ?_⟩
  refine wpAny_Call_Name_kw (ld_glob I hg hm ?_ hdb)
  refine PySem.W.callWith_KW0 (h₀ := X.base) I.ok.mod.kin kp hall (thn (hkw.run pos pins s σ H _ I h) fun ws s2 ⟨zs, H2, I2, rz, q2⟩ => ⟨I2.kIn, ?_⟩) hpl
  rw [hks]
  exact run_fnk F (hr.mono hk) b (fun _ _ _ _ _ _ _ z => z.elim) I2 .nil rz q2
end
end Su
/-! ### B2: tuples whose object is known to have no dict: their methods may be called -/
namespace Su
open PySem PySem.Spec PyProof.Rows L2
def PTup (H : Hp) (a : Addr) (xs : List V) : Prop := ∃ o : Obj, H a = some (.frz o (.tup xs)) ∧ o.dict = none
theorem PTup.sq {K : PySem.W.Frag} {H : Hp} {a : Addr} {xs : List V} (h : PTup H a xs) : SqT K H a xs := by
  obtain ⟨o, e, _⟩ := h
  exact .inl (.inr ⟨o, e⟩)
theorem PTup.same {H H' : Hp} {a : Addr} {xs : List V} (h : PTup H a xs) (s : Same H H') : PTup H' a xs := by
  obtain ⟨o, e, d⟩ := h
  exact ⟨o, s _ _ e, d⟩
theorem same_upd {H : Hp} {p : Addr} {o : HO} (h : H p = none) : Same H (upd H p o) := fun b x e => by
  rw [upd_ne (ne_of_none e h)]
  exact e
section
variable {X : Cx} {pins : List (Addr × Obj)} {σ : L2.St} {H : Hp} {s : Shared}
/-- a new tuple's object -/
abbrev tupO (its : List Value) : Obj := { cls := .type "tuple", data := .seq its.toArray }
theorem laidF {xs : List V} {its : List Value} (I : Inv X pins σ H s) (r : Vals xs its) (hz : xs.length ≤ sizeLine) (t' : Tok) :
    Inv X pins σ (upd H s.heap.objs.size (.frz (tupO its) (.tup xs))) { s with heap := s.heap.push (tupO its), toks := t' } := by
  refine I.laid (t' := t') (o := .frz (tupO its) (.tup xs)) (fun b ob q => Heap.get?_push_of_some _ q) (Nat.le_refl _) ?_
  exact ⟨Heap.get?_push_size _ rfl, hz, its, r, IsTup.new _ _⟩
theorem newF {xs : List V} {its : List Value} {Q : VK} (I : Inv X pins σ H s) (r : Vals xs its) (hz : xs.length ≤ sizeLine) (q : ∀ v H', Same H H' → H v = none → PTup H' v xs → Q (.ref v) H') (t' : Tok) :
    EP X pins σ Q (.ref s.heap.objs.size) { s with heap := s.heap.push (tupO its), toks := t' } :=
  have hf : H s.heap.objs.size = none := I.hok.fresh (Nat.le_refl _)
  ⟨.ref s.heap.objs.size, _, laidF I r hz t', rfl, q _ _ (same_upd hf) hf ⟨_, upd_same, rfl⟩⟩
end
section
variable {X : Cx} {es : List Expr} {t : TA} {pos : Pos}
def tTupF (t : TA) : TE := fun σ H Q => t σ H fun xs H1 => xs.length ≤ sizeLine ∧ ∀ v H', Same H1 H' → H1 v = none → PTup H' v xs → Q (.ref v) H'
theorem pe_tupF {x1} (h : PA X es t) : PE X (.Tuple es x1 pos) (tTupF t) := by
  refine ⟨fun pins s σ H Q I hq => ?_⟩
  refine wpAny_Tuple_spliced (thn (h.run pos pins s σ H _ I hq) fun us s1 ⟨xs, H1, I1, r, z, q⟩ => ⟨by rw [← r.length]; exact z, ?_⟩)
  exact newF I1 r z q s1.toks
def rTupL (K : PySem.W.Frag) : List V → Hp → VK → Prop := fun xs H Q => ∃ p ys, xs = [.ref p] ∧ SqL K H p ys ∧ ∀ v H', Same H H' → H v = none → PTup H' v ys → Q (.ref v) H'
theorem call_tupleF : CallR X (.type "tuple") (rTupL X.K) := by
  intro pins s σ H xs us Q I r h
  obtain ⟨p, ys, rfl, hq, q⟩ := h
  obtain ⟨u, rfl, rx⟩ := vals1 r
  cases rx
  obtain ⟨its, r', pl, hz⟩ := I.list hq
  have hlen := r'.length
  refine call_tuple_list pl.isList (fun h' kp => ?_) (by simp only [List.size_toArray] <;> omega)
  exact newF (s := { s with heap := h' }) (I.kept (t' := s.toks) kp) r' hz q s.toks
def rCatF : R2 := fun x y H Q => ∃ a b xs ys, x = .ref a ∧ y = .ref b ∧ PTup H a xs ∧ PTup H b ys ∧ xs.length + ys.length ≤ sizeLine ∧ ∀ v H', Same H H' → PTup H' v (xs ++ ys) → Q (.ref v) H'
theorem op_catF : OpR X (binaryOp .Add) rCatF := by
  intro pins s σ H x y v u Q I rx ry h
  obtain ⟨a, b, xs, ys, rfl, rfl, ha, hb, hz, q⟩ := h
  cases rx
  cases ry
  obtain ⟨its, r1, p1, _⟩ := I.tuple (ha.sq (K := X.K))
  obtain ⟨its2, r2, p2, _⟩ := I.tuple (hb.sq (K := X.K))
  by_cases hx : xs = []
  · subst hx
    cases r1
    exact cat_tup0 p1 p2 ⟨.ref b, H, I, rfl, q b H (Same.refl H) hb⟩
  · refine HT.cat_tup p1 p2 (fun z => hx (r1.nil_iff.mp z)) (fun z => ⟨.ref a, H, I, rfl, q a H (Same.refl H) ?_⟩) (fun z => ?_) (by rw [← r1.length, ← r2.length]; exact hz)
    · rw [r2.nil_iff.mp z, List.append_nil]
      exact ha
    · exact newF I (r1.append r2) (by rw [List.length_append]; exact hz) (fun v H' s' _ h => q v H' s' h) s.toks
def rSlF : V → Option Int → Option Int → Hp → VK → Prop := fun x lo hi H Q => ∃ a xs, x = .ref a ∧ PTup H a xs ∧ ∀ v H', Same H H' → PTup H' v (cutV xs lo hi) → Q (.ref v) H'
theorem sl_tupF : SlR X rSlF := by
  intro pins s σ H x v vl vu lo hi sl Q I rx hs pl pu h
  obtain ⟨a, xs, rfl, hx, q⟩ := h
  cases rx
  obtain ⟨its, r, ht, hz⟩ := I.tuple (hx.sq (K := X.K))
  have hlen : its.toArray.size = xs.length := by rw [List.size_toArray]; exact r.length.symm
  refine ⟨"tuple", _, PyProof.Rows.slot_tuple_getitem.lookup, ht.typeIs, ?_⟩
  by_cases hw : HT.sIx xs.length 0 lo = 0 ∧ HT.sIx xs.length xs.length hi = xs.length
  · refine getItem_tuple_whole ht hs pl pu (by rw [hlen]; exact hw) ⟨.ref a, H, I, rfl, q a H (Same.refl H) ?_⟩
    have z : cutV xs lo hi = xs := by
      unfold cutV
      rw [hw.1, hw.2, Nat.sub_zero, List.drop_zero, List.take_length]
    rw [z]
    exact hx
  · refine HT.getItem_tuple_cut ht hs pl pu (by rw [hlen]; exact hw) ?_ (by rw [hlen]; exact hz)
    rw [hlen]
    exact newF I ((r.drop (HT.sIx xs.length 0 lo)).take (HT.sIx xs.length xs.length hi - HT.sIx xs.length 0 lo)) (Nat.le_trans (cutV_length xs lo hi) hz) (fun v H' s' _ h => q v H' s' h) s.toks
/-- t.m(e, ..), t such a tuple -/
def tMT (r : V → List V → Hp → VK → Prop) (to : TE) (t : TA) : TE := fun σ H Q => to σ H fun x H1 => (∃ a xs, x = .ref a ∧ PTup H1 a xs) ∧ t σ H1 fun xs H2 => r x xs H2 Q
variable {o e : Expr} {to : TE} {name : Str} {apos cpos : Pos} {id : String} {r : V → List V → Hp → VK → Prop}
theorem pe_mT (slot : Slot "tuple" name id) (hty : typeOf (.builtin id) = pure (.type "method_descriptor")) (hm : MtR X id r) (ho : PE X o to) (ha : PA X (e :: es) t)
    (hbase : attributeBase o name X.env (eval o X.env) = eval o X.env := by rfl)
    (hfew : ((backTo cpos (starEach (e :: es) X.env)).all (fun x => !x.1) && (backToKw cpos (keywordEach [] X.env)).all (fun x => x.1.isSome) && decide ((e :: es).length + ([] : List Keyword).length + (if ([] : List Keyword).isEmpty then 0 else 1) < 30)) = true := by rfl)
    (hline : (apos.endLine == cpos.line) = true := by rfl) (hs : starEach (e :: es) X.env = (false, eval e X.env) :: starEach es X.env := by rfl) (hplain : (backTo cpos (starEach es X.env)).any (·.1) = false := by rfl) :
    PE X (.Call (.Attribute o name apos) (e :: es) [] cpos) (tMT r to t) := by
  refine ⟨fun pins s σ H Q I h => ?_⟩
  refine wpAny_Call_method_late hbase hfew hline rfl (thn (ho.run pins s σ H _ I h) fun v s1 ⟨x, H1, I1, r1, ⟨a, xs, ex, pt⟩, q1⟩ => ?_)
  subst ex
  cases r1
  obtain ⟨its, rv, tp, _⟩ := I1.tuple (pt.sq (K := X.K))
  obtain ⟨ob, eo, ed⟩ := pt
  have g1 := (I1.hok a _ eo).1
  refine ⟨"tuple", id, PySem.F.plainAttrs_tuple, slot, hty, tp.typeIs, fun b eb => ?_, ?_⟩
  · cases eb
    exact ⟨ob, g1, ed⟩
  have hA := ha.run cpos pins s1 σ H1 _ I1 q1
  rw [hs] at hA ⊢
  refine Calls.callWith_builtin (by show (false || (backTo cpos (starEach es X.env)).any (·.1)) = false; rw [hplain] <;> rfl) (Calls.evalArgs_plain ?_)
  exact thn hA fun us s2 ⟨vs, H2, I2, r2, q2⟩ => hm pins s2 σ H2 (.ref a) vs _ us Q I2 rfl r2 q2
end
end Su
/-! ### PL: the pool from which a law draws -/
namespace Su
open PySem PySem.Spec PyProof.Rows L2
/-- the built-in names that the text does not bind -/
structure Bt (mg : Str → Option Value) : Prop where
  len : mg "len" = none
  sum : mg "sum" = none
  abs : mg "abs" = none
  int : mg "int" = none
  min : mg "min" = none
  max : mg "max" = none
  range : mg "range" = none
  sorted : mg "sorted" = none
  list : mg "list" = none
  tuple : mg "tuple" = none
  repr : mg "repr" = none
  set : mg "set" = none
  all : mg "all" = none
  isinstance : mg "isinstance" = none
  str : mg "str" = none
  bool : mg "bool" = none
  reversed : mg "reversed" = none
  enumerate : mg "enumerate" = none
  zip : mg "zip" = none
  any : mg "any" = none
  dict : mg "dict" = none
theorem cutV_ints (ns : List Int) (lo hi : Option Int) : ∃ ms : List Int, cutV (ns.map V.int) lo hi = ms.map V.int := by
  unfold cutV
  exact ⟨_, by rw [← List.map_drop, ← List.map_take]⟩
theorem atI_int {α : Type} {xs : List α} {i : Int} {v : α} (h0 : 0 ≤ i) (h : xs[i.toNat]? = some v) : atI xs i = some v := by
  have e := atI_nat h
  rw [Int.toNat_of_nonneg h0] at e
  exact e
theorem b01 (b : Bool) : -(2 ^ 64) < (if b = true then (1 : Int) else 0) ∧ (if b = true then (1 : Int) else 0) < 2 ^ 64 := by
  cases b <;> exact ⟨by decide, by decide⟩
/-! the pool -/
def PoolO (o : HO) : Prop := ∃ g m : Int, o = .lst [.int g, .int m] ∧ 0 ≤ g ∧ 0 ≤ m ∧ m < 2147483647
def PoolAt (H : Hp) (p : Addr) : Prop := ∃ o, H p = some o ∧ PoolO o
def spTake : Sp := fun vs H Q _ => ∃ (p : Addr) (many : Int), vs = [.ref p, .int many] ∧ PoolAt H p ∧ 1 ≤ many ∧ many < 1000000 ∧
  ∀ (r : Int) (o : HO), 0 ≤ r → r < many → PoolO o → Q (.int r) (upd H p o)
def spPool (K : PySem.W.Frag) : Sp := fun vs H Q _ => ∃ (a : Addr) (ns : List Int) (k : Int), vs = [.ref a, .int k] ∧ SqL K H a (ns.map V.int) ∧ 0 ≤ k ∧ k < 1000 ∧
  ∀ (p : Addr) (H' : Hp), Same H H' → H p = none → PoolAt H' p → Q (.ref p) H'
/-- all but what stands at p is as it was -/
def Kept (p : Addr) (H H' : Hp) : Prop := ∀ b o, H b = some o → b ≠ p → H' b = some o
theorem Kept.refl (p : Addr) (H : Hp) : Kept p H H := fun _ _ h _ => h
theorem Kept.trans {p : Addr} {H H1 H2 : Hp} (a : Kept p H H1) (b : Kept p H1 H2) : Kept p H H2 := fun c o h n => b c o (a c o h n) n
theorem Kept.same {p : Addr} {H H1 : Hp} (a : Same H H1) : Kept p H H1 := fun c o h _ => a c o h
theorem Kept.upd (p : Addr) (H : Hp) (o : HO) : Kept p H (upd H p o) := fun b x e n => by
  rw [upd_ne n]
  exact e
theorem Kept.set {p b : Addr} {H H1 : Hp} {o : HO} (a : Kept p H H1) (hb : H b = none) : Kept p H (L2.upd H1 b o) := fun c x e n => by
  rw [upd_ne (ne_of_none e hb)]
  exact a c x e n
theorem Kept.free {p b : Addr} {H H' : Hp} (a : Kept p H H') (n : b ≠ p) (h : H' b = none) : H b = none := by
  cases z : H b with
  | none => rfl
  | some o =>
    rw [a b o z n] at h
    cases h
theorem pool_ne {H : Hp} {p b : Addr} (h : PoolAt H p) (n : H b = none) : b ≠ p := by
  obtain ⟨o, e, _⟩ := h
  exact (ne_of_none e n).symm
theorem PoolAt.upd {H : Hp} {p b : Addr} {o : HO} (h : PoolAt H p) (n : p ≠ b) : PoolAt (upd H b o) p := by
  obtain ⟨x, e, z⟩ := h
  exact ⟨x, by rw [upd_ne n]; exact e, z⟩
theorem PoolAt.same {H H' : Hp} {p : Addr} (h : PoolAt H p) (s : Same H H') : PoolAt H' p := by
  obtain ⟨o, e, z⟩ := h
  exact ⟨o, s _ _ e, z⟩
theorem PTup.kept {p a : Addr} {H H' : Hp} {xs : List V} (h : PTup H a xs) (k : Kept p H H') (hp : PoolAt H p) : PTup H' a xs := by
  obtain ⟨o, e, d⟩ := h
  obtain ⟨x, e2, g, m, rfl, _⟩ := hp
  refine ⟨o, k _ _ e (fun z => ?_), d⟩
  subst z
  rw [e] at e2
  cases e2
theorem seq_kept {K : PySem.W.Frag} {p a : Addr} {H H' : Hp} {xs : List V} (k : Kept p H H') (n : a ≠ p) (h : SqL K H a xs) : SqL K H' a xs := by
  rcases h with (h | ⟨o, h⟩) | h
  · exact .inl (.inl (k _ _ h n))
  · exact .inl (.inr ⟨o, k _ _ h n⟩)
  · exact .inr h
theorem tyes {σ : L2.St} {H : Hp} {A B : Hp → Prop} (h : A H) : tYes σ H (fun b H3 => if b = true then A H3 else B H3) := (iteT h : if true = true then A H else B H)
theorem erase_map (f : Int → V) : ∀ (l : List Int) (j : Nat), (l.map f).eraseIdx j = (l.eraseIdx j).map f
  | [], _ => rfl
  | _ :: _, 0 => rfl
  | x :: l, j + 1 => by
    show f x :: (l.map f).eraseIdx j = f x :: (l.eraseIdx j).map f
    rw [erase_map f l j]
theorem free_upd {H : Hp} {a b : Addr} {o : HO} (h : upd H a o b = none) : b ≠ a ∧ H b = none := by
  by_cases e : b = a
  · subst e
    rw [upd_same] at h
    cases h
  · rw [upd_ne e] at h
    exact ⟨e, h⟩
theorem seqIx {i : Int} {n : Nat} (h0 : 0 ≤ i) (h : i < n) : seqIndex? i n = some i.toNat :=
  (ixN_seq (n := n) (i := i) (j := i.toNat) (by unfold ixN; rw [if_pos h0, if_pos h])).1
theorem erase_perm : ∀ (l : List Int) (j : Nat) (y : Int), l[j]? = some y → (y :: l.eraseIdx j).Perm l
  | [], j, y, h => by simp at h
  | x :: l, 0, y, h => by
    have e : x = y := by simpa using h
    rw [e]
    exact List.Perm.refl _
  | x :: l, j + 1, y, h => by
    have e : l[j]? = some y := by simpa using h
    exact (List.Perm.swap x y (l.eraseIdx j)).trans ((erase_perm l j y e).cons x)
abbrev rLenK (K : PySem.W.Frag) : List V → Hp → VK → Prop := fun xs H Q => ∃ p ys, xs = [.ref p] ∧ (SqL K H p ys ∨ SqT K H p ys) ∧ Q (.int ys.length) H
def spPicked (K : PySem.W.Frag) : Sp := fun vs H Q _ => ∃ (p b : Addr) (ns : List Int) (many : Int), vs = [.ref p, .ref b, .int many] ∧ PoolAt H p ∧ SqL K H b (ns.map V.int) ∧ b ≠ p ∧ ns.Nodup ∧ ns.length ≤ 1000 ∧ 0 ≤ many ∧
  ∀ (q : Addr) (H' : Hp) (ms : List Int), H q = none → Kept p H H' → PoolAt H' p → H' q = some (.lst (ms.map V.int)) → ms.Nodup → (∀ x ∈ ms, x ∈ ns) → ms.length = min many.toNat ns.length → ms.Pairwise (· ≤ ·) → Q (.ref q) H'
def hundred : List Int := (List.range 100).map fun i => ((i : Nat) : Int)
theorem hundred_rg : rgV 0 100 = hundred.map V.int := by
  unfold rgV hundred
  rw [List.map_map]
  rfl
theorem hundred_nd : hundred.Nodup := by decide +kernel
theorem hundred_len : hundred.length = 100 := rfl
theorem hundred_mem {x : Int} (h : x ∈ hundred) : 0 ≤ x ∧ x < 100 := by
  unfold hundred at h
  obtain ⟨i, hi, rfl⟩ := List.mem_map.mp h
  have := List.mem_range.mp hi
  omega
theorem cons_nil_fin {α : Type} {xs : List α} {r : Int} (n : Nat) (h : xs.length = n) (r0 : 0 ≤ r) (r1 : r < n) : ∃ v ∈ xs, atI xs r = some v := by
  have hr : r.toNat < xs.length := by omega
  exact ⟨xs[r.toNat], List.getElem_mem hr, atI_int r0 (List.getElem?_eq_getElem hr)⟩
theorem iteB {c : Bool} {A B : Prop} (h1 : c = true → A) (h2 : c = false → B) : if c = true then A else B := by
  cases c
  · exact iteF (h2 rfl)
  · exact iteT (h1 rfl)
theorem sorted_one : ∀ {xs ys : List Int}, xs.Pairwise (· < ·) → ys.Pairwise (· < ·) → (∀ k, k ∈ xs ↔ k ∈ ys) → xs = ys
  | [], [], _, _, _ => rfl
  | [], y :: ys, _, _, h => (List.not_mem_nil ((h y).mpr List.mem_cons_self)).elim
  | x :: xs, [], _, _, h => (List.not_mem_nil ((h x).mp List.mem_cons_self)).elim
  | x :: xs, y :: ys, hx, hy, h => by
    have px := List.pairwise_cons.mp hx
    have py := List.pairwise_cons.mp hy
    have e : x = y := by
      rcases List.mem_cons.mp ((h x).mp List.mem_cons_self) with z | z
      · exact z
      · rcases List.mem_cons.mp ((h y).mpr List.mem_cons_self) with z2 | z2
        · exact z2.symm
        · have h1 := py.1 x z
          have h2 := px.1 y z2
          omega
    subst e
    have r : xs = ys := sorted_one px.2 py.2 fun k => by
      constructor
      · intro hk
        rcases List.mem_cons.mp ((h k).mp (List.mem_cons_of_mem _ hk)) with z | z
        · have h1 := px.1 k hk
          omega
        · exact z
      · intro hk
        rcases List.mem_cons.mp ((h k).mpr (List.mem_cons_of_mem _ hk)) with z | z
        · have h1 := py.1 k hk
          omega
        · exact z
    rw [r]
theorem nodup_few {S : List Int} : ∀ {ms : List Int}, ms.Nodup → (∀ k ∈ ms, k ∈ S) → ms.length ≤ S.length := by
  induction S with
  | nil =>
    intro ms _ h
    cases ms with
    | nil => exact Nat.le_refl _
    | cons x l => exact (List.not_mem_nil (h x List.mem_cons_self)).elim
  | cons y S ih =>
    intro ms nd h
    have z := ih (ms := ms.erase y) (nd.erase y) fun k hk => by
      have h1 := (nd.mem_erase_iff.mp hk)
      rcases List.mem_cons.mp (h k h1.2) with e | e
      · exact absurd e h1.1
      · exact e
    rw [List.length_cons]
    by_cases hy : y ∈ ms
    · rw [List.length_erase_of_mem hy] at z
      omega
    · rw [List.erase_of_not_mem hy] at z
      omega
theorem fnG_fun {P : Program} {w : World} {K : PySem.W.Frag} {mg : Str → Option Value} {base : Heap} {x ql : Str} {st : Stmt} {f : Addr} {fd : FuncData} {N ps : List Str} {k : Nat} {sp : Sp} (F : Fun K x ql st f fd) (S : FnScope N ps (defScope st)) (len : ∀ vs H Q E, sp vs H Q E → vs.length = ps.length)
    (hb : ∀ (cdv : Value) (A : Around) (outer : List Env) (s : Shared) (H : Hp) (vs : List V) (Q : VK) (E : XK), (A.deeper (envOfC ql (defScope st) s.heap.objs.size f cdv)).guards = some [] → Room k (A.deeper (envOfC ql (defScope st) s.heap.objs.size f cdv)) → sp vs H Q E →
      ∃ t, PSs (cxOf CX0 P w K mg base N ql (defScope st) f cdv A outer s H E).nox (defBody st) t ∧ t { nx := fun _ H' => Q .non H', rt := Q } (start N vs) H) : FnG P w K mg base CX0 (k + 1) f fd ps sp := by
  obtain ⟨oc, od, kV, doc, pm, an, cdv, ct, osl, rfl, lk, hcd⟩ := F.ex
  refine fnG_of lk hcd S len fun A outer s H vs Q E hg hr hsp => ?_
  obtain ⟨t, h, q⟩ := hb cdv A outer s H vs Q E hg hr hsp
  exact ⟨t, h.nox, q⟩
section
variable {X : Cx} {e : Expr}
/-- a test that is never asked, an expression that is never reckoned -/
def tNo : TT := fun _ _ _ => False
theorem pt_never : PT X e tNo := ⟨fun _ _ _ _ _ _ h => h.elim⟩
def tNoE : TE := fun _ _ _ => False
theorem pe_never : PE X e tNoE := ⟨fun _ _ _ _ _ _ h => h.elim⟩
end
end Su
/-! ### SC: a set of ints by a comprehension with two clauses -/
namespace Su
open PySem PySem.Spec PyProof.Rows L2
abbrev sc2 (e a b c d : Expr) (sp : Scope) (po : Pos) : Expr := .SetComp e [⟨a, b, [], 0⟩, ⟨c, d, [], 0⟩] sp po
section
variable {prog : Program} {w : World} {A : Around} {R : Result → Shared → Prop} {s : Shared} {e a b c d : Expr} {sp : Scope} {po : Pos} {it acc : Value} {env : Env}
theorem sc2_out : compTurn (sc2 e a b c d sp po) 0 it acc env = (do
      standAt b.pos
      match ← pyNext it with
      | none => pure (.done .next)
      | some v =>
        letOwnedTupleGo a it v
        assign a env v
        let x ← eval d env
        standAt d.pos
        let y ← foldedSetIterable d env x
        let _ ← runOwn (.compStart (sc2 e a b c d sp po) 1 (← holding [y] (pyIter y)) acc env) env
        again (.compLoop (sc2 e a b c d sp po) 0 it acc env)) := by rfl
theorem sc2_in : compTurn (sc2 e a b c d sp po) 1 it acc env = (do
      standAt d.pos
      match ← pyNext it with
      | none => pure (.done .next)
      | some v =>
        letOwnedTupleGo c it v
        assign c env v
        (do let x ← eval e env; standAt e.pos; let _ ← call (.builtin "set.add") [acc, x])
        again (.compLoop (sc2 e a b c d sp po) 1 it acc env)) := by rfl
/-- the tail of a turn that raises: the frame is noted -/
abbrev nb (prog : Program) (w : World) (A : Around) (env : Env) (R : Result → Shared → Prop) : Value → Shared → Prop := notedBy (model prog w) A env fun x u => R (.error x) u
theorem sc2_loop0 (hf : ∀ x, foldedSetIterable d env x = pure x) (J : Nat → Shared → Prop)
    (one : ∀ n u, J n u → wpAny (model prog w) A (pyNext it) (fun r u1 => match r with
      | none => R (.ok .next) u1
      | some v => wpAny (model prog w) A (letOwnedTupleGo a it v) (fun _ u2 => wpAny (model prog w) A (assign a env v) (fun _ u3 =>
          wpAny (model prog w) A (eval d env) (fun x u4 => wpAny (model prog w) A (pyIter x) (fun jt u5 =>
            codeAny (model prog w) A (.compStart (sc2 e a b c d sp po) 1 jt acc env) (fun r u6 => match r with
              | .ok _ => ∃ m, m < n ∧ J m u6
              | .error _ => False) u5) (nb prog w A env R) u4) (nb prog w A env R) u3) (nb prog w A env R) u2) (nb prog w A env R) u1) (nb prog w A env R) u)
    (n : Nat) (h : J n s) : codeAny (model prog w) A (.compLoop (sc2 e a b c d sp po) 0 it acc env) R s := by
  refine codeAny_loop rfl J (fun n u hJ => ?_) n h
  show wpAny _ A ((compTurn (sc2 e a b c d sp po) 0 it acc env).onRaise (fun x => do noteFrame x env; theTreesLotGoes x)) _ _ u
  refine wpAny_noted ?_
  rw [sc2_out]
  refine wpAny_bind (wpAny_standAt (wpAny_bind (wpAny_mono (one n u hJ) (fun r u1 h1 => ?_) fun _ _ k => k)))
  cases r with
  | none => exact wpAny_pure h1
  | some v =>
    refine wpAny_bind (wpAny_mono h1 (fun _ u2 h2 => wpAny_bind (wpAny_mono h2 (fun _ u3 h3 => ?_) fun _ _ k => k)) fun _ _ k => k)
    refine wpAny_bind (wpAny_mono h3 (fun x u4 h4 => ?_) fun _ _ k => k)
    refine wpAny_bind (wpAny_standAt (wpAny_bind (wpAny_of_eq (hf x) (wpAny_bind (wpAny_holding (wpAny_mono h4 (fun jt u5 h5 => ?_) fun _ _ k => k))))))
    refine wpAny_bind (wpAny_runOwn ?_)
    rw [Around.mark_none]
    refine codeAny_mono h5 fun r u6 hr => ?_
    cases r with
    | error x => exact hr.elim
    | ok f =>
      first
        | exact wpAny_pure ⟨rfl, hr⟩
        | exact wpAny_bind (wpAny_pure (wpAny_pure ⟨rfl, hr⟩))
theorem sc2_loop1 (J : Nat → Shared → Prop)
    (one : ∀ n u, J n u → wpAny (model prog w) A (pyNext it) (fun r u1 => match r with
      | none => R (.ok .next) u1
      | some v => wpAny (model prog w) A (letOwnedTupleGo c it v) (fun _ u2 => wpAny (model prog w) A (assign c env v) (fun _ u3 =>
          wpAny (model prog w) A (eval e env) (fun x u4 => wpAny (model prog w) A (call (.builtin "set.add") [acc, x]) (fun _ u5 => ∃ m, m < n ∧ J m u5) (nb prog w A env R) u4) (nb prog w A env R) u3)
            (nb prog w A env R) u2) (nb prog w A env R) u1) (nb prog w A env R) u)
    (n : Nat) (h : J n s) : codeAny (model prog w) A (.compLoop (sc2 e a b c d sp po) 1 it acc env) R s := by
  refine codeAny_loop rfl J (fun n u hJ => ?_) n h
  show wpAny _ A ((compTurn (sc2 e a b c d sp po) 1 it acc env).onRaise (fun x => do noteFrame x env; theTreesLotGoes x)) _ _ u
  refine wpAny_noted ?_
  rw [sc2_in]
  refine wpAny_bind (wpAny_standAt (wpAny_bind (wpAny_mono (one n u hJ) (fun r u1 h1 => ?_) fun _ _ k => k)))
  cases r with
  | none => exact wpAny_pure h1
  | some v =>
    refine wpAny_bind (wpAny_mono h1 (fun _ u2 h2 => wpAny_bind (wpAny_mono h2 (fun _ u3 h3 => ?_) fun _ _ k => k)) fun _ _ k => k)
    refine wpAny_bind (wpAny_bind (wpAny_mono h3 (fun x u4 h4 => wpAny_bind (wpAny_standAt (wpAny_bind (wpAny_mono h4 (fun _ u5 h5 => ?_) fun _ _ k => k)))) fun _ _ k => k))
    first
      | exact wpAny_pure (wpAny_pure ⟨rfl, h5⟩)
      | exact wpAny_pure ⟨rfl, h5⟩
theorem sc2_begin (h0 : codeAny (model prog w) A (.compLoop (sc2 e a b c d sp po) 1 it acc env) R s)
    (h : wpAny (model prog w) A (pyIter it) (fun jt u => codeAny (model prog w) A (.compLoop (sc2 e a b c d sp po) 1 jt acc env) R u) (nb prog w A env R) s) :
    codeAny (model prog w) A (.compStart (sc2 e a b c d sp po) 1 it acc env) R s := by
  refine codeAny_of_tree ?_
  show wpAny _ _ ((compStart (sc2 e a b c d sp po) 1 it acc env).onRaise (fun x => do noteFrame x env; standAt theWindowsPlace)) _ _ s
  refine wpAny_notedAt ?_
  unfold compStart
  show wpAny _ _ (ask >>= _) _ _ s
  refine wpAny_bind (wpAny_askSetting (wpAny_ite ?_))
  split
  · first
      | exact wpAny_pure ⟨rfl, h0⟩
      | exact wpAny_bind (wpAny_pure (wpAny_pure ⟨rfl, h0⟩))
  · refine wpAny_bind (wpAny_rule ?_)
    show wpAny _ _ (standAt d.pos >>= _) _ _ s
    exact wpAny_bind (wpAny_standAt (wpAny_bind (wpAny_mono h (fun jt u k => wpAny_pure ⟨rfl, k⟩) fun _ _ k => k)))
end
end Su
namespace Su
open PySem PySem.Spec PyProof.Rows L2
section
variable {X : Cx}
/-- what the comprehension asks: the outer walk, in each of its turns the inner one, and each int put into the set -/
def tSC (w : World) (wo : TI) (go : TG) (wn : TI) (gn : TG) (te : TE) (vs vs1 : List Nat) : TE := fun σ H Q => wo σ H fun J H1 => ∀ D, H1 D = none →
  ∃ W : Nat → Nat → Hp → Prop, (∃ m, W 0 m (upd H1 D (SetO w D (fun _ => false) 0))) ∧ ∀ i m H, W i m H →
    (J.stop i H ∧ Q (.ref D) H) ∨
    (J.go i H ∧ ∃ Nx : Hp → Prop, (∀ H', Nx H' → ∃ m', m' < m ∧ W (i + 1) m' H') ∧ ∀ x H', J.yld i H x H' → go x (wipe σ vs) H' fun σ2 H2 => wipe σ2 vs = wipe σ vs ∧
      wn σ2 H2 fun L H3 => ∃ U : Nat → Nat → Hp → Prop, (∃ m, U 0 m H3) ∧ ∀ j k H, U j k H →
        (L.stop j H ∧ Nx H) ∨
        (L.go j H ∧ ∃ Ny : Hp → Prop, (∀ H', Ny H' → ∃ k', k' < k ∧ U (j + 1) k' H') ∧ ∀ y H', L.yld j H y H' → gn y (wipe σ2 vs1) H' fun σ3 H4 => wipe σ3 vs1 = wipe σ2 vs1 ∧
          te σ3 H4 fun z H5 => ∃ (c : Int) (S : Int → Bool) (n : Nat), z = .int c ∧ H5 D = some (SetO w D S n) ∧ n + 1 < scanBound ∧
            Ny (upd H5 D (SetO w D (fun j => S j || decide (j = c)) (if S c = true then n else n + 1)))))
abbrev setE (w : World) : Obj := { cls := .type "set", dict := none, data := .set #[] 0 (.fresh 0 0 (!w.params.followText "set-order")) }
theorem put_int {pins : List (Addr × Obj)} {σ : L2.St} {H : Hp} {s : Shared} {E : Value → Shared → Prop} {D : Addr} {S : Int → Bool} {n : Nat} {k : Int} {v : Value} {Q : Value → Shared → Prop}
    (I : Inv X pins σ H s) (hD : H D = some (SetO X.w D S n)) (few : n + 1 < scanBound) (r : RelV (.int k) v)
    (h : ∀ t, Inv X pins σ (upd H D (SetO X.w D (fun j => S j || decide (j = k)) (if S k = true then n else n + 1))) t → Q .none t) :
    wpAny (model X.prog X.w) X.A (call (.builtin "set.add") [.ref D, v]) Q E s := by
  obtain ⟨tk, rfl⟩ := r
  refine setR_add (setO_get I hD) few fun g sb new => ?_
  have there : ∃ u, g.get? D = some u := by
    have ⟨o, _, _, _, ho, _⟩ := new
    exact ⟨o, ho⟩
  refine h _ (I.write (e := D) (t' := s.toks + 1) (by rw [hD]; trivial) (.inl rfl) (fun b u hb hu => ?_) there (setO_new new))
  exact (sb.2 b hb).trans hu
theorem pe_sc2 {e a b c d : Expr} {sp : Scope} {own : List (Str × Nat)} {vs1 : List Nat} {pos : Pos} {wo wn : TI} {go gn : TG} {te : TE} (hc : X.calm = true) (hN : X.N.Nodup) (pio : PI X a b wo)
    (ok : BlkOk X.N X.env.scope sp own) (hv : ∀ i ∈ vs1, i ∈ own.map (·.2))
    (pgo : ∀ (s : Shared) (H : Hp) (C : Addr) (cl : List (Str × Addr)) (fp : List Addr), PG (X.blk s H sp (compEnvC sp cl C X.env) fp) a go)
    (pin : ∀ (s : Shared) (H : Hp) (C : Addr) (cl : List (Str × Addr)) (fp : List Addr), PI (X.blk s H sp (compEnvC sp cl C X.env) fp) c d wn)
    (pgn : ∀ (s : Shared) (H : Hp) (C : Addr) (cl : List (Str × Addr)) (fp : List Addr), PG (X.blk s H sp (compEnvC sp cl C X.env) fp) c gn)
    (pe : ∀ (s : Shared) (H : Hp) (C : Addr) (cl : List (Str × Addr)) (fp : List Addr), PE (X.blk s H sp (compEnvC sp cl C X.env) fp) e te)
    (fo : ∀ x, foldedSetIterable b X.env x = pure x := by intro _; rfl) (fn : ∀ env x, foldedSetIterable d env x = pure x := by intro _ _; rfl) :
    PE X (sc2 e a b c d sp pos) (tSC X.w wo go wn gn te (own.map (·.2)) vs1) := by
  refine ⟨fun pins s σ H Q I hq => ?_⟩
  rw [PpSet.eval_SetComp]
  have cl0 : ∀ y ∈ sp.names, y.2 = .free → ∃ k, X.env.cells.lookup y.1 = some k := by
    intro y hy z
    rcases ok.free y hy z with k | k
    · exact I.ok.has _ (.inl k)
    · exact I.ok.has _ (.inr k)
  refine wpAny_comprehension_free (use := none) rfl fo (closure_ok cl0) ok.kind (fun y hy z => by rw [ok.uniq y hy, z]) ?_
  refine thn (pio.run pins s σ H _ I hq) fun xv s1 hx => thn hx fun iv s2 h2 => ?_
  obtain ⟨it, fa, tn, J, Hb, rfl, Ib, T, stb, fb, q⟩ := h2
  refine PpSet.newSet_ok (newEnv_comp ?_)
  generalize eD : s2.heap.objs.size = D
  obtain ⟨W, ⟨m0, w0⟩, turn⟩ := q D (Ib.hok.fresh (Nat.le_of_eq eD))
  generalize e3 : ({ s2 with heap := s2.heap.push (setE X.w) } : Shared) = s3
  have hp3 : s3.heap = s2.heap.push (setE X.w) := by rw [← e3]
  have Ic : Inv X pins σ (upd Hb D (SetO X.w D (fun _ => false) 0)) s3 := by
    rw [← e3]
    refine Ib.laid (t' := s2.toks) (fun _ _ z => Heap.get?_push_of_some _ z) (Nat.le_of_eq eD) ?_
    rw [← eD]
    exact setO_new (setR_fresh X.w)
  have small : ∀ x ∈ fa, x < s2.heap.objs.size := by
    intro x hx
    obtain ⟨o, z, _⟩ := T.obj _ _ stb x hx
    exact Heap.lt_size z
  have fc : ∀ x ∈ fa, FpOk X pins (upd Hb D (SetO X.w D (fun _ => false) 0)) x ∧ x < s3.heap.objs.size := by
    intro x hx
    have lt := small x hx
    constructor
    · refine ⟨?_, (fb x hx).2⟩
      rw [upd_ne (by rw [← eD]; exact Nat.ne_of_lt lt)]
      exact (fb x hx).1
    · rw [hp3, Heap.size_push]
      exact Nat.lt_succ_of_lt lt
  have stc : tn 0 s3.heap := T.keep _ _ _ stb fun _ _ _ z => by
    rw [hp3]
    exact Heap.get?_push_of_some _ z
  have Id := block_start Ic ok hN fc
  have qgo := pgo s3 (upd Hb D (SetO X.w D (fun _ => false) 0)) s3.heap.objs.size (cellsFrom (s3.heap.objs.size + 1) sp.names (cloFrom X.env.cells sp.names [])) fa
  have qin := pin s3 (upd Hb D (SetO X.w D (fun _ => false) 0)) s3.heap.objs.size (cellsFrom (s3.heap.objs.size + 1) sp.names (cloFrom X.env.cells sp.names [])) fa
  have qgn := pgn s3 (upd Hb D (SetO X.w D (fun _ => false) 0)) s3.heap.objs.size (cellsFrom (s3.heap.objs.size + 1) sp.names (cloFrom X.env.cells sp.names [])) fa
  have qe := pe s3 (upd Hb D (SetO X.w D (fun _ => false) 0)) s3.heap.objs.size (cellsFrom (s3.heap.objs.size + 1) sp.names (cloFrom X.env.cells sp.names [])) fa
  have nofa : ∀ x ∈ fa, (upd Hb D (SetO X.w D (fun _ => false) 0)) x = none := fun x hx => (fc x hx).1.1
  show codeAny _ _ (.compStart (sc2 e a b c d sp pos) 0 (.ref it) (.ref D) (compEnvC sp (cellsFrom (s3.heap.objs.size + 1) sp.names (cloFrom X.env.cells sp.names [])) s3.heap.objs.size X.env)) _ { s3 with heap := pushCells (s3.heap.push { cls := .type "dict", data := .dict #[] }) sp.names }
  generalize eE : compEnvC sp (cellsFrom (s3.heap.objs.size + 1) sp.names (cloFrom X.env.cells sp.names [])) s3.heap.objs.size X.env = en at Id qgo qin qgn qe ⊢
  have locE : en.locals = s3.heap.objs.size := by
    subst eE
    rfl
  generalize eH : upd Hb D (SetO X.w D (fun _ => false) 0) = Hc at Ic Id qgo qin qgn qe w0 nofa fc
  generalize e4 : ({ s3 with heap := pushCells (s3.heap.push { cls := .type "dict", data := .dict #[] }) sp.names } : Shared) = s4 at Id ⊢
  have std : tn 0 s4.heap := T.keep _ _ _ stc fun _ _ _ z => by
    rw [← e4]
    exact pushCells_keeps _ _ _ _ (Heap.get?_push_of_some _ z)
  have foot : ∀ {τ : L2.St} {G : Hp} {t : Shared}, Inv (X.blk s3 Hc sp en fa) [] τ G t → (∀ x ∈ fa, G x = none) → ∀ x ∈ fa, FpOk (X.blk s3 Hc sp en fa) [] G x := by
    intro τ G t It hn x hx
    refine ⟨hn x hx, (It.ok.exf x hx).1, It.ok.exfs x hx, .inl hx, fun y k z => (It.ok.exf x hx).2 y k z, fun p hp => ?_⟩
    exact absurd (show p ∈ ([] : List (Addr × Obj)) ++ [] from hp) (by simp)
  have main : codeAny (model X.prog X.w) X.A (.compLoop (sc2 e a b c d sp pos) 0 (.ref it) (.ref D) en) (compPost (model X.prog X.w) X.A X.xe none (fun u t => EP X pins σ Q u t) (.ref D) s3.heap.objs.size) s4 := by
    refine sc2_loop0 (fn en) (fun n t => ∃ i G, Inv (X.blk s3 Hc sp en fa) [] (wipe σ (own.map (·.2))) G t ∧ tn i t.heap ∧ (∀ x ∈ fa, G x = none) ∧ W i n G) ?_ m0 ⟨0, Hc, Id, std, nofa, w0⟩
    rintro n s5 ⟨i, H5, I5, st5, n5, w5⟩
    rcases turn i n H5 w5 with ⟨stop, qq⟩ | ⟨hgo, Nx, hNx, step⟩
    · refine thnF (T.done (X.blk s3 Hc sp en fa) rfl rfl rfl hc i [] s5 _ H5 (fun _ _ => False) I5 (foot I5 n5) st5 stop) fun r s6 ⟨hr, I6⟩ => ?_
      subst hr
      have I7 : Inv X pins σ H5 s6 := by
        refine Ic.call' (ch := fa) I6.os I6.base I6.hok I6.bare fun x hx => ?_
        have z := (fc x hx).1.2
        exact ⟨z.2.2.1, z.1, z.2.2.2.1, z.2.2.2.2⟩
      have nl : H5 s3.heap.objs.size = none := by
        have z : H5 en.locals = none := I6.free
        rwa [locE] at z
      obtain ⟨m, hn, _⟩ := I6.loc
      have hn2 : s6.heap.Ns en.locals m := hn
      rw [locE] at hn2
      obtain ⟨f0, f1, f2, f3, f4, f5⟩ := Ic.fpOk (Nat.le_refl _) nl
      refine ⟨m, hn2, fun g sb => ?_⟩
      exact ⟨.ref D, H5, I7.turned (t' := s6.toks) (fun y o hy z => (sb.2 y hy).trans z) f0 f1 f3 f4 f5, rfl, qq⟩
    · refine thnF (T.item (X.blk s3 Hc sp en fa) rfl rfl rfl hc i [] s5 _ H5 (fun _ _ => False) I5 (foot I5 n5) st5 hgo) fun r s6 ⟨u, hr, h6⟩ => ?_
      subst hr
      refine thnF h6 fun _ s7 ⟨x, H7, I7, r7, y7, st7, n7⟩ => ?_
      refine thnF (qgo.run _ s7 _ H7 x u _ (I7.pinned (foot I7 n7) (T.obj _ _ st7)) r7 (step x H7 y7)) fun _ s8 ⟨σ8, H8, I8, hw8, q8⟩ => ?_
      have shut : ∀ {τ : L2.St} {t : Shared} {G : Hp}, Inv (X.blk s3 Hc sp en fa) ([] ++ pinsAt fa s7.heap) τ G t → (wipe σ (own.map (·.2))).length = τ.length →
          (∀ (j : Nat) v, (wipe σ (own.map (·.2)))[j]? = some (some v) → τ[j]? = some (some v)) → Nx G →
          ∃ m, m < n ∧ ∃ i G, Inv (X.blk s3 Hc sp en fa) [] (wipe σ (own.map (·.2))) G t ∧ tn i t.heap ∧ (∀ x ∈ fa, G x = none) ∧ W i m G := by
        intro τ t G It hl hk nx
        obtain ⟨m', lt, w'⟩ := hNx G nx
        have held : ∀ y ∈ fa, ∀ o, s7.heap.get? y = some o → t.heap.get? y = some o ∧ G y = none := by
          intro y hy o z
          have k := It.pin (y, o) (List.mem_append_right _ (List.mem_append_right _ (mem_pinsAt hy z)))
          exact ⟨k.1, k.2.1⟩
        refine ⟨m', lt, i + 1, G, (It.unpinned (pins := [])).weak hl hk, T.keep _ _ _ st7 fun y hy o z => (held y hy o z).1, fun y hy => ?_, w'⟩
        obtain ⟨o, z, _⟩ := T.obj _ _ st7 y hy
        exact (held y hy o z).2
      have len8 : (wipe σ (own.map (·.2))).length = σ8.length := by
        rw [← hw8, wipe_length]
      have keep8 : ∀ (j : Nat) v, (wipe σ (own.map (·.2)))[j]? = some (some v) → (wipe σ8 vs1)[j]? = some (some v) := by
        intro j v z
        rw [← hw8] at z
        obtain ⟨z1, z2⟩ := wipe_some z
        rw [wipe_out fun k => z2 (hv j k)]
        exact z1
      refine thnF (qin.run _ s8 σ8 H8 _ I8 q8) fun xv s9 hx => thnF hx fun iw s10 h10 => ?_
      obtain ⟨jt, fi, tm, L, H10, rfl, I10, T1, st10, f10, U, ⟨m1, u1⟩, turn1⟩ := h10
      have foot1 : ∀ {G : Hp}, (∀ y ∈ fi, G y = none) → ∀ y ∈ fi, FpOk (X.blk s3 Hc sp en fa) ([] ++ pinsAt fa s7.heap) G y := fun hn y hy => ⟨hn y hy, (f10 y hy).2⟩
      have inner : codeAny (model X.prog X.w) X.A (.compLoop (sc2 e a b c d sp pos) 1 (.ref jt) (.ref D) en)
          (fun r t => match r with
            | .ok _ => ∃ m, m < n ∧ ∃ i G, Inv (X.blk s3 Hc sp en fa) [] (wipe σ (own.map (·.2))) G t ∧ tn i t.heap ∧ (∀ x ∈ fa, G x = none) ∧ W i m G
            | .error _ => False) s10 := by
        refine sc2_loop1 (fun k t => ∃ j G, Inv (X.blk s3 Hc sp en fa) ([] ++ pinsAt fa s7.heap) (wipe σ8 vs1) G t ∧ tm j t.heap ∧ (∀ y ∈ fi, G y = none) ∧ U j k G) ?_ m1
          ⟨0, H10, I10.weak (wipe_length _ _) (fun j v z => (wipe_some z).1), st10, fun y hy => (f10 y hy).1, u1⟩
        rintro k s11 ⟨j, H11, I11, st11, n11, w11⟩
        rcases turn1 j k H11 w11 with ⟨stop1, nx1⟩ | ⟨go1, Ny, hNy, step1⟩
        · refine thnF (T1.done (X.blk s3 Hc sp en fa) rfl rfl rfl hc j _ s11 (wipe σ8 vs1) H11 (fun _ _ => False) I11 (foot1 n11) st11 stop1) fun r s12 ⟨hr, I12⟩ => ?_
          subst hr
          exact shut I12 (len8.trans (wipe_length σ8 vs1).symm) keep8 nx1
        · refine thnF (T1.item (X.blk s3 Hc sp en fa) rfl rfl rfl hc j _ s11 (wipe σ8 vs1) H11 (fun _ _ => False) I11 (foot1 n11) st11 go1) fun r s12 ⟨v1, hr, h12⟩ => ?_
          subst hr
          refine thnF h12 fun _ s13 ⟨x1, H13, I13, r13, y13, st13, n13⟩ => ?_
          refine thnF (qgn.run _ s13 (wipe σ8 vs1) H13 x1 v1 _ (I13.pinned (foot1 n13) (T1.obj _ _ st13)) r13 (step1 x1 H13 y13)) fun _ s14 ⟨σ14, H14, I14, hw14, q14⟩ => ?_
          refine thnF (qe.run _ s14 σ14 H14 _ I14 q14) fun z s15 ⟨yv, H15, I15, r15, cc, S, nn, ey, hD15, few, nx⟩ => ?_
          subst ey
          refine put_int (X := X.blk s3 Hc sp en fa) I15 hD15 few r15 fun s16 I16 => ?_
          obtain ⟨m', lt, w'⟩ := hNy _ nx
          have held : ∀ y ∈ fi, ∀ o, s13.heap.get? y = some o → s16.heap.get? y = some o ∧ (upd H15 D (SetO X.w D (fun j => S j || decide (j = cc)) (if S cc = true then nn else nn + 1))) y = none := by
            intro y hy o z
            have k := I16.pin (y, o) (List.mem_append_right _ (List.mem_append_right _ (mem_pinsAt hy z)))
            exact ⟨k.1, k.2.1⟩
          refine ⟨m', lt, j + 1, _, I16.unpinned.weak (by rw [← hw14, wipe_length]) (fun j v z => by rw [← hw14] at z; exact (wipe_some z).1), T1.keep _ _ _ st13 fun y hy o z => (held y hy o z).1, fun y hy => ?_, w'⟩
          obtain ⟨o, z, _⟩ := T1.obj _ _ st13 y hy
          exact (held y hy o z).2
      exact sc2_begin inner (T1.self X.A 0 _ _ _ st10 inner)
  exact PpSet.codeAny_compStart_set main (T.self X.A 0 _ _ _ std main)
end
end Su
/-! ### SE: sets of ints: set(l), sorted(s) of any size -/
namespace Su
open PySem PySem.Spec PyProof.Rows L2
/-- the set that set(..) begins with -/
abbrev set0 (w : World) : Obj := { cls := .type "set", dict := none, data := .set #[] 0 (.fresh 0 0 (!w.params.followText "set-order")) }
section
variable {P : Program} {w : World} {A : Around} {E : Value → Shared → Prop} {s : Shared}
theorem set_of_list {l : Addr} {its : Array Value} (ns : List Int) {Q : Value → Shared → Prop} (hh : A.handled = none) (hl : s.heap.IsList l its) (ia : IntsAre its.toList ns) (few : ns.length + 1 < scanBound)
    (q : ∀ (h' : Heap) (tk c : Nat), SetR w h' s.heap.objs.size (fun j => decide (j ∈ ns)) c → c ≤ ns.length → (∀ b o, s.heap.get? b = some o → h'.get? b = some o) → Q (.ref s.heap.objs.size) { s with heap := h', toks := tk }) :
    wpAny (model P w) A (call (.type "set") [.ref l]) Q E s := by
  have sz : its.size = ns.length := by
    have z := IntsAre.length ia
    rwa [Array.length_toList] at z
  obtain ⟨c0, tl0, m0⟩ := F.called_set.mro
  have m1 := F.called_set.made
  have m2 := F.called_set.sub
  have m3 := F.called_set.notType
  have m4 := F.called_set.canCreate
  have m5 := F.typeCall_set_1 (.ref l)
  refine wpAny_call (codeAny_of_tree ?_)
  show wpAny _ _ (callAny (.type "set") _) _ _ _
  refine wpAny_pure ⟨Code.quiet_builtin _ (by decide +kernel), codeAny_builtin F.entry_type_call ?_⟩
  rw [Around.under_plain (weight_type_call_type "set" [.ref l] []) rfl]
  repeat (any_goals (first | assumption | wp_step))
  refine codeAny_mono (code_set_led1 (.ref l) (E := E) (Q₁ := fun x t => x = .ref s.heap.objs.size ∧ t = { s with heap := s.heap.push (set0 w) }) ⟨rfl, rfl⟩) fun r t hr => ?_
  match r, hr with
  | .error e, hr => exact hr
  | .ok .next, hr => exact hr.elim
  | .ok .brk, hr => exact hr.elim
  | .ok .cont, hr => exact hr.elim
  | .ok (.ret x), hr =>
    obtain ⟨rfl, rfl⟩ := hr
    have at0 : (s.heap.push (set0 w)).get? s.heap.objs.size = some (set0 w) := Heap.get?_push_size _ rfl
    have ty0 : Shared.TypeIs { s with heap := s.heap.push (set0 w) } (.ref s.heap.objs.size) "set" := ⟨_, at0, rfl⟩
    have n1 := F.called_set.init.lookup
    have n2 := F.called_set.init.bind (.ref s.heap.objs.size)
    repeat (any_goals (first | assumption | wp_step))
    refine codeAny_mono (codeAny_call_builtin (R := wants (fun r t => r = .none ∧ ∃ h' tk c, t = { s with heap := h', toks := tk } ∧ SetR w h' s.heap.objs.size (fun j => decide (j ∈ ns)) c ∧ c ≤ ns.length ∧ ∀ b o, s.heap.get? b = some o → h'.get? b = some o) E)
      F.called_set.init.plain F.entry_set_init (check_set_init_1 ty0 ?_)) fun r2 t2 hr2 => ?_
    · obtain ⟨⟨oc, od, odt, os⟩, ho, hc, nl, hd⟩ := hl
      simp only at hc hd
      subst hc hd
      have lt : l < s.heap.objs.size := Heap.lt_size ho
      have ho1 : (s.heap.push (set0 w)).get? l = some { cls := .type "list", dict := od, data := .seq its nl, slots := os } := Heap.get?_push_of_some _ ho
      have isl : (s.heap.push (set0 w)).IsList l its := ⟨_, ho1, rfl, nl, rfl⟩
      have p1 := F.sub_list_set
      have p2 := F.sub_list_frozenset
      have p3 : (Value.type "list" == Value.type "dict") = false := by decide
      unfold Builtin.«set.__init__» noKeywords Builtin.Frozenset.updateFrom
      generalize hPI : pyIter = PI
      wp_walk
      subst hPI
      refine wpAny_pyIter_list isl (wpAny_bind (wpAny_runValue ?_))
      have size1 : (s.heap.push (set0 w)).objs.size = s.heap.objs.size + 1 := Heap.size_push ..
      have ap : l ≠ (s.heap.push (set0 w)).objs.size := by
        rw [size1]
        exact Nat.ne_of_lt (Nat.lt_succ_of_lt lt)
      have ap2 : s.heap.objs.size ∉ [(s.heap.push (set0 w)).objs.size, l] := by
        rw [size1]
        simp only [List.mem_cons, List.not_mem_nil, or_false, not_or]
        exact ⟨Nat.ne_of_lt (Nat.lt_succ_self _), Nat.ne_of_gt lt⟩
      refine set_update_ints ((Walks.list (by simp [hh]) _ l ap its).toS) s.heap.objs.size ap2 ns sz few (fun i v hv => ?_) (its.size - 0) 0 _ (by omega) (Nat.zero_le _) ⟨⟨_, Heap.get?_push_size _ rfl, rfl, rfl⟩, isl.push _⟩ ⟨0, Nat.le_refl 0, setR_new_at (Heap.get?_push_of_some _ at0)⟩ fun t3 c3 mv hc3 hS3 => ?_
      · have hi : i < ns.length := by
          rw [← sz]
          exact (Array.getElem?_eq_some_iff.mp hv).1
        obtain ⟨tk, e⟩ := PyProof.Rows.IntsAre.int_at ia i v (by rw [Array.getElem?_toList]; exact hv)
        refine ⟨ns[i], tk, List.getElem?_eq_getElem hi, ?_⟩
        rw [e, List.getD_eq_getElem?_getD, List.getElem?_eq_getElem hi] <;> rfl
      · obtain ⟨h3, g3, d3, tk3, os3⟩ := t3
        obtain rfl : g3 = s.gens := mv.gens
        obtain rfl : d3 = s.drawn := mv.drawn
        obtain rfl : os3 = s.os := mv.os
        show wpAny _ _ _ _ _ _
        refine wpAny_pure ?_
        show wpAny _ _ (ret Value.none) _ _ _
        refine wpAny_pure ⟨rfl, h3, tk3, c3, rfl, hS3, by omega, fun b o e => ?_⟩
        have bl : b < s.heap.objs.size := Heap.lt_size e
        refine mv.heap b o ?_ (Heap.get?_push_of_some _ (Heap.get?_push_of_some _ e))
        rw [size1]
        simp only [List.mem_cons, List.not_mem_nil, or_false, not_or]
        exact ⟨Nat.ne_of_lt bl, Nat.ne_of_lt (Nat.lt_succ_of_lt bl)⟩
    · match r2, hr2 with
      | .error e, hr2 => exact hr2
      | .ok .next, hr2 => exact hr2.elim
      | .ok .brk, hr2 => exact hr2.elim
      | .ok .cont, hr2 => exact hr2.elim
      | .ok (.ret y), hr2 =>
        obtain ⟨rfl, h', tk, c, rfl, hS, hc, hk⟩ := hr2
        repeat (any_goals (first | assumption | wp_step))
        exact q _ _ _ hS hc hk
end
/-- a set of ints whose members are those of l -/
def SetIs (w : World) (H : Hp) (D : Addr) (l : List Int) : Prop := ∃ (S : Int → Bool) (n : Nat) (d : List Int), H D = some (SetO w D S n) ∧ d.Nodup ∧ d.length = n ∧ (∀ k, S k = true ↔ k ∈ d) ∧ ∀ k, k ∈ d ↔ k ∈ l
theorem SetIs.add {w : World} {H : Hp} {D : Addr} {l : List Int} (h : SetIs w H D l) {A : List Int} (hA : A.length < 1000) (hl : ∀ k ∈ l, k ∈ A) (c : Int) :
    ∃ (S : Int → Bool) (n : Nat), H D = some (SetO w D S n) ∧ n + 1 < scanBound ∧ ∀ (H' : Hp), H' D = some (SetO w D (fun j => S j || decide (j = c)) (if S c = true then n else n + 1)) → SetIs w H' D (l ++ [c]) := by
  obtain ⟨S, n, d, e, nd, hn, hS, hd⟩ := h
  have z := nodup_few (S := A) nd fun k hk => hl k ((hd k).mp hk)
  refine ⟨S, n, e, by unfold scanBound; omega, fun H' e' => ?_⟩
  by_cases hc : S c = true
  · rw [if_pos hc] at e'
    refine ⟨_, n, d, e', nd, hn, fun k => ?_, fun k => ?_⟩
    · rw [Bool.or_eq_true, decide_eq_true_eq, hS k]
      constructor
      · rintro (h | rfl)
        · exact h
        · exact (hS k).mp hc
      · exact .inl
    · rw [List.mem_append, List.mem_singleton, hd k]
      constructor
      · exact .inl
      · rintro (h | rfl)
        · exact h
        · exact (hd k).mp ((hS k).mp hc)
  · rw [if_neg hc] at e'
    refine ⟨_, n + 1, c :: d, e', List.nodup_cons.mpr ⟨fun h => hc ((hS c).mpr h), nd⟩, by rw [List.length_cons, hn], fun k => ?_, fun k => ?_⟩
    · rw [Bool.or_eq_true, decide_eq_true_eq, hS k, List.mem_cons]
      exact Or.comm
    · rw [List.mem_append, List.mem_singleton, List.mem_cons, hd k]
      exact Or.comm
theorem SetIs.of {w : World} {h : Heap} {H : Hp} {D : Addr} {S : Int → Bool} {c : Nat} {l : List Int} (R : SetR w h D S c) (e : H D = some (SetO w D S c)) (hl : ∀ k, S k = true ↔ k ∈ l) : SetIs w H D l := by
  obtain ⟨o, es, ep, t, ho, hex, hd, g, nd, hm, hb, hf, hn, _⟩ := R
  exact ⟨S, c, es.toList.map keyOf, e, nd, by rw [List.length_map, Array.length_toList]; exact hn, hm, fun k => (hm k).symm.trans (hl k)⟩
section
variable {X : Cx}
/-- set(l), l a list of ints -/
def rSetL (w : World) (K : PySem.W.Frag) : List V → Hp → VK → Prop := fun xs H Q => ∃ (l : Addr) (ns : List Int), xs = [.ref l] ∧ SqL K H l (ns.map V.int) ∧ ns.length ≤ 4000 ∧ ∀ (p : Addr) (H' : Hp), Same H H' → H p = none → SetIs w H' p ns → Q (.ref p) H'
theorem cr_setL (hc : X.calm = true) : CallR X (.type "set") (rSetL X.w X.K) := by
  intro pins s σ H xs us Q I r h
  obtain ⟨l, ns, rfl, hq, hl, q⟩ := h
  rw [Vals.ref1 r]
  obtain ⟨its, rv, pl, hz⟩ := I.list hq
  refine set_of_list ns (I.ok.hd hc) pl.isList (by simpa using ints_of rv) (by unfold scanBound; omega) fun h' tk c hR hc' hk => ?_
  have new : H s.heap.objs.size = none := I.hok.fresh (Nat.le_refl _)
  refine ⟨.ref s.heap.objs.size, _, I.laid (t' := tk) hk (Nat.le_refl _) (setO_new hR), rfl, q _ _ (same_upd new) new ?_⟩
  exact SetIs.of hR upd_same fun k => decide_eq_true_iff
/-- sorted(s), s a set of ints -/
theorem sorted_setA {P : Program} {w : World} {A : Around} {E : Value → Shared → Prop} {s : Shared} {a : Addr} {S : Int → Bool} {n : Nat} {Q : Value → Shared → Prop} (R : SetR w s.heap a S n) (hh : A.handled = none)
    (q : ∀ (t : Shared) (p : Addr) (out : Array Value) (c : Nat) (ns : List Int), (∀ b o, s.heap.get? b = some o → t.heap.get? b = some o) → t.gens = s.gens → t.os = s.os → s.heap.objs.size ≤ p →
      t.heap.get? p = some (seqObj "list" out c) → IntsAre out.toList ns → ns.Pairwise (· < ·) → (∀ k, k ∈ ns ↔ S k = true) → ns.length < 4096 → Q (.ref p) t) :
    wpAny (model P w) A (call (.builtin "sorted") [.ref a]) Q E s := by
  obtain ⟨o, es, ep, t, ho, hex, hd, g, nd, hm, hb, hf, hn, hr, hl⟩ := R
  refine Calls.call_function_entry kind_sorted plain_sorted entry_sorted (args_sorted1 _) ?_
  unfold Builtin.«sorted»
  refine wpAny_bind (m := checkCount "sorted" 1 1 _) (wpAny_pure (wpAny_bind (collect_set (A := A.in1) hh ⟨o, ho, hex.1, hd⟩ hf hb hr hl fun s1 vs k1 hz g1 o1 pm => ?_)))
  have len : vs.length = es.size := by
    rw [pm.length_eq, List.length_map, Array.length_toList]
  have hI : IntsAre vs (vs.map Builtin.Re.reRawOf) := L2.ints_of vs fun v hv => by
    obtain ⟨x, hx, z⟩ := List.mem_map.mp (pm.mem_iff.mp hv)
    obtain ⟨k, tk, h1, _⟩ := g x hx
    exact ⟨k, tk, z ▸ h1⟩
  have pk : (vs.map Builtin.Re.reRawOf).Perm (es.toList.map keyOf) := by
    have z := pm.map Builtin.Re.reRawOf
    rwa [List.map_map] at z
  have small : vs.length ≤ sizeLine := by
    have : es.size < 4096 := hb
    rw [len, sizeLine_eq]
    omega
  refine wpAny_bind (wpAny_newList ?_ small)
  have at1 : (s1.heap.push (seqObj "list" vs.toArray 0)).get? s1.heap.objs.size = some (seqObj "list" vs.toArray 0) := Heap.get?_push_size _ rfl
  refine wpAny_bind (wpAny_holding (wpAny_call_entry slot_list_sort ⟨_, at1, rfl⟩ entry_list_sort (SrtO.list_sort_ord SrtO.swo_int at1 small (fun h2 => SrtO.ints_sortable hI h2) fun out h1 h2 => ⟨_, rfl, ?_⟩) (args_list_sort _)))
  obtain ⟨k3, k4, k5⟩ := SrtO.ints_out hI h1 h2
  obtain ⟨c, hc⟩ := sortedHeap_at (vs := vs) (out := out.toArray) at1
  have pn := k4.trans pk
  refine wpAny_pure ⟨_, rfl, q _ s1.heap.objs.size out.toArray c (out.map SrtO.iv) (fun b u z => ?_) g1 o1 hz hc k3 (lt_of_le_nodup _ k5 (pn.nodup_iff.mpr nd)) (fun k => by rw [pn.mem_iff, ← hm k]) ?_⟩
  · have y := k1 b u z
    have lt := Heap.lt_size y
    show (sortedHeap (s1.heap.push (seqObj "list" vs.toArray 0)) s1.heap.objs.size vs out.toArray).get? b = some u
    rw [sortedHeap_old (Nat.ne_of_lt lt) (by rw [size_push']; exact Nat.lt_succ_of_lt lt)]
    exact Heap.get?_push_of_some _ y
  · rw [pn.length_eq, List.length_map, Array.length_toList]
    exact hb
def rSortedS (w : World) : List V → Hp → VK → Prop := fun vs H Q => ∃ (a : Addr) (l : List Int), vs = [.ref a] ∧ SetIs w H a l ∧ ∀ (ns : List Int) (p : Addr), ns.Pairwise (· < ·) → (∀ k : Int, k ∈ ns ↔ k ∈ l) → H p = none → Q (.ref p) (upd H p (.lst (ns.map V.int)))
theorem cr_sortedS (hc : X.calm = true) : CallR X (.builtin "sorted") (rSortedS X.w) := by
  intro pins s σ H vs us Q I r h
  obtain ⟨a, l, rfl, ⟨S, n, d, ha, nd, hn, hS, hd⟩, q⟩ := h
  rw [Vals.ref1 r]
  refine sorted_setA (setO_get I ha) (I.ok.hd hc) fun t p out c ns k g o hp hg hi hs hm hl => ?_
  have len : (ns.map V.int).length ≤ sizeLine := by
    rw [List.length_map, sizeLine_eq]
    omega
  have new : H p = none := I.hok.fresh hp
  have J : Inv X pins σ (upd H p (.lst (ns.map V.int))) { s with heap := t.heap, gens := t.gens, drawn := t.drawn, toks := t.toks } :=
    I.call (ch := []) (Un.laid k hp new) (I.hok.laid k hp ⟨len, out.toList, c, vals_of_ints hi, hg⟩) (by rw [g]; exact I.bare) (fun _ z => nomatch z)
  have et : t = { s with heap := t.heap, gens := t.gens, drawn := t.drawn, toks := t.toks } := by
    cases t
    cases s
    cases o
    rfl
  rw [et]
  exact ⟨.ref p, _, J, rfl, q ns p hs (fun k => (hm k).trans ((hS k).trans (hd k))) new⟩
end
end Su
/-! ### WA: webs in the heap -/
namespace Su
open PySem PySem.Spec PyProof.Rows L2
/-- a tuple, by whatever it was made -/
def T2 (H : Hp) (a : Addr) (xs : List V) : Prop := PTup H a xs ∨ H a = some (.tup xs)
theorem T2.sq {K : PySem.W.Frag} {H : Hp} {a : Addr} {xs : List V} (h : T2 H a xs) : SqT K H a xs := by
  rcases h with h | h
  · exact h.sq
  · exact .inl (.inl h)
theorem T2.same {H H' : Hp} {a : Addr} {xs : List V} (h : T2 H a xs) (s : Same H H') : T2 H' a xs := by
  rcases h with h | h
  · exact .inl (h.same s)
  · exact .inr (s _ _ h)
theorem T2.ty {K : PySem.W.Frag} {H : Hp} {a : Addr} {xs : List V} (h : T2 H a xs) : TyX K H (.ref a) (.type "tuple") := by
  rcases h with ⟨o, h, _⟩ | h
  · exact .fTuple h
  · exact .base (.tup h)
/-- all tuples stay -/
def K2 (H H' : Hp) : Prop := ∀ a xs, T2 H a xs → T2 H' a xs
theorem K2.same {H H' : Hp} (s : Same H H') : K2 H H' := fun _ _ h => h.same s
theorem K2.trans {H H1 H2 : Hp} (a : K2 H H1) (b : K2 H1 H2) : K2 H H2 := fun x xs h => b x xs (a x xs h)
/-- what is no tuple may be changed -/
theorem K2.upd {H : Hp} {a : Addr} {o u : HO} (e : H a = some o) (n : ∀ xs, o ≠ .tup xs) (n2 : ∀ b xs, o ≠ .frz b (.tup xs)) : K2 H (upd H a u) := by
  rintro b xs (⟨ob, h, d⟩ | h)
  · refine .inl ⟨ob, ?_, d⟩
    rw [upd_ne]
    · exact h
    · rintro rfl
      rw [e] at h
      cases h
      exact n2 _ _ rfl
  · refine .inr ?_
    rw [upd_ne]
    · exact h
    · rintro rfl
      rw [e] at h
      cases h
      exact n _ rfl
theorem K2.lst {H : Hp} {a : Addr} {xs : List V} {u : HO} (e : H a = some (.lst xs)) : K2 H (L2.upd H a u) := K2.upd e (fun _ z => nomatch z) (fun _ _ z => nomatch z)
abbrev Rw := List Int × List Int
def RowAt (H : Hp) (v : V) (r : Rw) : Prop := ∃ a b c, v = .ref a ∧ T2 H a [.ref b, .ref c] ∧ T2 H b (r.1.map V.int) ∧ T2 H c (r.2.map V.int)
theorem RowAt.keep {H H' : Hp} {v : V} {r : Rw} (k : K2 H H') (h : RowAt H v r) : RowAt H' v r := by
  obtain ⟨a, b, c, e, h1, h2, h3⟩ := h
  exact ⟨a, b, c, e, k _ _ h1, k _ _ h2, k _ _ h3⟩
def RowsAt (H : Hp) : List V → List Rw → Prop
  | [], [] => True
  | v :: vs, r :: rs => RowAt H v r ∧ RowsAt H vs rs
  | _, _ => False
theorem RowsAt.keep {H H' : Hp} (k : K2 H H') : ∀ {vs : List V} {rs : List Rw}, RowsAt H vs rs → RowsAt H' vs rs
  | [], [], _ => trivial
  | _ :: _, _ :: _, h => ⟨h.1.keep k, RowsAt.keep k h.2⟩
  | [], _ :: _, h => h.elim
  | _ :: _, [], h => h.elim
theorem RowsAt.len {H : Hp} : ∀ {vs : List V} {rs : List Rw}, RowsAt H vs rs → vs.length = rs.length
  | [], [], _ => rfl
  | _ :: _, _ :: _, h => by rw [List.length_cons, List.length_cons, RowsAt.len h.2]
  | [], _ :: _, h => h.elim
  | _ :: _, [], h => h.elim
theorem RowsAt.get {H : Hp} : ∀ {vs : List V} {rs : List Rw}, RowsAt H vs rs → ∀ {i : Nat} {v : V}, vs[i]? = some v → ∃ r, rs[i]? = some r ∧ RowAt H v r
  | [], [], _, i, v, e => by simp at e
  | _ :: _, _ :: _, h, 0, v, e => by
    obtain rfl := (by simpa using e : _ = v)
    exact ⟨_, rfl, h.1⟩
  | _ :: _, _ :: _, h, i + 1, v, e => RowsAt.get h.2 (i := i) (by simpa using e)
  | [], _ :: _, h, _, _, _ => h.elim
  | _ :: _, [], h, _, _, _ => h.elim
theorem RowsAt.app {H : Hp} : ∀ {vs ws : List V} {rs qs : List Rw}, RowsAt H vs rs → RowsAt H ws qs → RowsAt H (vs ++ ws) (rs ++ qs)
  | [], _, [], _, _, h => h
  | _ :: _, _, _ :: _, _, g, h => ⟨g.1, RowsAt.app g.2 h⟩
  | [], _, _ :: _, _, g, _ => g.elim
  | _ :: _, _, [], _, g, _ => g.elim
theorem RowsAt.snoc {H : Hp} {vs : List V} {rs : List Rw} {v : V} {r : Rw} (g : RowsAt H vs rs) (h : RowAt H v r) : RowsAt H (vs ++ [v]) (rs ++ [r]) := g.app ⟨h, trivial⟩
theorem RowsAt.of {H : Hp} : ∀ {vs : List V} {rs : List Rw}, vs.length = rs.length → (∀ (i : Nat) (v : V) (r : Rw), vs[i]? = some v → rs[i]? = some r → RowAt H v r) → RowsAt H vs rs
  | [], [], _, _ => trivial
  | v :: vs, r :: rs, e, h => ⟨h 0 v r rfl rfl, RowsAt.of (by simpa using e) fun i x y h1 h2 => h (i + 1) x y h1 h2⟩
  | [], _ :: _, e, _ => by simp at e
  | _ :: _, [], e, _ => by simp at e
/-- a web in the heap -/
def WebAt (H : Hp) (p : Addr) (rs : List Rw) : Prop := ∃ ws, H p = some (.lst ws) ∧ RowsAt H ws rs
theorem WebAt.same {H H' : Hp} {p : Addr} {rs : List Rw} (h : WebAt H p rs) (s : Same H H') : WebAt H' p rs := by
  obtain ⟨ws, e, r⟩ := h
  exact ⟨ws, s _ _ e, r.keep (K2.same s)⟩
/-- rising numbers within a bound -/
structure Ris (lo hi : Int) (ns : List Int) : Prop where
  pw : ns.Pairwise (· < ·)
  lo : ∀ k ∈ ns, lo ≤ k
  hi : ∀ k ∈ ns, k ≤ hi
structure RowOk (n : Nat) (r : Rw) : Prop where
  rooms : Ris 0 99 r.1
  few : r.1.length ≤ 6
  tos : Ris 0 ((n : Int) - 1) r.2
def allRooms (rs : List Rw) : List Int := (rs.map Prod.fst).flatten
structure WebOk (rs : List Rw) : Prop where
  pos : 1 ≤ rs.length
  few : rs.length ≤ 80
  row : ∀ r ∈ rs, RowOk rs.length r
  all : ∃ S : List Int, S.length ≤ 12 ∧ ∀ k ∈ allRooms rs, k ∈ S
theorem ris_len {ns : List Int} {n : Nat} : Ris 0 ((n : Int) - 1) ns → ns.length ≤ n := by
  induction n generalizing ns with
  | zero =>
    intro h
    cases ns with
    | nil => exact Nat.le_refl _
    | cons a l =>
      have h1 := h.lo a List.mem_cons_self
      have h2 := h.hi a List.mem_cons_self
      omega
  | succ n ih =>
    intro h
    rcases List.eq_nil_or_concat ns with e | ⟨l, a, e⟩
    · rw [e]
      exact Nat.zero_le _
    · rw [List.concat_eq_append] at e
      subst e
      have pw := List.pairwise_append.mp h.pw
      have ha := h.hi a (List.mem_append_right _ List.mem_cons_self)
      have z := ih (ns := l) ⟨pw.1, fun k hk => h.lo k (List.mem_append_left _ hk), fun k hk => by
        have := pw.2.2 k hk a List.mem_cons_self
        omega⟩
      rw [List.length_append]
      show l.length + 1 ≤ n + 1
      omega
section
variable {X : Cx}
/-- a slice of a tuple, whatever it is -/
def rSl2 : V → Option Int → Option Int → Hp → VK → Prop := fun x lo hi H Q => ∃ a xs, x = .ref a ∧ T2 H a xs ∧ ∀ v H', Same H H' → T2 H' v (cutV xs lo hi) → Q (.ref v) H'
theorem sl_tup2 : SlR X rSl2 := by
  intro pins s σ H x v vl vu lo hi sl Q I rx hs pl pu h
  obtain ⟨a, xs, rfl, hx, q⟩ := h
  refine sl_tupA pins s σ H _ v vl vu lo hi sl Q I rx hs pl pu ⟨a, xs, rfl, hx.sq, fun hw => q a H (Same.refl H) ?_, fun _ p np => q p _ (same_upd np) (.inr upd_same)⟩
  have z : cutV xs lo hi = xs := by
    unfold cutV
    rw [hw.1, hw.2, Nat.sub_zero, List.drop_zero, List.take_length]
  rw [z]
  exact hx
end
theorem cut_tail (xs : List V) : cutV xs (some 1) none = xs.drop 1 := by
  cases xs with
  | nil => rfl
  | cons x l =>
    have e1 : HT.sIx (x :: l).length 0 (some 1) = 1 := by
      have z := HT.sIx_nat (x :: l).length 0 1
      have z2 : HT.sIx (x :: l).length 0 (some (1 : Int)) = min 1 (x :: l).length := z
      rw [z2, List.length_cons]
      omega
    unfold cutV
    rw [e1, HT.sIx_none, List.take_of_length_le]
    rw [List.length_drop]
    exact Nat.le_refl _
theorem rep_all (n : Nat) : (List.replicate n true).all id = true := by
  rw [List.all_eq_true]
  intro x hx
  rw [List.eq_of_mem_replicate hx]
  rfl
theorem rep_snoc (n : Nat) : (List.replicate n (V.bl true)) ++ [V.bl true] = List.replicate (n + 1) (V.bl true) := by
  rw [← List.replicate_succ']
theorem rep_map (n : Nat) : (List.replicate n true).map V.bl = List.replicate n (V.bl true) := List.map_replicate
/-! a comprehension over zip of two tuples -/
open RZ in
theorem lc_zipT {K : PySem.W.Frag} {a b : Addr} {xs ys : List V} {g : TG} {tt : TT} {te : TE} {vs : List Nat} {σ : L2.St} {H1 : Hp} {D : Addr} {Qd : Hp → Prop} (hl : ys.length ≤ xs.length) (Pv : Nat → Hp → Prop) (h0 : Pv 0 (upd H1 D (.lst [])))
    (hq : ∀ i H, i ≤ ys.length → Pv i H → SqT K H a xs ∧ SqT K H b ys)
    (hs : ∀ (i : Nat) (x y : V) (T : Addr) (H : Hp), xs[i]? = some x → ys[i]? = some y → Pv i H → H T = none → g (.ref T) (wipe σ vs) (upd H T (.tup [x, y])) fun σ2 H2 => wipe σ2 vs = wipe σ vs ∧ tt σ2 H2 fun b H3 =>
      if b = true then te σ2 H3 fun y H4 => ∃ acc, H4 D = some (.lst acc) ∧ acc.length < sizeLine ∧ Pv (i + 1) (upd H4 D (.lst (acc ++ [y]))) else Pv (i + 1) H3) (hd : ∀ H, Pv ys.length H → Qd H) :
    ∃ W : Nat → Nat → Hp → Prop, (∃ m, W 0 m (upd H1 D (.lst []))) ∧ ∀ i m H, W i m H →
      ((ItzT K a b).stop i H ∧ Qd H) ∨ ((ItzT K a b).go i H ∧ ∃ Nx : Hp → Prop, (∀ H', Nx H' → ∃ m', m' < m ∧ W (i + 1) m' H') ∧ ∀ x H', (ItzT K a b).yld i H x H' → g x (wipe σ vs) H' fun σ2 H2 => wipe σ2 vs = wipe σ vs ∧ tt σ2 H2 fun b H3 =>
        if b = true then te σ2 H3 fun y H4 => ∃ acc, H4 D = some (.lst acc) ∧ acc.length < sizeLine ∧ Nx (upd H4 D (.lst (acc ++ [y]))) else Nx H3) := by
  refine ⟨fun i m H => m = ys.length - i ∧ i ≤ ys.length ∧ Pv i H, ⟨ys.length, (Nat.sub_zero _).symm, Nat.zero_le _, h0⟩, ?_⟩
  rintro i m H ⟨rfl, hi, p⟩
  obtain ⟨qx, qy⟩ := hq i H hi p
  by_cases hlt : i < ys.length
  · have hy : ys[i]? = some ys[i] := List.getElem?_eq_getElem hlt
    have hx : xs[i]? = some xs[i] := List.getElem?_eq_getElem (by omega)
    refine .inr ⟨⟨xs, ys, _, _, qx, qy, hx, hy⟩, Pv (i + 1), fun H' p' => ⟨ys.length - (i + 1), by omega, rfl, hlt, p'⟩, fun v H' y => ?_⟩
    obtain ⟨T, x', y', rfl, nT, rfl, f1, f2⟩ := y
    exact hs i x' y' T H (f1 xs qx) (f2 ys qy) p nT
  · have e : i = ys.length := by omega
    subst e
    exact .inl ⟨⟨xs, ys, qx, qy, .inr (Nat.le_refl _)⟩, hd H p⟩
section
variable {K : PySem.W.Frag} {a : Addr} {xs : List V}
theorem lc_enumS {g : TG} {tt : TT} {te : TE} {vs : List Nat} {σ : L2.St} {H1 : Hp} {D : Addr} {Qd : Hp → Prop} (Pv : Nat → Hp → Prop) (h0 : Pv 0 (upd H1 D (.lst []))) (hl : ∀ i H, i ≤ xs.length → Pv i H → SqL K H a xs)
    (hs : ∀ i x H T, xs[i]? = some x → Pv i H → H T = none → g (.ref T) (wipe σ vs) (upd H T (.tup [.int (i : Nat), x])) fun σ2 H2 => wipe σ2 vs = wipe σ vs ∧ tt σ2 H2 fun b H3 =>
      if b = true then te σ2 H3 fun y H4 => ∃ acc, H4 D = some (.lst acc) ∧ acc.length < sizeLine ∧ Pv (i + 1) (upd H4 D (.lst (acc ++ [y]))) else Pv (i + 1) H3) (hd : ∀ H, Pv xs.length H → Qd H) :
    ∃ W : Nat → Nat → Hp → Prop, (∃ m, W 0 m (upd H1 D (.lst []))) ∧ ∀ i m H, W i m H →
      ((Ite K a).stop i H ∧ Qd H) ∨ ((Ite K a).go i H ∧ ∃ Nx : Hp → Prop, (∀ H', Nx H' → ∃ m', m' < m ∧ W (i + 1) m' H') ∧ ∀ x H', (Ite K a).yld i H x H' → g x (wipe σ vs) H' fun σ2 H2 => wipe σ2 vs = wipe σ vs ∧ tt σ2 H2 fun b H3 =>
        if b = true then te σ2 H3 fun y H4 => ∃ acc, H4 D = some (.lst acc) ∧ acc.length < sizeLine ∧ Nx (upd H4 D (.lst (acc ++ [y]))) else Nx H3) := by
  refine ⟨fun i m H => m = xs.length - i ∧ i ≤ xs.length ∧ Pv i H, ⟨xs.length, (Nat.sub_zero _).symm, Nat.zero_le _, h0⟩, ?_⟩
  rintro i m H ⟨rfl, hi, p⟩
  have q := hl i H hi p
  by_cases hlt : i < xs.length
  · refine .inr ⟨⟨xs, xs[i], q, List.getElem?_eq_getElem hlt⟩, Pv (i + 1), fun H' p' => ⟨xs.length - (i + 1), by omega, rfl, hlt, p'⟩, fun v H' y => ?_⟩
    obtain ⟨T, x, rfl, nT, rfl, y⟩ := y
    exact hs i x H T (y xs q) p nT
  · have e : i = xs.length := by omega
    subst e
    exact .inl ⟨⟨xs, q, Nat.le_refl _⟩, hd H p⟩
theorem for_enumS {g : TG} {tb : TS} {D : Ends} {σ : L2.St} {H : Hp} (Pv : Nat → L2.St → Hp → Prop) (h0 : Pv 0 σ H) (hl : ∀ i σ H, i ≤ xs.length → Pv i σ H → SqL K H a xs)
    (hs : ∀ i x σ H T, xs[i]? = some x → Pv i σ H → H T = none → g (.ref T) σ (upd H T (.tup [.int (i : Nat), x])) fun σ2 H2 => tb { D with nx := Pv (i + 1), ct := Pv (i + 1), bk := D.nx } σ2 H2) (hd : ∀ σ H, Pv xs.length σ H → D.nx σ H) :
    ∃ W : Nat → Nat → L2.St → Hp → Prop, (∃ m, W 0 m σ H) ∧ ∀ i m σ H, W i m σ H →
      ((Ite K a).stop i H ∧ D.nx σ H) ∨ ((Ite K a).go i H ∧ ∃ N : L2.St → Hp → Prop, (∀ σ' H', N σ' H' → ∃ m', m' < m ∧ W (i + 1) m' σ' H') ∧ ∀ v H', (Ite K a).yld i H v H' → g v σ H' fun σ2 H2 => tb { D with nx := N, ct := N, bk := D.nx } σ2 H2) := by
  refine ⟨fun i m σ H => m = xs.length - i ∧ i ≤ xs.length ∧ Pv i σ H, ⟨xs.length, (Nat.sub_zero _).symm, Nat.zero_le _, h0⟩, ?_⟩
  rintro i m σ H ⟨rfl, hi, p⟩
  have q := hl i σ H hi p
  by_cases hlt : i < xs.length
  · refine .inr ⟨⟨xs, xs[i], q, List.getElem?_eq_getElem hlt⟩, Pv (i + 1), fun σ' H' p' => ⟨xs.length - (i + 1), by omega, rfl, hlt, p'⟩, fun v H' y => ?_⟩
    obtain ⟨T, x, rfl, nT, rfl, y⟩ := y
    exact hs i x σ H T (y xs q) p nT
  · have e : i = xs.length := by omega
    subst e
    exact .inl ⟨⟨xs, q, Nat.le_refl _⟩, hd σ H p⟩
end
theorem K2.of {p : Addr} {H H' : Hp} (k : Kept p H H') (hp : PoolAt H p) : K2 H H' := by
  rintro a xs (h | h)
  · exact .inl (h.kept k hp)
  · refine .inr (k _ _ h fun z => ?_)
    subst z
    obtain ⟨o, e, g, m, rfl, _⟩ := hp
    rw [e] at h
    cases h
theorem cut_to (xs : List V) (k : Nat) : cutV xs none (some (k : Int)) = xs.take k := by
  have e1 : HT.sIx xs.length xs.length (some (k : Int)) = min k xs.length := HT.sIx_nat xs.length xs.length k
  unfold cutV
  rw [e1, HT.sIx_none, Nat.sub_zero, List.drop_zero]
  by_cases h : k ≤ xs.length
  · rw [Nat.min_eq_left h]
  · rw [Nat.min_eq_right (by omega), List.take_length, List.take_of_length_le (by omega)]
theorem cut_from (xs : List V) (k : Nat) : cutV xs (some (k : Int)) none = xs.drop k := by
  have e1 : HT.sIx xs.length 0 (some (k : Int)) = min k xs.length := HT.sIx_nat xs.length 0 k
  unfold cutV
  rw [e1, HT.sIx_none]
  by_cases h : k ≤ xs.length
  · rw [Nat.min_eq_left h, List.take_of_length_le (by rw [List.length_drop]; exact Nat.le_refl _)]
  · rw [Nat.min_eq_right (by omega), List.drop_of_length_le (Nat.le_refl _), List.take_nil, List.drop_of_length_le (by omega)]
theorem pw_lt {ms : List Int} (h : ms.Pairwise (· ≤ ·)) (nd : ms.Nodup) : ms.Pairwise (· < ·) := by
  have z := h.and nd
  exact z.imp fun ⟨a, b⟩ => by omega
/-! a web as data, for repr -/
theorem dp_intsS {K : PySem.W.Frag} {H : Hp} : ∀ ns : List Int, DpAll K H (ns.map V.int) (ns.map PyData.int)
  | [] => .nil
  | n :: ns => .cons (.int n) (dp_intsS ns)
def rowD (r : Rw) : PyData := .tuple [.tuple (r.1.map PyData.int), .tuple (r.2.map PyData.int)]
def webD (rs : List Rw) : PyData := .list (rs.map rowD)
theorem rows_dp {K : PySem.W.Frag} {H : Hp} : ∀ {ws : List V} {rs : List Rw}, RowsAt H ws rs → DpAll K H ws (rs.map rowD)
  | [], [], _ => .nil
  | w :: ws, r :: rs, h => by
    obtain ⟨⟨a, b, c, rfl, h1, h2, h3⟩, t⟩ := h
    exact .cons (.tup h1.sq (.cons (.tup h2.sq (dp_intsS _)) (.cons (.tup h3.sq (dp_intsS _)) .nil))) (rows_dp t)
  | [], _ :: _, h => h.elim
  | _ :: _, [], h => h.elim
theorem WebAt.dp {K : PySem.W.Frag} {H : Hp} {p : Addr} {rs : List Rw} (h : WebAt H p rs) : Dp K H (.ref p) (webD rs) := by
  obtain ⟨ws, e, r⟩ := h
  exact .lst (SqL.of e) (rows_dp r)
theorem FineL.up {ds : List PyData} {n m n' m' : Nat} (h : FineL ds n m) (a : n ≤ n') (b : m ≤ m') : FineL ds n' m' := ⟨h.sh, h.nd, Nat.le_trans h.dp a, h.lv, Nat.le_trans h.wt b, h.cl⟩
theorem row_fine {n : Nat} {r : Rw} (ok : RowOk n r) (hn : n ≤ 80) : Fine (rowD r) 2 3600 := by
  have h1 := FineL.ints r.1 fun z hz => by
    have a := ok.rooms.lo z hz
    have b := ok.rooms.hi z hz
    omega
  have h2 := FineL.ints r.2 fun z hz => by
    have a := ok.tos.lo z hz
    have b := ok.tos.hi z hz
    omega
  have l1 := ok.few
  have l2 := ris_len ok.tos
  have z := Fine.tuple (FineL.cons (Fine.tuple h1) (FineL.cons (Fine.tuple h2) FineL.nil))
  exact z.up (Nat.le_refl _) (by omega)
theorem rows_fine {n : Nat} (hn : n ≤ 80) : ∀ {rs : List Rw}, (∀ r ∈ rs, RowOk n r) → FineL (rs.map rowD) 2 (3601 * rs.length)
  | [], _ => FineL.nil
  | r :: rs, h => by
    have a := FineL.cons (row_fine (h r List.mem_cons_self) hn) (rows_fine hn fun y hy => h y (List.mem_cons_of_mem _ hy))
    exact a.up (Nat.le_refl _) (by rw [List.length_cons]; omega)
theorem WebOk.fine {rs : List Rw} (ok : WebOk rs) : Fine (webD rs) 3 300000 := by
  have h := ok.few
  exact (Fine.list (rows_fine h ok.row)).up (Nat.le_refl _) (by omega)
end Su
/-! ### SF: a tuple times 0 or 1, the sorted keys of a dict -/
namespace Su
open PySem PySem.Spec PyProof.Rows L2
theorem tuple_mul0 (l : Addr) (items : Array Value) (n : Nat) (dd : Option Addr) (sl : Array (Option Value)) (u : Tok) (ne : items.isEmpty = false) :
    Meets (Builtin.«tuple.__mul__» ⟨[.ref l, .int 0 u], []⟩) (fun _ R s => s.heap.get? l = some { cls := .type "tuple", dict := dd, data := .seq items n, slots := sl } ∧ R (.ok (.ret (Value.ref s.heap.objs.size))) { s with heap := s.heap.push (tupO []) }) :=
  .of_wp fun prog w A R s h => by
    obtain ⟨hp, g, d, tk, os⟩ := s
    obtain ⟨hl, h⟩ := h
    have f1 := AutoSeq1.idx_int
    wp_walk using wpAny_loadPart' hl
    repeat (first
      | (refine wpAny_ite_false (by rw [ne]; rfl) ?_; wp_walk using wpAny_loadPart' hl)
      | (refine wpAny_ite_true rfl ?_; wp_walk using wpAny_loadPart' hl))
    exact ⟨_, rfl, h⟩
theorem tuple_mul1 (l : Addr) (items : Array Value) (n : Nat) (dd : Option Addr) (sl : Array (Option Value)) (u : Tok) :
    Meets (Builtin.«tuple.__mul__» ⟨[.ref l, .int 1 u], []⟩) (fun _ R s => s.heap.get? l = some { cls := .type "tuple", dict := dd, data := .seq items n, slots := sl } ∧ R (.ok (.ret (Value.ref l))) s) :=
  .of_wp fun prog w A R s h => by
    obtain ⟨hp, g, d, tk, os⟩ := s
    obtain ⟨hl, h⟩ := h
    have f1 := AutoSeq1.idx_int
    wp_walk using wpAny_loadPart' hl
    exact ⟨_, rfl, h⟩
section
variable {X : Cx}
/-- (x, ..) * k, k 0 or 1 -/
def rMul01 : R2 := fun x y H Q => ∃ (a : Addr) (k : Int) (xs : List V), x = .ref a ∧ y = .int k ∧ T2 H a xs ∧ xs ≠ [] ∧ (k = 0 ∨ k = 1) ∧ ∀ v H', Same H H' → T2 H' v (if k = 1 then xs else []) → Q (.ref v) H'
theorem op_mul01 : OpR X (binaryOp .Mult) rMul01 := by
  intro pins s σ H x y v u Q I rx ry h
  obtain ⟨a, k, xs, rfl, rfl, ha, ne, hk, q⟩ := h
  cases rx
  obtain ⟨t, rfl⟩ := ry
  obtain ⟨its, r, ⟨⟨cls, dd, data, sl⟩, ho, hc, n, hd⟩, hs⟩ := I.tuple (ha.sq (K := X.K))
  simp only at hc hd
  subst hc hd
  have ni : its.toArray.isEmpty = false := by
    cases its with
    | nil =>
      cases r
      exact absurd rfl ne
    | cons _ _ => rfl
  rcases hk with rfl | rfl
  · refine wpAny_binaryOp_repeat_ref (T := "tuple") (U := "int") (by decide) ⟨_, ho, rfl⟩ (fun s' => typeIs_int s' 0 t) noFill_tuple_mul F.fills_int_mul F.slot_int_rmul repeat_tuple F.slot_int_index.lookup
      (call_meets F.slot_int_rmul (typeIs_int s 0 t) F.entry_int_rmul (F.args_int_rmul_2 _ _) (int_rmul_tuple 0 t a its.toArray n dd sl)
        ⟨ho, rfl, ⟨_, ho, rfl⟩, call_meets F.slot_tuple_mul ⟨_, ho, rfl⟩ F.entry_tuple_mul (F.args_tuple_mul_2 _ _) (tuple_mul0 a its.toArray n dd sl t ni) ⟨ho, ?_⟩⟩)
    exact newF I .nil (Nat.zero_le _) (fun v H' s' _ h => q v H' s' (.inl h)) s.toks
  · refine wpAny_binaryOp_repeat_ref (T := "tuple") (U := "int") (by decide) ⟨_, ho, rfl⟩ (fun s' => typeIs_int s' 1 t) noFill_tuple_mul F.fills_int_mul F.slot_int_rmul repeat_tuple F.slot_int_index.lookup
      (call_meets F.slot_int_rmul (typeIs_int s 1 t) F.entry_int_rmul (F.args_int_rmul_2 _ _) (int_rmul_tuple 1 t a its.toArray n dd sl)
        ⟨ho, rfl, ⟨_, ho, rfl⟩, call_meets F.slot_tuple_mul ⟨_, ho, rfl⟩ F.entry_tuple_mul (F.args_tuple_mul_2 _ _) (tuple_mul1 a its.toArray n dd sl t) ⟨ho, ?_⟩⟩)
    exact ⟨.ref a, H, I, rfl, q a H (Same.refl H) ha⟩
/-- the keys of a dict, all ints -/
def KeysI (kvs : List (Key × V)) (ks : List Int) : Prop := kvs.map (·.1) = ks.map Sum.inl
theorem KeysI.len {kvs : List (Key × V)} {ks : List Int} (h : KeysI kvs ks) : kvs.length = ks.length := by
  have z := congrArg List.length h
  rwa [List.length_map, List.length_map] at z
theorem KeysI.put {kvs : List (Key × V)} {ks : List Int} (h : KeysI kvs ks) (nd : ks.Nodup) (k : Int) (v : V) : ∃ ks', KeysI (putK kvs (Sum.inl k) v) ks' ∧ ks'.Nodup ∧ ∀ j, j ∈ ks' ↔ j ∈ ks ∨ j = k := by
  unfold putK
  by_cases hk : (kvs.any fun kv => decide (kv.1 = Sum.inl k)) = true
  · rw [if_pos hk]
    refine ⟨ks, ?_, nd, fun j => ⟨.inl, ?_⟩⟩
    · unfold KeysI at h ⊢
      rw [← h, List.map_map]
      refine List.map_congr_left fun q _ => ?_
      show (if q.1 = Sum.inl k then (q.1, v) else q).1 = q.1
      split <;> rfl
    · rintro (z | rfl)
      · exact z
      · obtain ⟨q, hq, e⟩ := List.any_eq_true.mp hk
        have z : (Sum.inl j : Key) ∈ kvs.map (·.1) := by
          rw [← of_decide_eq_true e]
          exact List.mem_map_of_mem hq
        rw [h] at z
        obtain ⟨i, hi, e2⟩ := List.mem_map.mp z
        rw [← Sum.inl.inj e2]
        exact hi
  · rw [if_neg hk]
    have nk : k ∉ ks := fun hm => hk (by
      have z : (Sum.inl k : Key) ∈ kvs.map (·.1) := by
        rw [h]
        exact List.mem_map_of_mem hm
      obtain ⟨q, hq, e⟩ := List.mem_map.mp z
      exact List.any_eq_true.mpr ⟨q, hq, decide_eq_true e⟩)
    refine ⟨ks ++ [k], ?_, ?_, fun j => by rw [List.mem_append, List.mem_singleton]⟩
    · unfold KeysI at h ⊢
      rw [List.map_append, List.map_append, h]
      rfl
    · rw [List.nodup_append]
      refine ⟨nd, by simp, fun a ha b hb => ?_⟩
      rw [List.mem_singleton.mp hb]
      rintro rfl
      exact nk ha
/-- sorted(d), all keys ints -/
def rSortedDI : List V → Hp → VK → Prop := fun xs H Q => ∃ (a : Addr) (kvs : List (Key × V)) (ks : List Int), xs = [.ref a] ∧ H a = some (.dK kvs) ∧ KeysI kvs ks ∧ ks.length ≤ 4000 ∧
  ∀ (ys : List Int) (p : Addr), ys.Perm ks → ys.Pairwise (· ≤ ·) → H p = none → Q (.ref p) (upd H p (.lst (ys.map V.int)))
theorem cr_sortedDI (hc : X.calm = true) : CallR X (.builtin "sorted") rSortedDI := by
  intro pins s σ H xs us Q I r h
  obtain ⟨a, kvs, ks, rfl, hd, hks, few, q⟩ := h
  rw [Vals.ref1 r]
  obtain ⟨z, lo, vs, rel, dd⟩ := dk_rd I.hok (.inl hd)
  obtain ⟨ep, hat⟩ := dd.dictAt
  have keys : vs.map (·.1) = ks.map Sum.inl := rel.keys.symm.trans hks
  have len : vs.length = ks.length := by
    have y := congrArg List.length keys
    rwa [List.length_map, List.length_map] at y
  have small : vs.length ≤ sizeLine := by
    rw [len, sizeLine_eq]
    omega
  refine Calls.call_function_entry kind_sorted plain_sorted entry_sorted (args_sorted1 _) ?_
  unfold Builtin.«sorted»
  refine wpAny_bind (m := checkCount "sorted" 1 1 _) (wpAny_pure (wpAny_bind (PySem.W.kdu_collect (A := X.A.in1) (PySem.W.kdl_dict (knd := mixKind X.prog X.w) (kvs := vs) (ep := ep) lo) (I.ok.hd hc) hat small fun h' tk acc hk hacc => ?_)))
  have rv : Vals (vs.map fun p => kV p.1) acc.toList := keys_at (by rw [Array.length_toList, hacc.1]) fun j v e => hacc.2 j v (by rw [← Array.getElem?_toList]; exact e)
  have rv2 : Vals (ks.map V.int) acc.toList := by
    have y : (vs.map fun p => kV p.1) = ks.map V.int := by
      have y1 : (vs.map fun p => kV p.1) = (vs.map (·.1)).map kV := by rw [List.map_map]; rfl
      rw [y1, keys, List.map_map]
      rfl
    rwa [y] at rv
  have hI := rv2.ints
  have alen : acc.toList.length ≤ sizeLine := by
    rw [Array.length_toList, hacc.1]
    exact small
  have I1 : Inv X pins σ H { s with heap := h', toks := tk } := I.kept hk
  refine wpAny_bind (wpAny_newList ?_ alen)
  have at1 : (h'.push (seqObj "list" acc.toList.toArray 0)).get? h'.objs.size = some (seqObj "list" acc.toList.toArray 0) := Heap.get?_push_size _ rfl
  show wpAny _ _ _ _ _ { s with heap := h'.push (seqObj "list" acc.toList.toArray 0), toks := tk }
  refine wpAny_bind (wpAny_holding (wpAny_call_entry slot_list_sort ⟨_, at1, rfl⟩ entry_list_sort (SrtO.list_sort_ord SrtO.swo_int (s := { s with heap := h'.push (seqObj "list" acc.toList.toArray 0), toks := tk }) at1 alen (fun h2 => SrtO.ints_sortable hI h2) fun out h1 h2 => ⟨_, rfl, ?_⟩) (args_list_sort _)))
  obtain ⟨k3, k4, k5⟩ := SrtO.ints_out hI h1 h2
  obtain ⟨c, hcc⟩ := sortedHeap_at (vs := acc.toList) (out := out.toArray) at1
  have olen : ((out.map SrtO.iv).map V.int).length ≤ sizeLine := by
    rw [List.length_map, k4.length_eq, sizeLine_eq]
    omega
  refine wpAny_pure ⟨_, rfl, .ref h'.objs.size, upd H h'.objs.size (.lst ((out.map SrtO.iv).map V.int)), I1.laid (t' := tk) (fun b u e => ?_) (Nat.le_refl _) (show ObjOk X.prog X.w _ _ _ (.lst _) from ⟨olen, out, c, vals_of_ints k3, hcc⟩), rfl, q _ _ k4 k5 (I1.hok.fresh (Nat.le_refl _))⟩
  have lt : b < h'.objs.size := Heap.lt_size e
  rw [sortedHeap_old (Nat.ne_of_lt lt) (by rw [size_push']; exact Nat.lt_succ_of_lt lt)]
  exact Heap.get?_push_of_some _ e
end
end Su
/-! ### SG: l.extend(t), t a tuple; rows that are written -/
namespace Su
open PySem PySem.Spec PyProof.Rows L2
theorem ext_tup (l : Addr) (items : Array Value) (n : Nat) (b : Addr) (more : Array Value) (m : Nat) (dd : Option Addr) (sl : Array (Option Value)) (h0 : ¬(!items.isEmpty && Builtin.List.listTooLong (items.size + more.size)) = true) (h1 : items.size ≤ sizeLine) (h2 : items.size + more.size ≤ sizeLine + 1) :
    Meets (Builtin.«list.extend» ⟨[.ref l, .ref b], []⟩) (fun _ R s => s.heap.get? l = some { cls := .type "list", data := .seq items n } ∧ s.heap.get? b = some { cls := .type "tuple", dict := dd, data := .seq more m, slots := sl } ∧
      R (.ok (.ret .none)) { s with heap := s.heap.update l (Obj.mapSeq fun x => x ++ more) }) :=
  .of_wp fun prog w A R s h => by
    obtain ⟨hp, g, d, tk, os⟩ := s
    obtain ⟨hl, hb, h⟩ := h
    have f1 := AutoSeq1.idx_int
    have f2 := F.sub_tuple_tuple
    have f3 := F.sub_list_list
    have f4 := F.sub_tuple_list
    have f5 := F.sub_list_tuple
    have fits : (items ++ more).size ≤ sizeLine + 1 := by
      rw [Array.size_append]
      exact h2
    wp_walk using (wpAny_updateSeq hl rfl (hz := h1) (_hz' := fits)), wpAny_loadPart' hl, wpAny_loadPart' hb
    exact ⟨_, rfl, h⟩
section
variable {X : Cx}
def rExtT (K : PySem.W.Frag) : V → List V → Hp → VK → Prop := fun x vs H Q => ∃ l b xs zs, x = .ref l ∧ vs = [.ref b] ∧ H l = some (.lst xs) ∧ SqT K H b zs ∧ xs.length + zs.length ≤ sizeLine ∧ Q .non (upd H l (.lst (xs ++ zs)))
theorem mt_extT : MtM X "list.extend" (rExtT X.K) := by
  intro pins s σ H x vs v us Q I rx rv h
  obtain ⟨l, b, xs, zs, rfl, rfl, hH, hB, hz, q⟩ := h
  cases rx
  obtain ⟨u, rfl, ru⟩ := rv.one
  cases ru
  obtain ⟨z, its, n, r, hl, e⟩ := I.lstM hH
  obtain ⟨it2, r2, ⟨⟨cls, dd, data, sl⟩, ho, hc, m, hd⟩, _⟩ := I.tuple hB
  simp only at hc hd
  subst hc hd
  have hl2 := r2.length
  have fit : its.toArray.size + it2.toArray.size ≤ sizeLine := by
    rw [List.size_toArray, List.size_toArray]
    omega
  have short : ¬ (!its.toArray.isEmpty && Builtin.List.listTooLong (its.toArray.size + it2.toArray.size)) = true := by
    rw [notLongL fit, Bool.and_false]
    exact Bool.false_ne_true
  refine call_meets F.slot_list_extend ⟨_, e, rfl⟩ F.entry_list_extend (F.args_list_extend_2 _ _) (ext_tup l its.toArray n b it2.toArray m dd sl short (by rw [List.size_toArray]; omega) (by omega)) ⟨e, ho, ?_⟩
  refine ⟨.non, _, I.lset (its' := its ++ it2) hH e (by simp) (r.append r2) ?_, rfl, q⟩
  rw [List.length_append]
  omega
end
/-! written rows -/
def risB (hi : Int) : Int → List Int → Bool
  | _, [] => true
  | lo, k :: r => decide (lo ≤ k) && decide (k ≤ hi) && risB hi (k + 1) r
theorem ris_of {hi : Int} : ∀ {lo : Int} {l : List Int}, risB hi lo l = true → Ris lo hi l
  | _, [], _ => ⟨List.Pairwise.nil, fun _ h => (List.not_mem_nil h).elim, fun _ h => (List.not_mem_nil h).elim⟩
  | lo, k :: r, h => by
    unfold risB at h
    rw [Bool.and_eq_true, Bool.and_eq_true, decide_eq_true_eq, decide_eq_true_eq] at h
    have z := ris_of h.2
    refine ⟨List.pairwise_cons.mpr ⟨fun x hx => by have := z.lo x hx; omega, z.pw⟩, fun x hx => ?_, fun x hx => ?_⟩
    · rcases List.mem_cons.mp hx with e | e
      · rw [e]
        exact h.1.1
      · have := z.lo x e
        omega
    · rcases List.mem_cons.mp hx with e | e
      · rw [e]
        exact h.1.2
      · exact z.hi x e
def rowB (n : Nat) (r : Rw) : Bool := risB 99 0 r.1 && decide (r.1.length ≤ 6) && risB ((n : Int) - 1) 0 r.2
theorem row_of {n : Nat} {r : Rw} (h : rowB n r = true) : RowOk n r := by
  unfold rowB at h
  rw [Bool.and_eq_true, Bool.and_eq_true, decide_eq_true_eq] at h
  exact ⟨ris_of h.1.1, h.1.2, ris_of h.2⟩
def webB (A : List Int) (rs : List Rw) : Bool := decide (1 ≤ rs.length) && decide (rs.length ≤ 80) && rs.all (rowB rs.length) && decide (A.length ≤ 12) && (allRooms rs).all (fun k => decide (k ∈ A))
theorem web_of {A : List Int} {rs : List Rw} (h : webB A rs = true) : WebOk rs := by
  unfold webB at h
  simp only [Bool.and_eq_true, decide_eq_true_eq, List.all_eq_true] at h
  exact ⟨h.1.1.1.1, h.1.1.1.2, fun r hr => row_of (h.1.1.2 r hr), A, h.1.2, h.2⟩
def upto (n : Nat) : List Int := (List.range n).map fun i => ((i : Nat) : Int)
theorem upto_rg (n : Nat) : rgV 0 (n : Int) = (upto n).map V.int := by
  unfold rgV upto
  rw [List.map_map, show ((n : Int) - 0).toNat = n by omega]
  refine List.map_congr_left fun i _ => ?_
  show V.int (0 + (i : Nat)) = V.int (i : Int)
  rw [Int.zero_add]
theorem upto_mem {n : Nat} {k : Int} : k ∈ upto n ↔ 0 ≤ k ∧ k < n := by
  unfold upto
  rw [List.mem_map]
  constructor
  · rintro ⟨i, hi, rfl⟩
    have := List.mem_range.mp hi
    omega
  · intro h
    exact ⟨k.toNat, List.mem_range.mpr (by omega), by omega⟩
theorem upto_pw (n : Nat) : (upto n).Pairwise (· < ·) := by
  unfold upto
  rw [List.pairwise_map]
  exact List.pairwise_lt_range.imp fun h => by omega
end Su
/-! ### SI: a comprehension within another one -/
namespace Su
open PySem PySem.Spec PyProof.Rows L2
theorem blkOk_in {N : List Str} {sc scope : Scope} {own : List (Str × Nat)} (fr : List Str) (h : blkC N { kind := .function, names := fr.map fun x => (x, NameKind.cell), isGenerator := false, isCoroutine := false } scope own = true)
    (h2 : ∀ x ∈ fr, sc.names.lookup x = some .cell ∨ sc.names.lookup x = some .free) : BlkOk N sc scope own := by
  have b := blkOk_by h
  refine ⟨b.kind, b.uniq, b.ix, fun y hy e => ?_, b.own⟩
  refine h2 y.1 ?_
  have key : ∀ (l : List Str) (x : Str) (k : NameKind), (l.map fun x => (x, NameKind.cell)).lookup x = some k → x ∈ l := by
    intro l
    induction l with
    | nil =>
      intro x k e
      simp at e
    | cons a l ih =>
      intro x k e
      rw [List.map_cons, List.lookup_cons] at e
      by_cases hx : (x == a) = true
      · rw [eq_of_beq hx]
        exact List.mem_cons_self
      · rw [Bool.not_eq_true] at hx
        rw [hx] at e
        exact List.mem_cons_of_mem _ (ih x k e)
  rcases b.free y hy e with z | z
  · exact key _ _ _ z
  · exact key _ _ _ z
end Su
/-! ### XA: an exception that is caught and kept -/
namespace Su
open PySem PySem.Spec PyProof.Rows L2
/-- at a: an exception of the class cls, its dict at d -/
def exK (a : Addr) (cls : Value) (d : Option Addr) : HO := .ext fun h => ∃ (oe : Obj) (vs : Array Value), h.get? a = some oe ∧ Zc cls d oe ∧ oe.data = .fields vs
theorem exK_ok {P : Program} {w : World} {H : Hp} {h : Heap} {a : Addr} {cls : Value} {d : Option Addr} {oe : Obj} {vs : Array Value} (e : h.get? a = some oe) (z : Zc cls d oe) (hd : oe.data = .fields vs) : ObjOk P w H h a (exK a cls d) := by
  refine ⟨⟨oe, vs, e, z, hd⟩, ⟨oe, e⟩, fun h1 h2 p k => ?_⟩
  obtain ⟨o, v, e1, z1, d1⟩ := p
  exact ⟨o, v, k _ e1, z1, d1⟩
section
variable {X : Cx} {pins : List (Addr × Obj)} {σ : L2.St} {H : Hp} {s : Shared}
/-- what is new since the entry may be tracked from now on -/
theorem track {a : Addr} {o : HO} (I : Inv X pins σ H s) (ha : H a = none) (h0 : X.s_0.heap.get? a = none) (nl : a ≠ X.env.locals) (nc : ∀ x c, X.env.cells.lookup x = some c → c ≠ a) (np : ∀ p ∈ X.pn ++ pins, p.1 ≠ a)
    (new : ObjOk X.prog X.w (upd H a o) s.heap a o) : Inv X pins σ (upd H a o) s where
  ok := I.ok
  os := I.os
  bare := I.bare
  base := {
    keep := I.base.keep
    slot := I.base.slot
    free := fun b u q n x => by
      rw [upd_ne fun z => by rw [z, h0] at q; cases q]
      exact I.base.free b u q n x
    there := I.base.there
    tups := fun b xs q => by
      have z := I.base.tups b xs q
      rw [upd_ne (ne_of_none z ha)]
      exact z
    frzs := fun b u v q => by
      have z := I.base.frzs b u v q
      rw [upd_ne (ne_of_none z ha)]
      exact z
    tbls := fun b ps q => by
      obtain ⟨more, z⟩ := I.base.tbls b ps q
      exact ⟨more, by rw [upd_ne (ne_of_none z ha)]; exact z⟩ }
  loc := I.loc
  cell := I.cell
  free := by
    rw [upd_ne nl.symm]
    exact I.free
  freeC := fun x c e => by
    rw [upd_ne (nc x c e)]
    exact I.freeC x c e
  pin := fun p hp => by
    obtain ⟨p1, p2, p3⟩ := I.pin p hp
    exact ⟨p1, by rw [upd_ne (np p hp)]; exact p2, p3⟩
  hok := HOk.laidN I.hok (fun _ _ q => q) ha new
  len := I.len
end
def wKeep (K : PySem.W.Frag) (c : Value) (i : Nat) (ts : Addr → TS) (Wo : WX) (D : Ends) : WX := fun cls d σ H =>
  ∃ b, PySem.W.exmOne K cls c = some b ∧
    (b = true → ∀ a, H a = none → ts a { nx := fun σ' H' => D.nx (σ'.set i none) (upd H' a (exK a cls d)), rt := fun _ _ => False, bk := fun _ _ => False, ct := fun _ _ => False } (σ.set i (some (.ref a))) H) ∧
    (b = false → Wo cls d σ H)
section
variable {X : Cx} {x n : Str} {c : Value} {i : Nat} {body suite : List Stmt} {b0 : Stmt} {np pos pos' : Pos} {tb : WX → TS} {ts : Addr → TS} {Wo : WX}
/-- try: .. except x as n: suite, the exception tracked behind the suite -/
theorem ps_try_keep (hex : X.ex = []) (hs : X.stack = X.env :: X.outer) (hf : X.env.frame = some X.env.locals) (hN : X.N.Nodup) (hi : X.N[i]? = some n) (hln : X.env.kindOf n = some .local) (hc : Names X x c) (tk : Takes X Wo)
    (hb : ∀ (W : WX) (pn : List (Addr × Obj)) (xe : Value → Shared → Prop), Takes (X.tr pn xe) W → PassesOwn (model X.prog X.w) X.A X.env xe → PSs (X.tr pn xe) body (tb W))
    (hsu : ∀ (a : Addr) (oe : Obj) (pn : List (Addr × Obj)), PSs (X.suite a ((a, oe) :: pn)) (b0 :: suite) (ts a)) :
    PS X (.Try body [.ExceptHandler (some (.Name x np)) (some n) (b0 :: suite) pos'] [] [] pos) (fun D σ H => tb (wKeep X.K c i ts Wo D) D σ H) := by
  refine ⟨fun pins s σ H D I h => ?_⟩
  have ok := I.ok
  have frm : X.A.frames = some (X.env :: X.outer) := by
    rw [ok.frames, hs]
  refine wpAny_Try_except ?_
  refine wpAny_mono ((hb (wKeep X.K c i ts Wo D) (X.pn ++ pins) (fun u t => wpAny (model X.prog X.w) X.A (noteFrame u X.env) (fun _ t2 => wpAny (model X.prog X.w) X.A (setFlight u none) (fun _ t3 =>
    wpAny (model X.prog X.w) X.A (handleBy u X.env [.ExceptHandler (some (.Name x np)) (some n) (b0 :: suite) pos']) (SP X pins D) X.xe t3) X.xe t2) X.xe t) (fun u t xx => ?_) PassesOwn.looking).run [] s σ H D (I.toTry _) h) (fun fl t hsp => ?_) (fun _ _ z => z)
  · obtain ⟨a, B, sI, pins2, τ, G, cls, d, rfl, Jt, nb, up, sky, na, os, ag, b, hb1, hyes, hno⟩ := xx
    have J : Inv X pins τ G sI := Jt.ofTry ok
    have sky2 : Sky B (X.env :: X.outer) a (Zc cls d) X.env.locals t.heap := by
      rw [← hs]
      exact sky
    show wpAny (model X.prog X.w) X.A (noteFrame (.ref a) X.env) _ _ _
    refine Sky.land Zc.steady frm hf sky2 fun g3 fl3 up3 => ?_
    have J3 : Inv X pins τ G { t with heap := g3 } := J.landed nb fl3.1 (up.trans up3) os ag
    obtain ⟨oe3, vs3, at3, zc3, dt3⟩ := fl3.there
    have nofr : a ∉ frs (X.env :: X.outer) := by
      intro hm
      obtain ⟨_, o', e', hnf⟩ := fl3.2.2.1.mem hm
      rw [at3] at e'
      cases e'
      exact hnf _ dt3
    have nL : a ≠ X.env.locals := fun z => nofr (List.mem_filterMap.mpr ⟨X.env, List.mem_cons_self, by rw [hf, z]⟩)
    have nF : a ∉ X.fs := by
      intro hm
      obtain ⟨e, he, q⟩ := List.mem_filterMap.mp hm
      exact nofr (List.mem_filterMap.mpr ⟨e, List.mem_cons_of_mem _ he, q⟩)
    -- it wasn't there ahead
    have gone : sI.heap.get? a = none := by
      cases z : sI.heap.get? a with
      | none => rfl
      | some o =>
        have y := nb a o z (by rw [hs]; exact nofr)
        rw [fl3.2.1] at y
        cases y
    have gone0 : X.s_0.heap.get? a = none := by
      cases z : X.s_0.heap.get? a with
      | none => rfl
      | some o =>
        obtain ⟨o', y⟩ := J.base.there a o z (by rw [hex]; simp)
        rw [gone] at y
        cases y
    have noc : ∀ y k, X.env.cells.lookup y = some k → k ≠ a := by
      rintro y k e rfl
      obtain ⟨v, o, e1, _⟩ := J.cell y k e
      rw [gone] at e1
      cases e1
    have nop : ∀ q ∈ X.pn ++ pins, q.1 ≠ a := by
      intro q hq e
      have y := (J.pin q hq).1
      rw [e, gone] at y
      cases y
    have S3 := J3.suite at3 dt3 na nL nF
    refine wpAny_handleBy_cons (codeAny_handlers_test ?_) (by intro q; cases q)
    have LT : PySem.W.Looks (model X.prog X.w) g3 (typeOf (.ref a)) cls := fun A Q E s k q => wpAny_typeOf_ref (k _ _ at3) (by rw [zc3.1]; exact q)
    have LM := PySem.W.exm_one (M := model X.prog X.w) (J3.kIn) LT hb1
    have asked : ∀ {Q : Value → Shared → Prop} {E : Value → Shared → Prop}, Q c { t with heap := g3 } → wpAny (model X.prog X.w) (X.A.mark (some (.ref a))) (eval (.Name x np) X.env) Q E { t with heap := g3 } := by
      intro Q E q
      obtain ⟨hg, hdbg, hm | ⟨hm, hv, hnn⟩⟩ := hc
      · exact ld_glob (X := X.suite a ((a, oe3) :: (X.pn ++ pins))) S3 hg hm q hdbg
      · exact ld_blt (X := X.suite a ((a, oe3) :: (X.pn ++ pins))) S3 hg hm hv q hnn hdbg
    refine asked (LM.here ?_)
    cases b with
    | true =>
      refine codeAny_handlers_suite_as (HandSPX.lands_againZ fl3 fun g4 fl4 up4 => ?_)
      have J4 : Inv X pins τ G { t with heap := g4 } := J.landed nb fl4.1 ((up.trans up3).trans up4) os ag
      obtain ⟨oe4, vs4, at4, zc4, dt4⟩ := fl4.there
      have S4 := J4.suite at4 dt4 na nL nF
      refine store_ok (X := X.suite a ((a, oe4) :: (X.pn ++ pins))) (v := .ref a) S4 hN hi (.inl hln) rfl (fun t5 S5 => ?_) (.inr hln)
      refine wpAny_mono ((hsu a oe4 (X.pn ++ pins)).run [] t5 _ G _ S5 (hyes rfl a na)) (fun fl t6 hsp => ?_) (fun _ _ z => False.elim z)
      cases fl with
      | next =>
        obtain ⟨τ6, G6, S6, q6⟩ := hsp
        obtain ⟨p1, p2, _⟩ := S6.pin (a, oe4) (List.mem_append_left _ List.mem_cons_self)
        have J6 : Inv X pins τ6 (upd G6 a (exK a cls d)) t6 := track (S6.unsuite ok) p2 gone0 nL noc nop (exK_ok p1 zc4 dt4)
        exact gone_ok J6 hN hi hln fun t7 J7 => ⟨_, _, J7, q6⟩
      | brk =>
        obtain ⟨_, _, _, q6⟩ := hsp
        exact False.elim q6
      | cont =>
        obtain ⟨_, _, _, q6⟩ := hsp
        exact False.elim q6
      | ret u =>
        obtain ⟨_, _, _, _, _, q6⟩ := hsp
        exact False.elim q6
    | false =>
      show wpAny _ X.A (handleBy (.ref a) X.env []) _ _ _
      refine wpAny_handleBy_nil ?_
      obtain ⟨k1, k2, k3, oe, vs, T, oT, ts', he, hz, hd, h1, hr⟩ := id fl3
      unfold PySem.passOn
      refine wpAny_bind (wpAny_field he hd h1 ?_)
      rw [if_neg (show ¬ ((Value.ref T == Value.none) = true) from by simp)]
      have away : wpAny (model X.prog X.w) X.A (setFlight (.ref a) X.env.frame) (fun _ t4 => wpAny (model X.prog X.w) X.A (throw (.ref a) : Sem Flow) (SP X pins D) X.xe t4) X.xe { t with heap := g3 } := by
        rw [hf]
        refine HandSPX.setFlight_upZ fl3 fun g4 hh4 up4 => wpAny_throw (tk _ _ ?_)
        exact ⟨a, B, sI, pins, τ, G, cls, d, rfl, J, nb, (up.trans up3).trans up4, .inr (.inr (by rw [hs]; exact hh4)), na, os, ag, hno rfl⟩
      first
        | exact wpAny_bind (wpAny_pure (wpAny_bind away))
        | exact wpAny_bind away
  · cases fl with
    | next =>
      obtain ⟨τ, G, J, q⟩ := hsp
      exact wpAny_execs_nil ⟨τ, G, J.ofTry ok, q⟩
    | brk =>
      obtain ⟨τ, G, J, q⟩ := hsp
      exact ⟨τ, G, J.ofTry ok, q⟩
    | cont =>
      obtain ⟨τ, G, J, q⟩ := hsp
      exact ⟨τ, G, J.ofTry ok, q⟩
    | ret u =>
      obtain ⟨v, τ, G, J, r, q⟩ := hsp
      exact ⟨v, τ, G, J.ofTry ok, r, q⟩
end
end Su
/-! ### XB: what is asked of a kept exception: isinstance, a field -/
namespace Su
open PySem PySem.Spec PyProof.Rows L2
/-- what the written part says of an own exception class -/
structure ExcT (K : PySem.W.Frag) (C : Addr) : Prop where
  cl : (PySem.W.clsIn K C).isSome = true
  ga : PySem.W.findIn K (.ref C) "__getattribute__" = some (some (.builtin "BaseException.__getattribute__"))
  gg : PySem.W.findIn K (.ref C) "__getattr__" = some none
  sub : PySem.W.subIn K (.ref C) (.type "BaseException") = some true
  cc : PySem.W.findIn K (.ref C) "__class__" = some (some (.builtin "object.__class__"))
  sp : PySem.W.specialIn K (.builtin "object.__class__") "__get__" = some (some (.builtin "getset_descriptor.__get__"))
  tk : PySem.W.takesIn K (.builtin "object.__class__") = some true
  mr : PySem.W.mroIn K C (.type "object") = some true
  hd : PySem.W.hasDictIn K C = true
/-- its dict, if it has one, is told -/
def XdAt (H : Hp) (d : Option Addr) : Prop := ∀ dd, d = some dd → ∃ fs, H dd = some (.xd fs)
section
variable {X : Cx} {pins : List (Addr × Obj)} {σ : L2.St} {H : Hp} {s : Shared}
theorem exK_inst {a C : Addr} {d : Option Addr} (I : Inv X pins σ H s) (e : H a = some (exK a (.ref C) d)) (hd : XdAt H d) : ∃ (ox : Obj) (od : Option Obj), PySem.W.InstAt s.heap a ox C od := by
  obtain ⟨oe, vs, e1, z, dt⟩ := (I.hok a _ e).1
  have no : PySem.W.notCls oe = true := by
    unfold PySem.W.notCls
    rw [dt]
  cases d with
  | none => exact ⟨oe, none, e1, z.1, no, by rw [z.2]; trivial⟩
  | some dd =>
    obtain ⟨fs, hx⟩ := hd dd rfl
    obtain ⟨mA, hns, _⟩ := (show ObjOk X.prog X.w H s.heap dd (.xd fs) from I.hok dd _ hx)
    obtain ⟨od, ho, _⟩ := lookIn_ns hns
    exact ⟨oe, some od, e1, z.1, no, by rw [z.2]; exact ho⟩
theorem exK_kit {a C : Addr} {d : Option Addr} (T : ExcT X.K C) (I : Inv X pins σ H s) (e : H a = some (exK a (.ref C) d)) (hd : XdAt H d) : ∃ P : Heap → Prop, PySem.W.KitX X.K (.ref a) (.ref C) P ∧ P s.heap := by
  obtain ⟨ox, od, J⟩ := exK_inst I e hd
  exact ⟨_, PySem.W.kitx_exc T.cl T.ga T.gg T.sub T.cc T.sp T.tk T.mr, J⟩
/-- isinstance(e, c) -/
def rIsiE (K : PySem.W.Frag) : List V → Hp → VK → Prop := fun xs H Q => ∃ (a C : Addr) (d : Option Addr) (c : V) (u : Value) (b : Bool), xs = [.ref a, c] ∧ ClsV c u ∧ ExcT K C ∧ H a = some (exK a (.ref C) d) ∧ XdAt H d ∧ PySem.W.kitOne K (.ref C) u = some b ∧ Q (.bl b) H
theorem call_isiE : CallR X (.builtin "isinstance") (rIsiE X.K) := by
  intro pins s σ H xs us Q I r h
  obtain ⟨a, C, d, c, u, b, rfl, k, T, e, hd, ek, q⟩ := h
  obtain ⟨u1, u2, rfl, r1, r2⟩ := vals2 r
  cases r1
  have e2 := k.eq r2
  subst e2
  obtain ⟨P, Z, p⟩ := exK_kit T I e hd
  exact PySem.W.kia_one Z I.kIn p ek (fun z => nomatch z) fun tk => ⟨.bl b, H, I.tok tk, rfl, q⟩
/-- isinstance(e, (c, ..)) -/
def rIsiET (K : PySem.W.Frag) : List V → Hp → VK → Prop := fun xs H Q => ∃ (a C tp : Addr) (d : Option Addr) (cs : List V) (us : List Value) (b : Bool), xs = [.ref a, .ref tp] ∧ T2 H tp cs ∧ Paired ClsV cs us ∧ ExcT K C ∧ H a = some (exK a (.ref C) d) ∧ XdAt H d ∧
  PySem.W.kitAny K (.ref C) us = some b ∧ Q (.bl b) H
theorem call_isiET : CallR X (.builtin "isinstance") (rIsiET X.K) := by
  intro pins s σ H xs us Q I r h
  obtain ⟨a, C, tp, d, cs, ws, b, rfl, hT, k, T, e, hd, ek, q⟩ := h
  obtain ⟨u1, u2, rfl, r1, r2⟩ := vals2 r
  cases r1
  cases r2
  obtain ⟨P, Z, p⟩ := exK_kit T I e hd
  obtain ⟨its, rv, ⟨⟨oc, od, dt, sl⟩, h1, h2, n, h3⟩, _⟩ := I.tuple (hT.sq (K := X.K))
  have e3 := ClsV.all k rv
  subst e3
  simp only at h2 h3
  subst h2 h3
  exact PySem.W.kia_tup Z I.kIn p h1 ek (fun z => nomatch z) fun tk => ⟨.bl b, H, I.tok tk, rfl, q⟩
/-- e.f -/
def tXfld (K : PySem.W.Frag) (f : Str) (te : TE) : TE := fun σ H Q => te σ H fun x H1 => ∃ (a C dd : Addr) (fs : List (Str × V)) (v : V), x = .ref a ∧ ExcT K C ∧ PySem.W.findIn K (.ref C) f = some none ∧ H1 a = some (exK a (.ref C) (some dd)) ∧ H1 dd = some (.xd fs) ∧ fs.lookup f = some v ∧ Q v H1
theorem pe_xfld {e : Expr} {f : Str} {te : TE} {pos : Pos} (he : PE X e te) (hb : attributeBase e f X.env (eval e X.env) = eval e X.env := by rfl) : PE X (.Attribute e f pos) (tXfld X.K f te) := by
  refine ⟨fun pins s σ H Q I h => ?_⟩
  refine attr_of hb (thn (he.run pins s σ H _ I h) fun u s1 ⟨x, H1, I1, rx, a, C, dd, fs, v, ex, T, no, ea, ed, ef, q⟩ => ?_)
  subst ex
  cases rx
  obtain ⟨oe, vs, e1, z, dt⟩ := (I1.hok a _ ea).1
  obtain ⟨mA, hns, hr⟩ := (show ObjOk X.prog X.w H1 s1.heap dd (.xd fs) from I1.hok dd _ ed)
  obtain ⟨od, ho, hl⟩ := lookIn_ns hns
  obtain ⟨u, hu, ru⟩ := RelO.some_of (v := v) (o := mA f) (by rw [← ef]; exact hr f)
  have J : PySem.W.InstAt s1.heap a oe C (some od) := ⟨e1, z.1, by unfold PySem.W.notCls; rw [dt], by rw [z.2]; exact ho⟩
  exact HandSPX.exc_get I1.kIn J T.ga T.gg T.sub (PySem.W.findObj_own T.hd no rfl (by rw [hl, hu])) (handed_of ru) ⟨v, H1, I1.tok _, ru, q⟩
end
end Su
/-! ### XC: an own exception class, over another one, whose __init__ calls that of the built-in above and keeps a field -/
namespace Su
namespace XC
open PySem PySem.W PySem.Calls PyProof.Rows PySem.HandSPX Builtin Builtin.ObjectAttr
def inA (f : Str) (p1 p2 : Pos) : Arguments :=
  { posonlyargs := [], args := [{ arg := "self", annotation := none, pos := p1 }, { arg := f, annotation := none, pos := p2 }], vararg := none, kwonlyargs := [], kw_defaults := [], kwarg := none, defaults := [] }
def inB (f t : Str) (r1 r2 r3 r4 r5 r6 q1 q2 q3 q4 : Pos) : List Stmt :=
  [.Expr (.Call (.Attribute (.Call (.Name "super" r1) [] [] r2) "__init__" r3) [.Constant (.str t) 0 r4] [] r5) r6, .Assign [.Attribute (.Name "self" q1) f q2] (.Name f q3) q4]
def inS (f : Str) : Scope :=
  { kind := .function, names := [(PySem.Str.ofString "self", .local), (f, .local), (PySem.Str.ofString "__class__", .free), (PySem.Str.ofString "super", .globalImplicit)], isGenerator := false, isCoroutine := false, more := [] }
/-- a field's name -/
structure Fld (f : Str) : Prop where
  self : f ≠ "self"
  cl : f ≠ "__class__"
  su : f ≠ "super"
  db : (f == ("__debug__" : Str)) = false
  bnd : ∀ (q : Str) (p1 p2 : Pos) (bd : List Stmt) (doc pm : Value) (an : Option Addr) (cd ct : Value) (cc : Addr) (a b : Value), bindArgs (ksFn "__init__" q (inA f p1 p2) bd (inS f) .none .none doc pm an cd ct cc) ⟨[a, b], []⟩ = pure ([("self", a), (f, b)] : List (Str × Value))
  sw : ∀ (q : Str) (L a : Addr) (cd : Value) (cc : Addr) (t : Str) (r1 r2 r3 r4 r5 : Pos) (k : Nat), swapsWith (.Call (.Attribute (.Call (.Name "super" r1) [] [] r2) "__init__" r3) [.Constant (.str t) 0 r4] [] r5) none k (ksEnv q (inS f) L a cd cc) = pure false
  sx : ∀ (q : Str) (L a : Addr) (cd : Value) (cc : Addr) (q1 q2 q3 : Pos) (k : Nat), swapsWith (.Name f q3) (some (.Attribute (.Name "self" q1) f q2)) k (ksEnv q (inS f) L a cd cc) = pure false
theorem fld_row : Fld "row" := ⟨by decide, by decide, by decide, by decide, fun _ _ _ _ _ _ _ _ _ _ _ _ => by first | rfl | with_unfolding_all rfl, fun _ _ _ _ _ _ _ _ _ _ _ _ => by first | rfl | with_unfolding_all rfl, fun _ _ _ _ _ _ _ _ _ => by first | rfl | with_unfolding_all rfl⟩
theorem fld_number : Fld "number" := ⟨by decide, by decide, by decide, by decide, fun _ _ _ _ _ _ _ _ _ _ _ _ => by first | rfl | with_unfolding_all rfl, fun _ _ _ _ _ _ _ _ _ _ _ _ => by first | rfl | with_unfolding_all rfl, fun _ _ _ _ _ _ _ _ _ => by first | rfl | with_unfolding_all rfl⟩
theorem fld_part : Fld "part" := ⟨by decide, by decide, by decide, by decide, fun _ _ _ _ _ _ _ _ _ _ _ _ => by first | rfl | with_unfolding_all rfl, fun _ _ _ _ _ _ _ _ _ _ _ _ => by first | rfl | with_unfolding_all rfl, fun _ _ _ _ _ _ _ _ _ => by first | rfl | with_unfolding_all rfl⟩
theorem fld_room : Fld "room" := ⟨by decide, by decide, by decide, by decide, fun _ _ _ _ _ _ _ _ _ _ _ _ => by first | rfl | with_unfolding_all rfl, fun _ _ _ _ _ _ _ _ _ _ _ _ => by first | rfl | with_unfolding_all rfl, fun _ _ _ _ _ _ _ _ _ => by first | rfl | with_unfolding_all rfl⟩
theorem fld_to : Fld "to" := ⟨by decide, by decide, by decide, by decide, fun _ _ _ _ _ _ _ _ _ _ _ _ => by first | rfl | with_unfolding_all rfl, fun _ _ _ _ _ _ _ _ _ _ _ _ => by first | rfl | with_unfolding_all rfl, fun _ _ _ _ _ _ _ _ _ => by first | rfl | with_unfolding_all rfl⟩
theorem fld_name : Fld "name" := ⟨by decide, by decide, by decide, by decide, fun _ _ _ _ _ _ _ _ _ _ _ _ => by first | rfl | with_unfolding_all rfl, fun _ _ _ _ _ _ _ _ _ _ _ _ => by first | rfl | with_unfolding_all rfl, fun _ _ _ _ _ _ _ _ _ => by first | rfl | with_unfolding_all rfl⟩
/-- what the written part says of the class n at C, over the built-in B, with the field f, its __init__ at fI -/
structure Own (P : Program) (K : Frag) (mg : Str → Option Value) (n f : Str) (C fI : Addr) (B newId initId : String) (bmB : List Value) : Prop where
  fld : Fld f
  gC : mg n = some (.ref C)
  ini : excInitIn K C bmB newId = true
  ovr : excOver K C bmB = true
  base : ExcBaseFacts B newId initId bmB
  stor : StoreFacts B bmB "object.__setattr__" "object"
  kx : KxsFacts B initId
  sa : findIn K (.ref C) "__setattr__" = some (some (.builtin "object.__setattr__"))
  noN : findIn K (.ref C) f = some none
  iC : findIn K (.ref C) "__init__" = some (some (.ref fI))
  fC : isFn K (.ref fI) = true
  kC : keepIn K (.ref C) = true
  exC : subIn K (.ref C) (.type "BaseException") = some true
  tyC : typeIn K (.ref C) = some (.type "type")
  hdC : hasDictIn K C = true
  isB : subIn K (.ref C) (.type B) = some true
  sup : ks_superIn K C C "__init__" = some (some (.builtin initId))
  own : mroIn K C (.ref C) = some true
  nos : mg "super" = none
  opq : nsIn K cStatics "thirdparty.any" = some none
  ntop : (P.main.scope.names.lookup ("super" : Str)).isSome = false
  fn : ∃ (oc : Value) (od : Option Addr) (q : Str) (doc pm : Value) (an : Option Addr) (cda cc : Addr) (ct : Value) (osl : Array (Option Value)) (t : Str) (p1 p2 r1 r2 r3 r4 r5 r6 q1 q2 q3 q4 : Pos)
      (ccl : Value) (cdd : Option Addr) (vs : Array Value) (ccs : Array (Option Value)) (file : Str) (tf : Tok) (cl : Value) (cld : Option Addr) (csl : Array (Option Value)),
    K.lookup fI = some ⟨oc, od, .func (ksFn "__init__" q (inA f p1 p2) (inB f t r1 r2 r3 r4 r5 r6 q1 q2 q3 q4) (inS f) .none .none doc pm an (.ref cda) ct cc), osl⟩ ∧ codeIn K (.ref cda) q = true ∧
    K.lookup cda = some ⟨ccl, cdd, .fields vs, ccs⟩ ∧ vs[2]? = some (.str file tf) ∧ ((P.main.file : Str) == file) = true ∧ (r3.endLine == r5.line) = true ∧ K.lookup cc = some ⟨cl, cld, .cell (some (.ref C)), csl⟩
/-- what __init__ leaves of a fresh exception at x -/
structure Left (h h' : Heap) (x C dx t1 : Addr) (f : Str) (v : Value) : Prop where
  keep : ∀ b o, b ≠ x → h.get? b = some o → h'.get? b = some o
  obj : h'.get? x = some { cls := .ref C, dict := some dx, data := .fields #[.ref t1, .none, .none, .none, .bool false, .none] }
  dbig : h.objs.size ≤ dx
  dne : dx ≠ x
  ns : h'.Ns1 dx (fun y => if y = f then some v else none)
section
variable {P : Program} {w : World} {A : Around} {E : Value → Shared → Prop} {R : Result → Shared → Prop} {s : Shared} {K : Frag} {mg : Str → Option Value} {n f : Str} {C fI : Addr} {B newId initId : String} {bmB : List Value}
theorem ev_init {env : Env} {o : Expr} {m : Str} {t : Str} {r3 r4 r5 : Pos} (hl : (r3.endLine == r5.line) = true) : ∃ pl, eval (.Call (.Attribute o m r3) [.Constant (.str t) 0 r4] [] r5) env = (do
    let ov ← attributeBase o m env (eval o env); standAt r3.atName
    let (g, first) ← holding [ov] (getMethod ov m pl); callWith r5 g first (backTo r5 (starEach [.Constant (.str t) 0 r4] env)) []) := by
  have e1 : methodCallForm 1 (backTo r5 (starEach [.Constant (.str t) 0 r4] env)) (backToKw r5 (keywordEach [] env)) = true := rfl
  have e2 : methodCallPos true o env r3 r5 = pure r5 := by
    unfold methodCallPos
    rw [hl]
    rfl
  refine ⟨do return (← importBound o env).getD true, ?_⟩
  rw [arm_eval_Call]
  show (do let ov ← attributeBase o m env (eval o env); standAt r3.atName; methodCall o m r3 r5 env ov 1 (backTo r5 (starEach [.Constant (.str t) 0 r4] env)) (backToKw r5 (keywordEach [] env))) = _
  unfold methodCall
  rw [e1, e2]
  simp only [calleeOf, if_true, pure_bind]
  rfl
theorem put_new {x t1 : Addr} {v : Value} {tk : Tok} (T : Own P K mg n f C fI B newId initId bmB) (X : K.In s.heap) (hx : s.heap.get? x = some (excO C t1))
    (hq : ∀ h' tk' dx, (∀ b o, b ≠ x → s.heap.get? b = some o → h'.get? b = some o) → s.heap.objs.size ≤ dx → dx ≠ x → h'.get? x = some { cls := .ref C, dict := some dx, data := .fields #[.ref t1, .none, .none, .none, .bool false, .none] } →
      h'.Ns1 dx (fun y => if y = f then some v else none) → R (.ok (.ret .none)) { s with heap := h', toks := tk' }) :
    codeAny (model P w) A (.call (.builtin "object.__setattr__") ⟨[.ref x, .str f tk, v], []⟩) R s := by
  obtain ⟨cd, hc, hd⟩ := any_some T.hdC
  have hxs : x ≠ s.heap.objs.size := Nat.ne_of_lt (Heap.lt_size hx)
  refine osa_openX (od := none) (r := none) T.stor X ⟨hx, rfl, rfl, trivial⟩ T.ovr (by unfold takerIn; rw [T.noN]; rfl) fun b => ?_
  obtain ⟨hp, g, d, t, os⟩ := s
  refine wpAny_bind (wpAny_pure (wpAny_bind (instanceDict_exc hx (looks_clsIn X hc) hd ?_)))
  show wpAny _ _ (storeInDict hp.objs.size (.str f tk) f v) _ _ _
  refine store_in_new ?_ fun h' tk' hn' hs => ?_
  · exact ⟨_, #[], _, (Heap.get?_update_ne _ _ _ _ hxs.symm).trans (Heap.get?_push_at rfl rfl), rfl, fun e he => absurd he (by simp), fun _ => rfl⟩
  · have e1 : (hp.push (dictOf [] 0)).get? x = some (excO C t1) := Heap.get?_push_of_some _ hx
    exact hq h' tk' hp.objs.size (fun b o hb ho => (hs.2 b (Nat.ne_of_lt (Heap.lt_size ho))).trans ((Heap.get?_update_ne _ _ _ _ hb).trans (Heap.get?_push_of_some _ ho))) (Nat.le_refl _) hxs.symm ((hs.2 x hxs).trans (Heap.get?_update_self _ e1 rfl)) hn'
theorem kind_f (F : Fld f) : (inS f).names.lookup f = some .local := by
  show List.lookup f ((PySem.Str.ofString "self", NameKind.local) :: (f, NameKind.local) :: _) = _
  rw [List.lookup_cons, show (f == PySem.Str.ofString "self") = false from by simpa using F.self, List.lookup_cons, beq_self_eq_true]
theorem kind_c (F : Fld f) : (inS f).names.lookup ("__class__" : Str) = some .free := by
  show List.lookup ("__class__" : Str) ((PySem.Str.ofString "self", NameKind.local) :: (f, NameKind.local) :: (PySem.Str.ofString "__class__", NameKind.free) :: _) = _
  rw [List.lookup_cons, show (("__class__" : Str) == PySem.Str.ofString "self") = false from by decide, List.lookup_cons, show (("__class__" : Str) == f) = false from by simpa using Ne.symm F.cl, List.lookup_cons, show (("__class__" : Str) == PySem.Str.ofString "__class__") = true from by decide]
theorem kind_s (F : Fld f) : (inS f).names.lookup ("super" : Str) = some .globalImplicit := by
  show List.lookup ("super" : Str) ((PySem.Str.ofString "self", NameKind.local) :: (f, NameKind.local) :: (PySem.Str.ofString "__class__", NameKind.free) :: (PySem.Str.ofString "super", NameKind.globalImplicit) :: _) = _
  rw [List.lookup_cons, show (("super" : Str) == PySem.Str.ofString "self") = false from by decide, List.lookup_cons, show (("super" : Str) == f) = false from by simpa using Ne.symm F.su, List.lookup_cons, show (("super" : Str) == PySem.Str.ofString "__class__") = false from by decide, List.lookup_cons, show (("super" : Str) == PySem.Str.ofString "super") = true from by decide]
/-- the built-in's __init__, bound to x, called: its args are laid anew -/
theorem call_mw {u x t0 : Addr} {a : Value} {Q : Value → Shared → Prop} (T : Own P K mg n f C fI B newId initId bmB) (X : K.In s.heap) (hx : s.heap.get? x = some (excO C t0)) (hu : s.heap.get? u = some (kxs_mw initId x))
    (hq : ∀ h' t1, (∀ b o, b ≠ x → s.heap.get? b = some o → h'.get? b = some o) → h'.get? x = some (excO C t1) → Q .none { s with heap := h' }) : wpAny (model P w) A (call (.ref u) [a]) Q E s := by
  obtain ⟨nm, N', qn, bs, bm, hdct, sn, sub, ab, col, dd, k0, k1, k2, k3, k5, hC, hT⟩ := excInit_of X T.ini
  obtain ⟨hp, g, d, tk, os⟩ := s
  have z1 : (Value.type "method-wrapper" == Value.type "method" || Value.type "method-wrapper" == Value.type "builtin_function_or_method" || Value.type "method-wrapper" == Value.type "method-wrapper") = true := by decide
  refine wpAny_call (codeAny_of_tree (show wpAny _ A.in1 (callAny (.ref u) ⟨[a], []⟩) _ _ _ from ?_))
  simp only [callAny]
  refine wpAny_bind (wpAny_load hu (by simp only [kxs_mw, z1, if_true]; refine KFB.if_so (by decide) (wpAny_bind (check_bound_init T.base.toExcCallFacts hC hx rfl (wpAny_bind (wpAny_pure (wpAny_pure ?_))))); exact ⟨plainId_quiet T.base.init.plain _, codeAny_builtin T.base.initEntry (exc_init_tree (cls := .ref C) (t0 := t0) (dv := none) (c2 := .none) (c3 := .none) (b4 := .bool false) hx (by rw [sizeLine_eq]; exact (by decide : 1 ≤ 16777216)) fun h' k e _ => hq h' _ k e)⟩))
theorem x_init (T : Own P K mg n f C fI B newId initId bmB) {x t0 : Addr} {v : Value} (X : K.In s.heap) (hG : s.heap.Ns mainGlobals mg) (hB : ∃ mb, s.heap.Ns builtinsNs mb ∧ ∀ y : Str, y ≠ "__name__" → mb y = bootBuiltins y) (hlim : s.heap.NoLimit)
    (hx : s.heap.get? x = some (excO C t0)) (hnx : K.lookup x = none) (hroom : A.depth < recursionLimit) (hq : ∀ h' tk dx t1, Left s.heap h' x C dx t1 f v → R (.ok (.ret .none)) { s with heap := h', toks := tk }) :
    codeAny (model P w) A (.call (.ref fI) ⟨[.ref x, v], []⟩) R s := by
  obtain ⟨oc, od, q, doc, pm, an, cda, cc, ct, osl, t, p1, p2, r1, r2, r3, r4, r5, r6, q1, q2, q3, q4, ccl, cdd, vs, ccs, file, tf, cl, cld, csl, ho, hcd, hcode, hvs, hfile, hln, hcell⟩ := T.fn
  obtain ⟨hp, g, d, tk0, os⟩ := s
  refine ks_codeAny_call_defAt (fd := ksFn "__init__" q (inA f p1 p2) (inB f t r1 r2 r3 r4 r5 r6 q1 q2 q3 q4) (inS f) .none .none doc pm an (.ref cda) ct cc) (body := inB f t r1 r2 r3 r4 r5 r6 q1 q2 q3 q4) (binds := [("self", .ref x), (f, v)]) hroom (X _ _ ho) rfl hlim (codeRec_of X hcd) rfl
    (BindsTo.of_eq ?b) ?c ?l (fun h₁ hns k₁ => ?_) rfl rfl rfl
  case b => exact T.fld.bnd _ _ _ _ _ _ _ _ _ _ _ _
  case c =>
    intro y hy e
    rcases List.mem_cons.mp hy with rfl | hy
    · cases e
    rcases List.mem_cons.mp hy with rfl | hy
    · cases e
    rcases List.mem_cons.mp hy with rfl | hy
    · cases e
    rcases List.mem_cons.mp hy with rfl | hy
    · cases e
    cases hy
  case l =>
    intro y hy
    rcases List.mem_cons.mp hy with rfl | hy
    · rfl
    rcases List.mem_cons.mp hy with rfl | hy
    · exact kind_f T.fld
    cases hy
  have X1 : K.In h₁ := X.keeps k₁
  have hx1 := k₁ _ _ hx
  obtain ⟨mb, hb1, hb2⟩ := hB
  obtain ⟨cd, hc, hd⟩ := any_some T.hdC
  have lself : (fun y => List.lookup y ([("self", .ref x), (f, v)] : List (Str × Value)).reverse) "self" = some (.ref x) := by
    show List.lookup ("self" : Str) [(f, v), ("self", .ref x)] = _
    rw [List.lookup_cons, show (("self" : Str) == f) = false from by simpa using Ne.symm T.fld.self, List.lookup_cons, beq_self_eq_true]
  have lf : (fun y => List.lookup y ([("self", .ref x), (f, v)] : List (Str × Value)).reverse) f = some v := by
    show List.lookup f [(f, v), ("self", .ref x)] = _
    rw [List.lookup_cons, beq_self_eq_true]
  obtain ⟨oD, hD1, hD2⟩ : ∃ oD, h₁.get? C = some oD ∧ oD.data = .cls cd := by
    unfold clsIn at hc
    split at hc
    · rename_i c d cd' sl ho
      cases hc
      exact ⟨_, X1 _ _ ho, rfl⟩
    · cases hc
  show _root_.PySem.wpAt _ _ (.func _ (ksEnv q (inS f) hp.objs.size fI (.ref cda) cc)) (execs _ (ksEnv q (inS f) hp.objs.size fI (.ref cda) cc)) _ _ _
  obtain ⟨pl, ev⟩ := ev_init (env := ksEnv q (inS f) hp.objs.size fI (.ref cda) cc) (o := .Call (.Name "super" r1) [] [] r2) (m := "__init__") (t := t) (r4 := r4) hln
  refine ks_wpAt_execs_cons (ks_wpAt_Expr_any (ks_wpAt_MethodCall (pl := pl) ?_ ev) rfl (T.fld.sw _ _ _ _ _ _ _ _ _ _ _ _))
  refine ks_wpAt_super_base (env := ksEnv q (inS f) hp.objs.size fI (.ref cda) cc) (kind_s T.fld) (kind_c T.fld) (by decide) rfl (X1 _ _ ho) rfl rfl rfl (X1 _ _ hcode) rfl hvs hfile T.ntop ?_
  refine ks_loadName_global rfl (kind_s T.fld) (loadGlobal_builtin (env := ksEnv q (inS f) hp.objs.size fI (.ref cda) cc) (hG.keeps k₁) T.nos (hb1.keeps k₁) ((hb2 _ (by decide)).trans (show bootBuiltins "super" = some (.type "super") from by first | rfl | decide +kernel)) ⟨rfl, ?_⟩)
  refine wpAny_loadName_free rfl (kind_c T.fld) rfl ⟨_, X1 _ _ hcell, rfl⟩ (wpAny_loadName_local rfl rfl hns lself (ks_wpAny_isType_cls hD1 hD2 ⟨rfl, ?_⟩))
  refine ks_wpAny_call_super hD1 hD2 hx1 rfl (fun c e => by cases e) (looks_mroIn X1 T.own) (fun h2 e2 k2 => ?_)
  have X2 : K.In h2 := X1.keeps k2
  have hx2 := k2 _ _ hx1
  have Ix : InstAt h2 x (excO C t0) C none := ⟨hx2, rfl, rfl, trivial⟩
  have hm := T.sup
  unfold ks_superIn at hm
  rw [hc] at hm
  refine kxs_getMethod T.kx e2 (looks_opaque X2 T.opq) (l₀ := cd.mro) (fun A Q E s k q => wpAny_bind ((looks_clsIn X2 hc) A _ E s k (wpAny_pure q))) rfl X2 hm (Ix.type.andThen (looks_subIn X2 T.isB)) (ks_ne X2 Ix hc) (by decide) ?_
  have k3 : ∀ b o, h2.get? b = some o → (h2.push (kxs_mw initId x)).get? b = some o := fun b o e => Heap.get?_push_of_some _ e
  refine kxs_callWith (i := initId) (x := x) rfl (evalArgs_plain (spliced_more (wpAny_Constant_str (spliced_none ⟨Heap.get?_push_at rfl rfl, ?_⟩))))
  refine call_mw T (X2.keeps k3) (k3 _ _ hx2) (Heap.get?_push_at rfl rfl) fun h4 t1 k4 hx4 => ?_
  have kk : ∀ b o, h₁.get? b = some o → (h2.push (kxs_mw initId x)).get? b = some o := fun b o e => k3 _ _ (k2 _ _ e)
  have hxL : hp.objs.size ≠ x := Nat.ne_of_gt (Heap.lt_size hx)
  have n4 : h4.Ns hp.objs.size (fun y => List.lookup y ([("self", .ref x), (f, v)] : List (Str × Value)).reverse) := by
    obtain ⟨oL, es, ep, hL, r⟩ := hns.keeps kk
    exact ⟨oL, es, ep, k4 _ _ hxL hL, r⟩
  have X4 : K.In h4 := fun b o e => k4 b o (fun z => by rw [z, hnx] at e; cases e) (X2.keeps k3 b o e)
  have lt : hp.objs.size < h4.objs.size := n4.lt
  show _root_.PySem.wpAt _ _ _ (execs _ (ksEnv q (inS f) hp.objs.size fI (.ref cda) cc)) _ _ _
  refine ks_wpAt_execs_cons (ks_wpAt_Assign_Attr (wpAt_of_wpAny ?_) (T.fld.sx _ _ _ _ _ _ _ _ _))
  refine wpAny_Name (wpAny_loadName_local rfl (kind_f T.fld) n4 lf (wpAny_Name (wpAny_loadName_local rfl rfl n4 lself ?_) (by decide))) T.fld.db
  refine set_plain X4 (ox := excO C t1) (od := none) ⟨hx4, rfl, rfl, trivial⟩ T.sa (put_new T X4 hx4 fun h5 tk5 dx k5 dn dne hx5 hn5 => ?_)
  show _root_.PySem.wpAt _ _ _ (execs [] _) _ _ _
  refine wpAt_of_wpAny (wpAny_execs_nil (hq h5 tk5 dx t1 ⟨fun b o hb e => k5 b o hb (k4 b o hb (kk _ _ (k₁ _ _ e))), hx5, Nat.le_trans (Nat.le_of_lt lt) dn, dne, hn5⟩))
/-- n(v), made: its own dict at d holds the field -/
structure Made (h h' : Heap) (e C d : Addr) (f : Str) (v : Value) : Prop where
  keep : ∀ b o, h.get? b = some o → h'.get? b = some o
  new : h.objs.size ≤ e
  obj : ∃ oe us, h'.get? e = some oe ∧ oe.cls = .ref C ∧ oe.dict = some d ∧ oe.data = .fields us ∧ us[1]? = some .none
  dbig : h.objs.size ≤ d
  dne : d ≠ e
  ns : h'.Ns1 d (fun y => if y = f then some v else none)
theorem x_made (T : Own P K mg n f C fI B newId initId bmB) {v : Value} (X : K.In s.heap) (hG : s.heap.Ns mainGlobals mg) (hB : ∃ mb, s.heap.Ns builtinsNs mb ∧ ∀ y : Str, y ≠ "__name__" → mb y = bootBuiltins y) (hlim : s.heap.NoLimit) (hroom : A.depth + 1 < recursionLimit)
    (hq : ∀ h' tk e d, Made s.heap h' e C d f v → R (.ok (.ret (.ref e))) { s with heap := h', toks := tk }) : codeAny (model P w) A (.call (.ref C) ⟨[v], []⟩) R s := by
  obtain ⟨nm, N', qn, bs, bm, hdct, sn, sub, ab, col, dd, k0, k1, k2, k3, k5, hC, hT⟩ := excInit_of X T.ini
  obtain ⟨oI, hoI, hcI⟩ : ∃ oI, s.heap.get? fI = some oI ∧ oI.cls = .type "function" := by
    obtain ⟨o, ho, hc⟩ := Option.map_eq_some_iff.mp (show (K.lookup fI).map (fun z => z.cls) = some (.type "function") from beq_iff_eq.mp T.fC)
    exact ⟨o, X _ _ ho, hc⟩
  obtain ⟨hp, g, dr, tk, os⟩ := s
  have k : ∀ b o, hp.get? b = some o → ((hp.push (kdv_tup [v])).push (excO C hp.objs.size)).get? b = some o := fun b o e => Heap.get?_push_of_some _ (Heap.get?_push_of_some _ e)
  have hnx : K.lookup (hp.objs.size + 1) = none := by
    cases e : K.lookup (hp.objs.size + 1) with
    | none => rfl
    | some o => exact absurd (Nat.lt_of_succ_lt (Heap.lt_size (show hp.get? (hp.objs.size + 1) = some o from X _ _ e))) (Nat.lt_irrefl _)
  refine call_own T.base hT hC (looks_findIn X T.iC) (fun self => exc_bind hoI hcI self) (by rw [sizeLine_eq]; exact (by decide : 1 ≤ 16777216)) ?_
  obtain ⟨mb, hb1, hb2⟩ := hB
  refine x_init (s := ⟨(hp.push (kdv_tup [v])).push (excO C hp.objs.size), g, dr, tk, os⟩) T (X.keeps k) (hG.keeps k) ⟨mb, hb1.keeps k, hb2⟩ (hlim.keeps k) (by heap_get) hnx (show A.depth + 1 < recursionLimit from hroom) fun h' tk' dx t1 L => ?_
  have z : hp.objs.size + 1 + 1 ≤ dx := by
    have q := L.dbig
    first
      | (simpa only [Heap.size_push] using q)
      | exact q
      | (rw [Heap.size_push, Heap.size_push] at q; exact q)
  refine ⟨rfl, hq h' tk' (hp.objs.size + 1) dx ⟨fun b o e => L.keep b o (Nat.ne_of_lt (Nat.lt_succ_of_lt (Heap.lt_size e))) (k b o e), Nat.le_succ _, ⟨_, _, L.obj, rfl, rfl, rfl, rfl⟩, Nat.le_trans (Nat.le_trans (Nat.le_succ _) (Nat.le_succ _)) z, L.dne, L.ns⟩⟩
end
end XC
open PySem PySem.Spec PyProof.Rows L2
theorem relO_fld {f : Str} {v : V} {u : Value} (r : RelV v u) (y : Str) : RelO (List.lookup y [(f, v)]) (if y = f then some u else none) := by
  by_cases e : y = f
  · subst e
    rw [if_pos rfl, List.lookup_cons, beq_self_eq_true]
    exact r
  · rw [if_neg e, List.lookup_cons, show (y == f) = false from by simpa using e]
    trivial
section
variable {X : Cx} {n f : Str} {C fI : Addr} {B newId initId : String} {bmB : List Value}
/-- n(e): a new exception, its dict at d -/
def tMkX (C : Addr) (f : Str) (ta : TA) : L2.St → Hp → XK → Prop := fun σ H Q => ta σ H fun vs H1 => ∃ v, vs = [v] ∧ ∀ d, H1 d = none → Q (.ref C) (some d) (upd H1 d (.xd [(f, v)]))
theorem pmk_x {a : Expr} {ta : TA} {p pos : Pos} {k : Nat} (T : XC.Own X.prog X.K X.mg n f C fI B newId initId bmB) (hr : Room k X.A) (ha : PA X [a] ta) (hg : Gl X n := by rfl)
    (he : starEach (a :: []) X.env = (false, eval a X.env) :: starEach [] X.env := by rfl) (hpl : (backTo pos (starEach [] X.env)).any (·.1) = false := by rfl) (hdb : (n == ("__debug__" : Str)) = false := by decide) : PMk X (.Call (.Name n p) [a] [] pos) (tMkX C f ta) := by
  intro pins s σ H Q I h
  refine wpAny_Call_Name_kw (ld_glob I hg T.gC (PySem.W.callWith_K (h₀ := X.base) I.ok.mod.kin T.kC (thn (ha.run pos pins s σ H _ I h) fun us s1 ⟨vs, H1, I1, r1, v, ev, q1⟩ => ?_) he hpl) hdb)
  subst ev
  refine ⟨I1.kIn, ?_⟩
  obtain ⟨u1, rfl, rv⟩ := vals1 r1
  show wpAny _ _ (call (.ref C) [u1]) _ _ _
  have hlim := I1.nolimit
  obtain ⟨mb, hb1, hb2⟩ := I1.mod.blt
  have hG := I1.mod.glob.keeps I1.bk
  have hb := hb1.keeps I1.bk
  obtain ⟨hp, g, dr, tk, os⟩ := s1
  refine wpAny_call (XC.x_made T I1.kIn hG ⟨mb, hb, hb2⟩ hlim (by have := hr.dp; omega) fun h' tk' e d M => ?_)
  show MkP X pins σ Q (.ref e) ⟨h', g, dr, tk', os⟩
  obtain ⟨oe, fv, hoe, hc, hd, hdat, h1⟩ := M.obj
  obtain ⟨G', g1, g2⟩ := restrict h' fun b => decide (b ≠ e)
  have gk : ∀ b, b ≠ e → G'.get? b = h'.get? b := fun b hb => g1 b (decide_eq_true hb)
  have ge : G'.get? e = none := g2 e (by simp)
  have ob : ObjOk X.prog X.w (upd H1 d (.xd [(f, v)])) G' d (.xd [(f, v)]) := ⟨_, M.ns.at (fun o q => (gk d M.dne).trans q), fun y => relO_fld rv y⟩
  have J : Inv X pins σ (upd H1 d (.xd [(f, v)])) ⟨G', g, dr, tk', os⟩ := I1.laid (t' := tk') (fun b o q => (gk b (Nat.ne_of_lt (Nat.lt_of_lt_of_le (Heap.lt_size q) M.new))).trans (M.keep b o q)) M.dbig ob
  refine ⟨e, oe, fv, ⟨G', g, dr, tk', os⟩, _, .ref C, some d, rfl, J, fun b o q => ?_, ge, hoe, ⟨hc, hd⟩, hdat, h1, by rw [upd_ne (Ne.symm M.dne)]; exact I1.hok.fresh M.new, rfl, I1.bare, raises_own T.exC T.tyC, q1 d (I1.hok.fresh M.dbig)⟩
  by_cases hb : b = e
  · rw [hb] at q
    cases ge.symm.trans (show G'.get? e = some o from q)
  · exact (gk b hb).symm.trans q
/-- raise n(e) -/
def tRaiseX (C : Addr) (f : Str) (W : WX) (ta : TA) : TS := fun _ σ H => tMkX C f ta σ H fun cls d H' => W cls d σ H'
theorem ps_raiseX {a : Expr} {ta : TA} {W : WX} {p pos pos2 : Pos} {k : Nat} (hc : X.calm = true) (T : XC.Own X.prog X.K X.mg n f C fI B newId initId bmB) (hr : Room k X.A) (tk : Takes X W) (ha : PA X [a] ta) (hg : Gl X n := by rfl)
    (he : starEach (a :: []) X.env = (false, eval a X.env) :: starEach [] X.env := by rfl) (hpl : (backTo pos (starEach [] X.env)).any (·.1) = false := by rfl) (hdb : (n == ("__debug__" : Str)) = false := by decide) :
    PS X (.Raise (some (.Call (.Name n p) [a] [] pos)) none pos2) (tRaiseX C f W ta) := ps_raise hc tk (pmk_x T hr ha hg he hpl hdb)
end
end Su
/-! ### XD: defs that may let an exception out -/
namespace Su
open PySem PySem.Spec PyProof.Rows L2
structure CalX (P : Program) (w : World) (K : PySem.W.Frag) (mg : Str → Option Value) (base : Heap) (k : Nat) (x : Str) (ps : List Str) (sp : Sp) : Prop where
  ex : ∃ (f : Addr) (fd : FuncData), FnOk P w K mg base (L2.CX P w) k f fd ps sp ∧ mg x = some (.ref f) ∧ PySem.W.keepIn K (.ref f) = true ∧ Binds K fd ps [] ∧ ∃ o : Obj, K.lookup f = some o ∧ o.data = .func fd
section
variable {P : Program} {w : World} {K : PySem.W.Frag} {mg : Str → Option Value} {base : Heap}
theorem cal_ofX {x : Str} {st : Stmt} {N ps : List Str} {k : Nat} {sp : Sp} (T : At K mg x st ps) (S : FnScope N ps (defScope st)) (len : ∀ vs H Q E, sp vs H Q E → vs.length = ps.length)
    (hb : ∀ (f : Addr) (cdv : Value) (A : Around) (outer : List Env) (s : Shared) (H : Hp) (vs : List V) (Q : VK) (E : XK), Room k (A.deeper (envOfC x (defScope st) s.heap.objs.size f cdv)) → sp vs H Q E →
      ∃ t, PSs (cxOf (L2.CX P w) P w K mg base N x (defScope st) f cdv A outer s H E) (defBody st) t ∧ t { nx := fun _ H' => Q .non H', rt := Q } (start N vs) H) : CalX P w K mg base (k + 1) x ps sp := by
  obtain ⟨f, fd, F, hm, b⟩ := T.ex
  have z : ∃ o : Obj, K.lookup f = some o ∧ o.data = .func fd := by
    obtain ⟨oc, od, kV, doc, pm, an, cdv, ct, osl, _, lk, _⟩ := F.ex
    exact ⟨_, lk, rfl⟩
  exact ⟨f, fd, F.okX S len (fun cdv A outer s H vs Q E => hb f cdv A outer s H vs Q E), hm, F.kp, b, z⟩
end
section
variable {X : Cx} {x : Str} {ps : List Str} {sp : Sp} {k j : Nat} {e : Expr} {es : List Expr} {t : TA} {p pos : Pos} {W : WX}
theorem pe_ownX (tk : Takes X W) (C : CalX X.prog X.w X.K X.mg X.base k x ps sp) (hr : Room j X.A) (hk : k ≤ j) (hg : Gl X x) (ha : PA X (e :: es) t)
    (hdb : (x == ("__debug__" : Str)) = false := by decide) (he : starEach (e :: es) X.env = (false, eval e X.env) :: starEach es X.env := by rfl) (hpl : (backTo pos (starEach es X.env)).any (·.1) = false := by rfl) :
    PE X (.Call (.Name x p) (e :: es) [] pos) (tCallS sp (WE W) t) := by
  obtain ⟨f, fd, F, hm, kp, b, _⟩ := C.ex
  exact pe_callS F (hr.mono hk) hg hm kp b (fun σ => passAt tk σ) ha hdb he hpl
end
end Su
/-! ### XE: raise X('..'), X an own exception class without own __init__ -/
namespace Su
open PySem PySem.Spec PyProof.Rows L2
/-- what the written part says of the class n at C, over the built-in B -/
structure Own0 (K : PySem.W.Frag) (mg : Str → Option Value) (n : Str) (C : Addr) (B newId initId : String) (bmB : List Value) : Prop where
  base : ExcBaseFacts B newId initId bmB
  ini : PySem.W.excIn K C bmB newId = true
  gC : mg n = some (.ref C)
  kC : PySem.W.keepIn K (.ref C) = true
  exC : PySem.W.subIn K (.ref C) (.type "BaseException") = some true
  tyC : PySem.W.typeIn K (.ref C) = some (.type "type")
def tRaiseT (C : Addr) (W : WX) : TS := fun _ σ H => W (.ref C) none σ H
theorem ps_raiseT {X : Cx} {n m : Str} {C : Addr} {B newId initId : String} {bmB : List Value} {W : WX} {j : Nat} {p p2 pos pos2 : Pos} (hc : X.calm = true) (T : Own0 X.K X.mg n C B newId initId bmB) (tk : Takes X W) (hg : Gl X n := by rfl)
    (hdb : (n == ("__debug__" : Str)) = false := by decide) : PS X (.Raise (some (.Call (.Name n p) [.Constant (.str m) j p2] [] pos)) none pos2) (tRaiseT C W) :=
  ps_raise hc tk (pmk_own T.base T.ini T.gC T.kC (raises_own T.exC T.tyC) hg hdb)
end Su
/-! ### GA: things of any kind -/
namespace Su
open PySem PySem.Spec PyProof.Rows L2
inductive G where
  | non
  | bl (b : Bool)
  | int (i : Int)
  | str (s : Str)
  | lst (l : List G)
  | tup (l : List G)
  | dct
mutual
/-- the value is such a thing; its lists stand apart from p -/
inductive Tg (p : Addr) (H : Hp) : V → G → Prop
  | non : Tg p H .non .non
  | bl (b : Bool) : Tg p H (.bl b) (.bl b)
  | int (i : Int) : Tg p H (.int i) (.int i)
  | str (s : Str) : Tg p H (.str s) (.str s)
  | lst {a : Addr} {vs : List V} {ds : List G} (n : a ≠ p) (e : H a = some (.lst vs)) (t : TgL p H vs ds) : Tg p H (.ref a) (.lst ds)
  | tup {a : Addr} {vs : List V} {ds : List G} (e : T2 H a vs) (t : TgL p H vs ds) : Tg p H (.ref a) (.tup ds)
  | dct {a : Addr} (e : H a = some (.dK [])) : Tg p H (.ref a) .dct
inductive TgL (p : Addr) (H : Hp) : List V → List G → Prop
  | nil : TgL p H [] []
  | cons {v : V} {vs : List V} {d : G} {ds : List G} (h : Tg p H v d) (t : TgL p H vs ds) : TgL p H (v :: vs) (d :: ds)
end
/-- what keeps such things -/
structure Keeps (p : Addr) (H H' : Hp) : Prop where
  ls : ∀ a vs, a ≠ p → H a = some (.lst vs) → H' a = some (.lst vs)
  tw : ∀ a vs, T2 H a vs → T2 H' a vs
  dk : ∀ a kvs, H a = some (.dK kvs) → H' a = some (.dK kvs)
theorem Keeps.of {p : Addr} {H H' : Hp} (k : Kept p H H') (hp : PoolAt H p) : Keeps p H H' := by
  refine ⟨fun a vs n z => k _ _ z n, fun a vs h => K2.of k hp _ _ h, fun a kvs z => ?_⟩
  obtain ⟨o, e, g, m, rfl, _⟩ := hp
  exact k _ _ z (ne_of z e (by intro y; cases y))
theorem Keeps.same {p : Addr} {H H' : Hp} (s : Same H H') : Keeps p H H' := ⟨fun a vs n z => s _ _ z, fun a vs h => h.same s, fun a kvs z => s _ _ z⟩
mutual
theorem Tg.keep {p : Addr} {H H' : Hp} (k : Keeps p H H') : ∀ {v : V} {g : G}, Tg p H v g → Tg p H' v g
  | _, _, .non => .non
  | _, _, .bl b => .bl b
  | _, _, .int i => .int i
  | _, _, .str s => .str s
  | _, _, .lst n e t => .lst n (k.ls _ _ n e) (TgL.keep k t)
  | _, _, .tup e t => .tup (k.tw _ _ e) (TgL.keep k t)
  | _, _, .dct e => .dct (k.dk _ _ e)
theorem TgL.keep {p : Addr} {H H' : Hp} (k : Keeps p H H') : ∀ {vs : List V} {gs : List G}, TgL p H vs gs → TgL p H' vs gs
  | _, _, .nil => .nil
  | _, _, .cons h t => .cons (Tg.keep k h) (TgL.keep k t)
end
theorem TgL.len {p : Addr} {H : Hp} : ∀ {vs : List V} {gs : List G}, TgL p H vs gs → vs.length = gs.length
  | _, _, .nil => rfl
  | _, _, .cons _ t => by
    rw [List.length_cons, List.length_cons, TgL.len t]
theorem TgL.get {p : Addr} {H : Hp} : ∀ {vs : List V} {gs : List G}, TgL p H vs gs → ∀ {i : Nat} {v : V}, vs[i]? = some v → ∃ g, gs[i]? = some g ∧ Tg p H v g
  | _, _, .nil, i, v, e => by simp at e
  | _, _, .cons h t, 0, v, e => by
    obtain rfl := (by simpa using e : _ = v)
    exact ⟨_, rfl, h⟩
  | _, _, .cons h t, i + 1, v, e => TgL.get t (i := i) (by simpa using e)
theorem TgL.ints {p : Addr} {H : Hp} : ∀ ns : List Int, TgL p H (ns.map V.int) (ns.map G.int)
  | [] => .nil
  | n :: ns => .cons (.int n) (TgL.ints ns)
theorem TgL.app {p : Addr} {H : Hp} : ∀ {vs ws : List V} {gs hs : List G}, TgL p H vs gs → TgL p H ws hs → TgL p H (vs ++ ws) (gs ++ hs)
  | _, _, _, _, .nil, h => h
  | _, _, _, _, .cons x t, h => .cons x (TgL.app t h)
/-! kinds -/
def tyG : G → String
  | .non => "NoneType"
  | .bl _ => "bool"
  | .int _ => "int"
  | .str _ => "str"
  | .lst _ => "list"
  | .tup _ => "tuple"
  | .dct => "dict"
theorem Tg.ty {K : PySem.W.Frag} {p : Addr} {H : Hp} {v : V} {g : G} (h : Tg p H v g) : TyX K H v (.type (tyG g)) := by
  cases h with
  | non => exact .base .non
  | bl b => exact .base (.bl b)
  | int i => exact .base (.int i)
  | str s => exact .base (.str s)
  | lst n e t => exact .base (.lst e)
  | tup e t => exact e.ty
  | dct e => exact .base (.dK e)
def isInt : G → Bool
  | .non => false
  | .bl _ => true
  | .int _ => true
  | .str _ => false
  | .lst _ => false
  | .tup _ => false
  | .dct => false
theorem kit_int {K : PySem.W.Frag} (g : G) : PySem.W.kitOne K (.type (tyG g)) (.type "int") = some (isInt g) := by
  refine kit_ty ?_
  cases g
  · exact (by decide +kernel : kitB "NoneType" "int" = some false)
  · exact (by decide +kernel : kitB "bool" "int" = some true)
  · exact (by decide +kernel : kitB "int" "int" = some true)
  · exact (by decide +kernel : kitB "str" "int" = some false)
  · exact (by decide +kernel : kitB "list" "int" = some false)
  · exact (by decide +kernel : kitB "tuple" "int" = some false)
  · exact (by decide +kernel : kitB "dict" "int" = some false)
def isBool : G → Bool
  | .non => false
  | .bl _ => true
  | .int _ => false
  | .str _ => false
  | .lst _ => false
  | .tup _ => false
  | .dct => false
theorem kit_bool {K : PySem.W.Frag} (g : G) : PySem.W.kitOne K (.type (tyG g)) (.type "bool") = some (isBool g) := by
  refine kit_ty ?_
  cases g
  · exact (by decide +kernel : kitB "NoneType" "bool" = some false)
  · exact (by decide +kernel : kitB "bool" "bool" = some true)
  · exact (by decide +kernel : kitB "int" "bool" = some false)
  · exact (by decide +kernel : kitB "str" "bool" = some false)
  · exact (by decide +kernel : kitB "list" "bool" = some false)
  · exact (by decide +kernel : kitB "tuple" "bool" = some false)
  · exact (by decide +kernel : kitB "dict" "bool" = some false)
def isStr : G → Bool
  | .non => false
  | .bl _ => false
  | .int _ => false
  | .str _ => true
  | .lst _ => false
  | .tup _ => false
  | .dct => false
theorem kit_str {K : PySem.W.Frag} (g : G) : PySem.W.kitOne K (.type (tyG g)) (.type "str") = some (isStr g) := by
  refine kit_ty ?_
  cases g
  · exact (by decide +kernel : kitB "NoneType" "str" = some false)
  · exact (by decide +kernel : kitB "bool" "str" = some false)
  · exact (by decide +kernel : kitB "int" "str" = some false)
  · exact (by decide +kernel : kitB "str" "str" = some true)
  · exact (by decide +kernel : kitB "list" "str" = some false)
  · exact (by decide +kernel : kitB "tuple" "str" = some false)
  · exact (by decide +kernel : kitB "dict" "str" = some false)
def isTuple : G → Bool
  | .non => false
  | .bl _ => false
  | .int _ => false
  | .str _ => false
  | .lst _ => false
  | .tup _ => true
  | .dct => false
theorem kit_tuple {K : PySem.W.Frag} (g : G) : PySem.W.kitOne K (.type (tyG g)) (.type "tuple") = some (isTuple g) := by
  refine kit_ty ?_
  cases g
  · exact (by decide +kernel : kitB "NoneType" "tuple" = some false)
  · exact (by decide +kernel : kitB "bool" "tuple" = some false)
  · exact (by decide +kernel : kitB "int" "tuple" = some false)
  · exact (by decide +kernel : kitB "str" "tuple" = some false)
  · exact (by decide +kernel : kitB "list" "tuple" = some false)
  · exact (by decide +kernel : kitB "tuple" "tuple" = some true)
  · exact (by decide +kernel : kitB "dict" "tuple" = some false)
def isList : G → Bool
  | .non => false
  | .bl _ => false
  | .int _ => false
  | .str _ => false
  | .lst _ => true
  | .tup _ => false
  | .dct => false
theorem kit_list {K : PySem.W.Frag} (g : G) : PySem.W.kitOne K (.type (tyG g)) (.type "list") = some (isList g) := by
  refine kit_ty ?_
  cases g
  · exact (by decide +kernel : kitB "NoneType" "list" = some false)
  · exact (by decide +kernel : kitB "bool" "list" = some false)
  · exact (by decide +kernel : kitB "int" "list" = some false)
  · exact (by decide +kernel : kitB "str" "list" = some false)
  · exact (by decide +kernel : kitB "list" "list" = some true)
  · exact (by decide +kernel : kitB "tuple" "list" = some false)
  · exact (by decide +kernel : kitB "dict" "list" = some false)
end Su
/-! ### GB: such things as data -/
namespace Su
open PySem PySem.Spec PyProof.Rows L2
mutual
def toD : G → PyData
  | .non => .none
  | .bl b => .bool b
  | .int i => .int i
  | .str s => .str s
  | .lst l => .list (toDs l)
  | .tup l => .tuple (toDs l)
  | .dct => .dict []
def toDs : List G → List PyData
  | [] => []
  | g :: gs => toD g :: toDs gs
end
mutual
def okD : G → Bool
  | .dct => false
  | .lst l => okDs l
  | .tup l => okDs l
  | _ => true
def okDs : List G → Bool
  | [] => true
  | g :: gs => okD g && okDs gs
end
mutual
theorem Tg.dp {K : PySem.W.Frag} {p : Addr} {H : Hp} : ∀ {v : V} {g : G}, Tg p H v g → okD g = true → Dp K H v (toD g)
  | _, _, .non, _ => .non
  | _, _, .bl b, _ => .bl b
  | _, _, .int i, _ => .int i
  | _, _, .str s, _ => .str s
  | _, _, .lst n e t, h => .lst (SqL.of e) (TgL.dp t (by simpa only [okD] using h))
  | _, _, .tup e t, h => .tup e.sq (TgL.dp t (by simpa only [okD] using h))
  | _, _, .dct _, h => by simp [okD] at h
theorem TgL.dp {K : PySem.W.Frag} {p : Addr} {H : Hp} : ∀ {vs : List V} {gs : List G}, TgL p H vs gs → okDs gs = true → DpAll K H vs (toDs gs)
  | _, _, .nil, _ => .nil
  | _, _, .cons x t, h => by
    simp only [okDs, Bool.and_eq_true] at h
    exact .cons (Tg.dp x h.1) (TgL.dp t h.2)
end
theorem toDs_map : ∀ gs : List G, toDs gs = gs.map toD
  | [] => rfl
  | g :: gs => by
    show toD g :: toDs gs = toD g :: gs.map toD
    rw [toDs_map gs]
theorem okDs_all : ∀ gs : List G, okDs gs = gs.all okD
  | [] => rfl
  | g :: gs => by
    show (okD g && okDs gs) = (okD g && gs.all okD)
    rw [okDs_all gs]
theorem eqv_nilD (ds : List PyData) : PyData.eqv (.list ds) (.list []) = ds.isEmpty := by
  cases ds with
  | nil => rfl
  | cons x l => rfl
/-- a thing that may stand in a tuple -/
structure OkE (g : G) : Prop where
  ok : okD g = true
  cl : (toD g).canLay0 = true
  dp : (toD g).depth ≤ 4
theorem lay_all : ∀ {gs : List G}, (∀ g ∈ gs, OkE g) → PyData.canLayAll0 (toDs gs) = true ∧ PyData.depthAll (toDs gs) ≤ 4
  | [], _ => ⟨by simp [toDs, PyData.canLayAll0], by simp [toDs, PyData.depthAll]⟩
  | g :: gs, h => by
    obtain ⟨a, b⟩ := lay_all fun x hx => h x (List.mem_cons_of_mem _ hx)
    have c := h g List.mem_cons_self
    refine ⟨?_, ?_⟩
    · simp only [toDs, PyData.canLayAll0, c.cl, a, Bool.and_self]
    · simp only [toDs, PyData.depthAll]
      have := c.dp
      omega
/-- a list of such things beside [] -/
theorem OkE.list {gs : List G} (h : ∀ g ∈ gs, OkE g) : okDs gs = true ∧ SeqAt.shaped (.list (toDs gs)) = true := by
  obtain ⟨a, b⟩ := lay_all h
  refine ⟨?_, ?_⟩
  · rw [okDs_all, List.all_eq_true]
    exact fun g hg => (h g hg).ok
  · unfold SeqAt.shaped
    rw [Bool.and_eq_true, decide_eq_true_eq]
    refine ⟨by simp only [PyData.canLay0, a], ?_⟩
    simp only [PyData.depth]
    omega
theorem shaped_nil : SeqAt.shaped (.list []) = true := by
  have f2 : Fine (.list []) 1 0 := Fine.list FineL.nil
  exact f2.shaped (by decide)
end Su
/-! ### GC: repr of such things -/
namespace Su
open PySem PySem.Spec PyProof.Rows L2
structure Fz (g : G) (n m : Nat) : Prop where
  sh : (toD g).showable = true
  dp : (toD g).depth ≤ n
  lv : (toD g).leavesShort 30 = true
  wt : (toD g).weight ≤ m
structure FzL (gs : List G) (n m : Nat) : Prop where
  sh : PyData.showableAll (toDs gs) = true
  dp : PyData.depthAll (toDs gs) ≤ n
  lv : PyData.leavesShortAll 30 (toDs gs) = true
  wt : PyData.weightAll (toDs gs) ≤ m
theorem Fz.up {g : G} {n m n' m' : Nat} (h : Fz g n m) (a : n ≤ n') (b : m ≤ m') : Fz g n' m' := ⟨h.sh, Nat.le_trans h.dp a, h.lv, Nat.le_trans h.wt b⟩
theorem FzL.up {g : List G} {n m n' m' : Nat} (h : FzL g n m) (a : n ≤ n') (b : m ≤ m') : FzL g n' m' := ⟨h.sh, Nat.le_trans h.dp a, h.lv, Nat.le_trans h.wt b⟩
theorem Fz.int {i : Int} (h1 : -1000000 ≤ i) (h2 : i ≤ 1000000) : Fz (.int i) 0 40 := by
  have hb : i.natAbs < 10 ^ 12 := by omega
  have hl : i.natAbs.log2 < 39 := by
    by_cases z : i.natAbs = 0
    · rw [z]
      decide
    · exact (Nat.log2_lt z).mpr (by omega)
  refine ⟨?_, by simp [toD, PyData.depth], ?_, ?_⟩
  · simp only [toD, PyData.showable, decide_eq_true_eq]
    omega
  · simp only [toD, PyData.leavesShort, decide_eq_true_eq]
    exact Nat.le_trans (PyData.shown_int_le hb) (by decide)
  · simp only [toD, PyData.weight]
    split <;> omega
theorem Fz.none : Fz .non 0 0 := ⟨by simp [toD, PyData.showable], by simp [toD, PyData.depth], by simp [toD, PyData.leavesShort], by simp [toD, PyData.weight]⟩
theorem Fz.bool (b : Bool) : Fz (.bl b) 0 0 := ⟨by simp [toD, PyData.showable], by simp [toD, PyData.depth], by simp [toD, PyData.leavesShort], by simp [toD, PyData.weight]⟩
theorem Fz.dct : Fz .dct 1 0 := ⟨by simp [toD, PyData.showable, PyData.showableKv], by simp [toD, PyData.depth, PyData.depthKv], by simp [toD, PyData.leavesShort, PyData.leavesShortKv], by simp [toD, PyData.weight, PyData.weightKv]⟩
theorem FzL.nil {n : Nat} : FzL [] n 0 := ⟨by simp [toDs, PyData.showableAll], by simp [toDs, PyData.depthAll], by simp [toDs, PyData.leavesShortAll], by simp [toDs, PyData.weightAll]⟩
theorem FzL.cons {g : G} {gs : List G} {n m k : Nat} (h : Fz g n m) (t : FzL gs n k) : FzL (g :: gs) n (m + 1 + k) := by
  refine ⟨?_, ?_, ?_, ?_⟩
  · simp only [toDs, PyData.showableAll, h.sh, t.sh, Bool.and_self]
  · simp only [toDs, PyData.depthAll]
    have := h.dp
    have := t.dp
    omega
  · simp only [toDs, PyData.leavesShortAll, h.lv, t.lv, Bool.and_self]
  · simp only [toDs, PyData.weightAll]
    have := h.wt
    have := t.wt
    omega
theorem Fz.tup {gs : List G} {n m : Nat} (t : FzL gs n m) : Fz (.tup gs) (n + 1) m :=
  ⟨by simpa only [toD, PyData.showable] using t.sh, by simp only [toD, PyData.depth]; have := t.dp; omega, by simpa only [toD, PyData.leavesShort] using t.lv, by simpa only [toD, PyData.weight] using t.wt⟩
theorem Fz.lst {gs : List G} {n m : Nat} (t : FzL gs n m) : Fz (.lst gs) (n + 1) m :=
  ⟨by simpa only [toD, PyData.showable] using t.sh, by simp only [toD, PyData.depth]; have := t.dp; omega, by simpa only [toD, PyData.leavesShort] using t.lv, by simpa only [toD, PyData.weight] using t.wt⟩
theorem FzL.all {n m : Nat} : ∀ {gs : List G}, (∀ g ∈ gs, Fz g n m) → FzL gs n ((m + 1) * gs.length)
  | [], _ => FzL.nil
  | g :: gs, h => by
    have a := FzL.cons (h g List.mem_cons_self) (FzL.all fun y hy => h y (List.mem_cons_of_mem _ hy))
    have e : m + 1 + (m + 1) * gs.length = (m + 1) * (g :: gs).length := by
      rw [List.length_cons, Nat.mul_add, Nat.mul_one, Nat.add_comm]
    rw [e] at a
    exact a
theorem Fz.len {g : G} {n m : Nat} (h : Fz g n m) (hm : m ≤ 500000) : (toD g).shown.length ≤ sizeLine := by
  have a := PyData.shown_le 30 (by decide) (toD g) h.lv
  have b := h.wt
  rw [sizeLine_eq]
  omega
mutual
theorem okD_nd : ∀ g : G, okD g = true → (toD g).hasDict = false
  | .non, _ => by simp [toD, PyData.hasDict]
  | .bl _, _ => by simp [toD, PyData.hasDict]
  | .int _, _ => by simp [toD, PyData.hasDict]
  | .str _, _ => by simp [toD, PyData.hasDict]
  | .lst l, h => by
    simp only [toD, PyData.hasDict]
    exact okDs_nd l (by simpa only [okD] using h)
  | .tup l, h => by
    simp only [toD, PyData.hasDict]
    exact okDs_nd l (by simpa only [okD] using h)
  | .dct, h => by simp [okD] at h
theorem okDs_nd : ∀ gs : List G, okDs gs = true → PyData.hasDictAll (toDs gs) = false
  | [], _ => by simp [toDs, PyData.hasDictAll]
  | g :: gs, h => by
    simp only [okDs, Bool.and_eq_true] at h
    simp only [toDs, PyData.hasDictAll, okD_nd g h.1, okDs_nd gs h.2, Bool.or_self]
end
/-- a thing without a dict, or an empty dict -/
def Flat (g : G) : Prop := okD g = true ∨ g = .dct
section
variable {X : Cx} {pins : List (Addr × Obj)} {σ : L2.St} {H : Hp} {s : Shared} {p : Addr}
theorem flat_reads (I : Inv X pins σ H s) {v : V} {g : G} {u : Value} (h : Tg p H v g) (r : RelV v u) (fl : Flat g) : ∃ as, Reads s.heap u (toD g) as ∧ ((toD g).hasDict = true → sysModules ∉ as) := by
  rcases fl with ok | rfl
  · obtain ⟨as, rd⟩ := Dp.reads I (toD g) v u (h.dp ok) r
    exact ⟨as, rd, PyData.noDict_hsm (okD_nd g ok)⟩
  · cases h with
    | @dct a e =>
      cases r
      obtain ⟨_, lo, vs, kv, o, es, ep, ho, hx, hd, _, pr, _⟩ := dk_of I.hok e
      cases kv
      have ee : es.toList = [] := by
        cases hz : es.toList with
        | nil => rfl
        | cons x l =>
          rw [hz] at pr
          cases pr
      refine ⟨_, Reads.dict (kvs := []) ho hx.1 hd (by rw [ee]; exact .nil) (by rw [ee]; exact .nil), fun _ hm => ?_⟩
      rcases List.mem_append.mp hm with z | z
      · rcases List.mem_cons.mp z with y | y
        · rw [← y] at lo
          simp at lo
        · cases y
      · cases z
theorem rows_reads (I : Inv X pins σ H s) : ∀ {vs : List V} {gs : List G} {us : List Value}, TgL p H vs gs → Vals vs us → (∀ g ∈ gs, Flat g) → PyData.showableAll (toDs gs) = true → (∀ t ∈ PyData.shownAll (toDs gs), t.length ≤ sizeLine) →
    (∃ as, ReadsAll s.heap us (toDs gs) as) ∧ ∃ bs, ReadAtMost s.heap (PyData.depthAll (toDs gs)) bs ∧ ReprAllK X.prog X.w bs s.heap (PyData.depthAll (toDs gs)) us (PyData.shownAll (toDs gs))
  | _, _, _, .nil, r, _, _, _ => by
    cases r
    exact ⟨⟨_, .nil⟩, [], (fun _ h => nomatch h), by simp only [toDs, PyData.shownAll]; exact .nil⟩
  | _, _, _, .cons (d := d) (ds := ds) h t, r, fl, sh, hz => by
    cases r with
    | cons r1 r2 =>
      have sh' : (toD d).showable = true ∧ PyData.showableAll (toDs ds) = true := by simpa [toDs, PyData.showableAll] using sh
      obtain ⟨as, rd, hsm⟩ := flat_reads I h r1 (fl d List.mem_cons_self)
      obtain ⟨b1, hb1, k1⟩ := ReprK.of_reads (prog := X.prog) (w := X.w) rd sh'.1 hsm (hz _ (by simp only [toDs, PyData.shownAll]; exact List.mem_cons_self ..))
      obtain ⟨⟨as2, rd2⟩, b2, hb2, k2⟩ := rows_reads I t r2 (fun g hg => fl g (List.mem_cons_of_mem _ hg)) sh'.2 (fun t ht => hz t (by simp only [toDs, PyData.shownAll]; exact List.mem_cons_of_mem _ ht))
      refine ⟨⟨_, .cons rd rd2⟩, b1 ++ b2, ?_, ?_⟩
      · intro b hm
        simp only [toDs, PyData.depthAll]
        rcases List.mem_append.mp hm with hm | hm
        · obtain ⟨d', as', r', hd'⟩ := hb1 b hm
          exact ⟨d', as', r', Nat.le_trans hd' (Nat.le_max_left _ _)⟩
        · obtain ⟨d', as', r', hd'⟩ := hb2 b hm
          exact ⟨d', as', r', Nat.le_trans hd' (Nat.le_max_right _ _)⟩
      · simp only [toDs, PyData.depthAll, PyData.shownAll]
        exact .cons ((k1.more fun b hb => List.mem_append_left _ hb).level_le (Nat.le_max_left _ _)) (k2.more_le (fun b hb => List.mem_append_right _ hb) (Nat.le_max_right _ _))
end
/-- what may be shown: flat, or a list of flat things -/
structure Shw (g : G) : Prop where
  fz : Fz g 40 500000
  fl : Flat g ∨ ∃ gs, g = .lst gs ∧ ∀ x ∈ gs, Flat x
section
variable {X : Cx}
def rReprG : List V → Hp → VK → Prop := fun xs H Q => ∃ (p : Addr) (v : V) (g : G), xs = [v] ∧ Tg p H v g ∧ Shw g ∧ Q (.str (toD g).shown) H
theorem call_reprG (hg : X.A.guards = some []) (hu : X.A.units + 64 < cLine) : CallR X (.builtin "repr") rReprG := by
  intro pins s σ H xs us Q I r h
  obtain ⟨p, v, g, rfl, ht, sw, q⟩ := h
  obtain ⟨u, rfl, ru⟩ := vals1 r
  have hz := sw.fz.len (Nat.le_refl _)
  have hdp := sw.fz.dp
  have ht0 := ht
  rcases sw.fl with fl | ⟨gs, rfl, fl⟩
  · cases ht with
    | non =>
      cases ru
      simp only [toD, PyData.shown] at q
      exact PySem.P.repr_of_none ⟨.str _, H, I.tok _, ⟨_, rfl⟩, q⟩
    | bl b =>
      cases ru
      simp only [toD, PyData.shown] at q
      exact PySem.P.repr_of_bool ⟨.str _, H, I.tok _, ⟨_, rfl⟩, q⟩
    | int i =>
      obtain ⟨t, rfl⟩ := ru
      simp only [toD, PyData.shown] at q
      have z := sw.fz.sh
      simp only [toD, PyData.showable, decide_eq_true_eq] at z
      exact PySem.P.repr_of_int z ⟨.str _, H, I.tok _, ⟨_, rfl⟩, q⟩
    | str x =>
      obtain ⟨t, rfl⟩ := ru
      simp only [toD, PyData.shown] at q hz
      exact PySem.P.repr_of_str ⟨.str _, H, I.tok _, ⟨_, rfl⟩, q⟩ hz
    | @lst a vs ds n e t =>
      cases ru
      obtain ⟨as, rd, hsm⟩ := flat_reads I ht0 rfl fl
      exact repr_of_reads' rd sw.fz.sh hsm hg (by omega) (fun _ _ z => z) (fun h' u tk hk => ⟨.str _, H, I.kept hk, ⟨u, rfl⟩, q⟩) hz
    | @tup a vs ds e t =>
      cases ru
      obtain ⟨as, rd, hsm⟩ := flat_reads I ht0 rfl fl
      exact repr_of_reads' rd sw.fz.sh hsm hg (by omega) (fun _ _ z => z) (fun h' u tk hk => ⟨.str _, H, I.kept hk, ⟨u, rfl⟩, q⟩) hz
    | @dct a e =>
      cases ru
      obtain ⟨as, rd, hsm⟩ := flat_reads I ht0 rfl fl
      exact repr_of_reads' rd sw.fz.sh hsm hg (by omega) (fun _ _ z => z) (fun h' u tk hk => ⟨.str _, H, I.kept hk, ⟨u, rfl⟩, q⟩) hz
  · cases ht with
    | @lst a vs _ n e t =>
      cases ru
      obtain ⟨its, rv, ⟨o, na, ho, hc, _, hd⟩, _⟩ := I.list (SqL.of e)
      have hz' : (listText (PyData.shownAll (toDs gs))).length ≤ sizeLine := by simpa only [toD, PyData.shown] using hz
      have sh' : PyData.showableAll (toDs gs) = true := by simpa only [toD, PyData.showable] using sw.fz.sh
      obtain ⟨⟨as, rda⟩, bs, hb, hk⟩ := rows_reads I t rv fl sh' (fun t ht => Nat.le_trans (listText_mem_le ht) hz')
      have rd : Reads s.heap (.ref a) (.list (toDs gs)) (a :: as) := Reads.list ho hc hd (by simpa using rda)
      have hna : a ∉ bs := not_mem_of_deeper rd (by simp only [PyData.depth]; omega) hb
      have q2 : Q (.str (listText (PyData.shownAll (toDs gs)))) H := by simpa only [toD, PyData.shown] using q
      simp only [toD, PyData.depth] at hdp
      refine call_repr_slot (by omega) ⟨o, ho, hc⟩ F.slot_list_repr.toG ?_
      cases its with
      | nil =>
        have e0 : toDs gs = [] := by
          clear q q2 hz hz' hdp sw sh' hk hb hna rd ht0 fl
          generalize toDs gs = ds at rda ⊢
          cases rda
          rfl
        rw [e0] at q2
        simp only [PyData.shownAll, listText_nil] at q2
        exact call_list_repr_empty ⟨o, ho, hc⟩ ho hd ⟨_, _, rfl, .str _, H, I.kept fun _ _ e => e, ⟨_, rfl⟩, q2⟩
      | cons x l =>
        exact call_list_reprK ho hc hd hna (by simpa using hk.length_eq) (fun i y e => hk.item i y (by simpa using e)) hg (fun b _ => Clear.nil b) (by show X.A.units + 1 + (_ + 1) < cLine; omega) (fun _ _ z => z) (fun h' u tk hk => ⟨_, _, rfl, .str _, H, I.kept hk, ⟨u, rfl⟩, q2⟩) hz'
end
end Su
/-! ### SH: set(t), t a tuple of ints -/
namespace Su
open PySem PySem.Spec PyProof.Rows L2
section
variable {P : Program} {w : World} {A : Around} {E : Value → Shared → Prop} {s : Shared}
theorem set_of_tup {l : Addr} {its : Array Value} (ns : List Int) {Q : Value → Shared → Prop} (hh : A.handled = none) (hl : s.heap.IsTuple l its) (ia : IntsAre its.toList ns) (few : ns.length + 1 < scanBound)
    (q : ∀ (h' : Heap) (tk c : Nat), SetR w h' s.heap.objs.size (fun j => decide (j ∈ ns)) c → c ≤ ns.length → (∀ b o, s.heap.get? b = some o → h'.get? b = some o) → Q (.ref s.heap.objs.size) { s with heap := h', toks := tk }) :
    wpAny (model P w) A (call (.type "set") [.ref l]) Q E s := by
  have sz : its.size = ns.length := by
    have z := IntsAre.length ia
    rwa [Array.length_toList] at z
  obtain ⟨c0, tl0, m0⟩ := F.called_set.mro
  have m1 := F.called_set.made
  have m2 := F.called_set.sub
  have m3 := F.called_set.notType
  have m4 := F.called_set.canCreate
  have m5 := F.typeCall_set_1 (.ref l)
  refine wpAny_call (codeAny_of_tree ?_)
  show wpAny _ _ (callAny (.type "set") _) _ _ _
  refine wpAny_pure ⟨Code.quiet_builtin _ (by decide +kernel), codeAny_builtin F.entry_type_call ?_⟩
  rw [Around.under_plain (weight_type_call_type "set" [.ref l] []) rfl]
  repeat (any_goals (first | assumption | wp_step))
  refine codeAny_mono (code_set_led1 (.ref l) (E := E) (Q₁ := fun x t => x = .ref s.heap.objs.size ∧ t = { s with heap := s.heap.push (set0 w) }) ⟨rfl, rfl⟩) fun r t hr => ?_
  match r, hr with
  | .error e, hr => exact hr
  | .ok .next, hr => exact hr.elim
  | .ok .brk, hr => exact hr.elim
  | .ok .cont, hr => exact hr.elim
  | .ok (.ret x), hr =>
    obtain ⟨rfl, rfl⟩ := hr
    have at0 : (s.heap.push (set0 w)).get? s.heap.objs.size = some (set0 w) := Heap.get?_push_size _ rfl
    have ty0 : Shared.TypeIs { s with heap := s.heap.push (set0 w) } (.ref s.heap.objs.size) "set" := ⟨_, at0, rfl⟩
    have n1 := F.called_set.init.lookup
    have n2 := F.called_set.init.bind (.ref s.heap.objs.size)
    repeat (any_goals (first | assumption | wp_step))
    refine codeAny_mono (codeAny_call_builtin (R := wants (fun r t => r = .none ∧ ∃ h' tk c, t = { s with heap := h', toks := tk } ∧ SetR w h' s.heap.objs.size (fun j => decide (j ∈ ns)) c ∧ c ≤ ns.length ∧ ∀ b o, s.heap.get? b = some o → h'.get? b = some o) E)
      F.called_set.init.plain F.entry_set_init (check_set_init_1 ty0 ?_)) fun r2 t2 hr2 => ?_
    · obtain ⟨⟨oc, od, odt, os⟩, ho, hc, nl, hd⟩ := hl
      simp only at hc hd
      subst hc hd
      have lt : l < s.heap.objs.size := Heap.lt_size ho
      have ho1 : (s.heap.push (set0 w)).get? l = some { cls := .type "tuple", dict := od, data := .seq its nl, slots := os } := Heap.get?_push_of_some _ ho
      have isl : (s.heap.push (set0 w)).IsTuple l its := ⟨_, ho1, rfl, nl, rfl⟩
      have p1 := F.sub_tuple_set
      have p2 := F.sub_tuple_frozenset
      have p3 : (Value.type "tuple" == Value.type "dict") = false := by decide
      unfold Builtin.«set.__init__» noKeywords Builtin.Frozenset.updateFrom
      generalize hPI : pyIter = PI
      wp_walk
      subst hPI
      refine wpAny_pyIter_tuple isl (wpAny_bind (wpAny_runValue ?_))
      have size1 : (s.heap.push (set0 w)).objs.size = s.heap.objs.size + 1 := Heap.size_push ..
      have ap : l ≠ (s.heap.push (set0 w)).objs.size := by
        rw [size1]
        exact Nat.ne_of_lt (Nat.lt_succ_of_lt lt)
      have ap2 : s.heap.objs.size ∉ [(s.heap.push (set0 w)).objs.size, l] := by
        rw [size1]
        simp only [List.mem_cons, List.not_mem_nil, or_false, not_or]
        exact ⟨Nat.ne_of_lt (Nat.lt_succ_self _), Nat.ne_of_gt lt⟩
      refine set_update_ints ((Walks.tuple (by simp [hh]) _ l ap its).toS) s.heap.objs.size ap2 ns sz few (fun i v hv => ?_) (its.size - 0) 0 _ (by omega) (Nat.zero_le _) ⟨⟨_, Heap.get?_push_size _ rfl, rfl, rfl⟩, (isl.extBut (b := (s.heap.push (set0 w)).objs.size) (fun b o hb e => Heap.get?_push_of_some _ e) ap)⟩ ⟨0, Nat.le_refl 0, setR_new_at (Heap.get?_push_of_some _ at0)⟩ fun t3 c3 mv hc3 hS3 => ?_
      · have hi : i < ns.length := by
          rw [← sz]
          exact (Array.getElem?_eq_some_iff.mp hv).1
        obtain ⟨tk, e⟩ := PyProof.Rows.IntsAre.int_at ia i v (by rw [Array.getElem?_toList]; exact hv)
        refine ⟨ns[i], tk, List.getElem?_eq_getElem hi, ?_⟩
        rw [e, List.getD_eq_getElem?_getD, List.getElem?_eq_getElem hi] <;> rfl
      · obtain ⟨h3, g3, d3, tk3, os3⟩ := t3
        obtain rfl : g3 = s.gens := mv.gens
        obtain rfl : d3 = s.drawn := mv.drawn
        obtain rfl : os3 = s.os := mv.os
        show wpAny _ _ _ _ _ _
        refine wpAny_pure ?_
        show wpAny _ _ (ret Value.none) _ _ _
        refine wpAny_pure ⟨rfl, h3, tk3, c3, rfl, hS3, by omega, fun b o e => ?_⟩
        have bl : b < s.heap.objs.size := Heap.lt_size e
        refine mv.heap b o ?_ (Heap.get?_push_of_some _ (Heap.get?_push_of_some _ e))
        rw [size1]
        simp only [List.mem_cons, List.not_mem_nil, or_false, not_or]
        exact ⟨Nat.ne_of_lt bl, Nat.ne_of_lt (Nat.lt_succ_of_lt bl)⟩
    · match r2, hr2 with
      | .error e, hr2 => exact hr2
      | .ok .next, hr2 => exact hr2.elim
      | .ok .brk, hr2 => exact hr2.elim
      | .ok .cont, hr2 => exact hr2.elim
      | .ok (.ret y), hr2 =>
        obtain ⟨rfl, h', tk, c, rfl, hS, hc, hk⟩ := hr2
        repeat (any_goals (first | assumption | wp_step))
        exact q _ _ _ hS hc hk
end
section
variable {X : Cx}
def rSetT (w : World) (K : PySem.W.Frag) : List V → Hp → VK → Prop := fun xs H Q => ∃ (l : Addr) (ns : List Int), xs = [.ref l] ∧ SqT K H l (ns.map V.int) ∧ ns.length ≤ 4000 ∧ ∀ (p : Addr) (H' : Hp), Same H H' → H p = none → SetIs w H' p ns → Q (.ref p) H'
theorem cr_setT (hc : X.calm = true) : CallR X (.type "set") (rSetT X.w X.K) := by
  intro pins s σ H xs us Q I r h
  obtain ⟨l, ns, rfl, hq, hl, q⟩ := h
  rw [Vals.ref1 r]
  obtain ⟨its, rv, pl, hz⟩ := I.tuple hq
  refine set_of_tup ns (I.ok.hd hc) pl (by simpa using ints_of rv) (by unfold scanBound; omega) fun h' tk c hR hc' hk => ?_
  have new : H s.heap.objs.size = none := I.hok.fresh (Nat.le_refl _)
  exact ⟨.ref s.heap.objs.size, _, I.laid (t' := tk) hk (Nat.le_refl _) (setO_new hR), rfl, q _ _ (same_upd new) new (SetIs.of hR upd_same fun k => decide_eq_true_iff)⟩
end
end Su
/-! ### SK: a tuple so many times -/
namespace Su
open PySem PySem.Spec PyProof.Rows L2
section
variable {X : Cx}
def rRepA : R2 := fun x y H Q => ∃ (a : Addr) (k : Int) (xs : List V), x = .ref a ∧ y = .int k ∧ T2 H a xs ∧ xs ≠ [] ∧ 0 ≤ k ∧ k ≤ 1000 ∧ xs.length ≤ 1000 ∧ ∀ v H', Same H H' → T2 H' v (List.replicate k.toNat xs).flatten → Q (.ref v) H'
theorem op_repA : OpR X (binaryOp .Mult) rRepA := by
  intro pins s σ H x y v u Q I rx ry h
  obtain ⟨a, k, xs, rfl, rfl, ha, ne, k0, k1, hl, q⟩ := h
  by_cases h2 : 2 ≤ k
  · exact op_repT pins s σ H _ _ v u Q I rx ry ⟨a, k, xs, rfl, rfl, ha.sq, ne, h2, k1, hl, fun p np => q p _ (same_upd np) (.inr upd_same)⟩
  · refine op_mul01 pins s σ H _ _ v u Q I rx ry ⟨a, k, xs, rfl, rfl, ha, ne, by omega, fun v H' s' ht => q v H' s' ?_⟩
    have e : k = 0 ∨ k = 1 := by omega
    rcases e with rfl | rfl
    · exact ht
    · rw [show (List.replicate (1 : Int).toNat xs).flatten = xs from by simp]
      exact ht
end
end Su
/-! ### SL: a tuple so many times, its methods may be called -/
namespace Su
open PySem PySem.Spec PyProof.Rows L2
section
variable {X : Cx}
def rRepF : R2 := fun x y H Q => ∃ (a : Addr) (k : Int) (xs : List V), x = .ref a ∧ y = .int k ∧ PTup H a xs ∧ xs ≠ [] ∧ 0 ≤ k ∧ k ≤ 1000 ∧ xs.length ≤ 1000 ∧ ∀ v H', Same H H' → PTup H' v (List.replicate k.toNat xs).flatten → Q (.ref v) H'
theorem rep_flat_len {α : Type} (l : List α) : ∀ n : Nat, (List.replicate n l).flatten.length = n * l.length
  | 0 => by simp
  | n + 1 => by
    rw [List.replicate_succ, List.flatten_cons, List.length_append, rep_flat_len l n, Nat.add_mul, Nat.one_mul, Nat.add_comm]
theorem op_repF : OpR X (binaryOp .Mult) rRepF := by
  intro pins s σ H x y v u Q I rx ry h
  obtain ⟨a, k, xs, rfl, rfl, ha, ne, k0, k1, hl, q⟩ := h
  cases rx
  obtain ⟨t, rfl⟩ := ry
  obtain ⟨its, r, ⟨⟨cls, dv, data, sl⟩, ho, hc, n, hd⟩, hs⟩ := I.tuple (ha.sq (K := X.K))
  simp only at hc hd
  subst hc hd
  have le : its.length = xs.length := r.length.symm
  have pos : 0 < its.length := by
    rw [le]
    exact List.length_pos_iff.mpr ne
  have full : its.toArray.isEmpty = false := by
    cases its with
    | nil => simp at pos
    | cons _ _ => rfl
  have prod : k.toNat * xs.length ≤ 1000 * 1000 := Nat.mul_le_mul (by omega) hl
  have ty := fun (s' : Shared) => typeIs_int s' k t
  by_cases h2 : 2 ≤ k
  · have sz : its.toArray.size = its.length := List.size_toArray ..
    have small : ((its.toArray.size : Nat) : Int) * k ≤ 1000000 := by
      rw [sz, le]
      have z : ((xs.length : Nat) : Int) * k ≤ 1000 * k := Int.mul_le_mul_of_nonneg_right (by omega) k0
      omega
    have g0 : (decide (k < -(2 ^ 63)) || decide (k ≥ 2 ^ 63)) = false := by
      rw [Bool.or_eq_false_iff]
      exact ⟨decide_eq_false (by omega), decide_eq_false (by omega)⟩
    have g1 : (its.toArray.isEmpty || k == 1) = false := by
      rw [full]
      simpa using (by omega : ¬ k = 1)
    have g2 : (decide (k ≤ 0) || its.toArray.isEmpty) = false := by
      rw [full, Bool.or_false]
      exact decide_eq_false (by omega)
    have g4 : Builtin.Tuple.tupleTooMany (((its.toArray.size : Nat) : Int) * k) = false := by
      unfold Builtin.Tuple.tupleTooMany
      exact decide_eq_false (by rw [sizeLine_eq]; omega)
    have fl : (List.replicate k.toNat its).flatten.length ≤ sizeLine := by
      rw [rep_flat_len, le, sizeLine_eq]
      omega
    have M := tuple_mulW a its.toArray n dv sl k t g0 g1 g2 (by omega) g4 (by rw [size_rep, List.size_toArray]; exact fl)
    refine wpAny_binaryOp_repeat_ref (T := "tuple") (U := "int") (by decide) ⟨_, ho, rfl⟩ ty noFill_tuple_mul F.fills_int_mul F.slot_int_rmul repeat_tuple F.slot_int_index.lookup (call_meets F.slot_int_rmul (ty s) F.entry_int_rmul (F.args_int_rmul_2 _ _) (int_rmul_tuple k t a its.toArray n dv sl) ⟨ho, rfl, ⟨_, ho, rfl⟩, call_meets F.slot_tuple_mul ⟨_, ho, rfl⟩ F.entry_tuple_mul (F.args_tuple_mul_2 _ _) M ⟨ho, ?_⟩⟩)
    rw [size_rep]
    exact newF I (r.rep k.toNat) (by rw [rep_flat_len, sizeLine_eq]; omega) (fun v H' s' _ h => q v H' s' h) s.toks
  · have e : k = 0 ∨ k = 1 := by omega
    rcases e with rfl | rfl
    · refine wpAny_binaryOp_repeat_ref (T := "tuple") (U := "int") (by decide) ⟨_, ho, rfl⟩ ty noFill_tuple_mul F.fills_int_mul F.slot_int_rmul repeat_tuple F.slot_int_index.lookup (call_meets F.slot_int_rmul (ty s) F.entry_int_rmul (F.args_int_rmul_2 _ _) (int_rmul_tuple 0 t a its.toArray n dv sl) ⟨ho, rfl, ⟨_, ho, rfl⟩, call_meets F.slot_tuple_mul ⟨_, ho, rfl⟩ F.entry_tuple_mul (F.args_tuple_mul_2 _ _) (tuple_mul0 a its.toArray n dv sl t full) ⟨ho, ?_⟩⟩)
      exact newF I .nil (Nat.zero_le _) (fun v H' s' _ h => q v H' s' h) s.toks
    · refine wpAny_binaryOp_repeat_ref (T := "tuple") (U := "int") (by decide) ⟨_, ho, rfl⟩ ty noFill_tuple_mul F.fills_int_mul F.slot_int_rmul repeat_tuple F.slot_int_index.lookup (call_meets F.slot_int_rmul (ty s) F.entry_int_rmul (F.args_int_rmul_2 _ _) (int_rmul_tuple 1 t a its.toArray n dv sl) ⟨ho, rfl, ⟨_, ho, rfl⟩, call_meets F.slot_tuple_mul ⟨_, ho, rfl⟩ F.entry_tuple_mul (F.args_tuple_mul_2 _ _) (tuple_mul1 a its.toArray n dv sl t) ⟨ho, ?_⟩⟩)
      refine ⟨.ref a, H, I, rfl, q a H (Same.refl H) ?_⟩
      rw [show (List.replicate (1 : Int).toNat xs).flatten = xs from by simp]
      exact ha
end
end Su
/-! ### TX: what is shown of data is a text of code points -/
namespace Su
open PySem PySem.Spec PyProof.Rows L2
theorem sok_app {a b : Str} (h1 : PyData.strOk a = true) (h2 : PyData.strOk b = true) : PyData.strOk (a ++ b) = true := by
  show (a.cps ++ b.cps).all _ = true
  rw [Array.all_append, Bool.and_eq_true]
  exact ⟨h1, h2⟩
theorem sok_of (s : String) : PyData.strOk (Str.ofString s) = true := by
  unfold PyData.strOk
  rw [Str.ofString_eq_toList, List.all_toArray, List.all_eq_true]
  intro c hc
  obtain ⟨d, _, rfl⟩ := List.mem_map.mp hc
  rw [decide_eq_true_eq]
  have := d.valid
  unfold UInt32.isValidChar Nat.isValidChar at this
  show d.val.toNat < _
  omega
theorem sok_from : ∀ (ts : List Str) (k : Nat) (acc : Str), PyData.strOk acc = true → (∀ t ∈ ts, PyData.strOk t = true) → PyData.strOk (textFrom k acc ts) = true
  | [], _, _, h, _ => h
  | t :: ts, k, acc, h, ht => sok_from ts (k + 1) _ (sok_app (sok_app h (sok_of _)) (ht t List.mem_cons_self)) fun x hx => ht x (List.mem_cons_of_mem _ hx)
theorem sok_list {ts : List Str} (h : ∀ t ∈ ts, PyData.strOk t = true) : PyData.strOk (listText ts) = true := sok_app (sok_from ts 0 _ (sok_of _) h) (sok_of _)
theorem sok_join (sep : Str) (hs : PyData.strOk sep = true) : ∀ (ts : List Str), (∀ t ∈ ts, PyData.strOk t = true) → PyData.strOk (Str.join sep ts) = true
  | [], _ => by show PyData.strOk Str.empty = true; decide +kernel
  | [x], h => h x List.mem_cons_self
  | x :: y :: r, h => sok_app (sok_app (h x List.mem_cons_self) hs) (sok_join sep hs (y :: r) fun t ht => h t (List.mem_cons_of_mem _ ht))
theorem sok_tuple {ts : List Str} (h : ∀ t ∈ ts, PyData.strOk t = true) : PyData.strOk (tupleText ts) = true := sok_app (sok_app (sok_of _) (sok_join _ (sok_of _) ts h)) (sok_of _)
mutual
/-- no text in it, no dict -/
def noStr : PyData → Bool
  | .str _ => false
  | .dict _ => false
  | .list xs => noStrs xs
  | .tuple xs => noStrs xs
  | _ => true
def noStrs : List PyData → Bool
  | [] => true
  | d :: ds => noStr d && noStrs ds
end
mutual
theorem sok_shown : ∀ d : PyData, noStr d = true → PyData.strOk d.shown = true
  | .none, _ => by simp only [PyData.shown]; exact sok_of _
  | .bool b, _ => by cases b <;> simp only [PyData.shown] <;> exact sok_of _
  | .int i, _ => by simp only [PyData.shown]; exact sok_of _
  | .list xs, h => by simp only [PyData.shown]; exact sok_list (sok_all xs (by simpa only [noStr] using h))
  | .tuple xs, h => by simp only [PyData.shown]; exact sok_tuple (sok_all xs (by simpa only [noStr] using h))
  | .str _, h => by simp [noStr] at h
  | .dict _, h => by simp [noStr] at h
theorem sok_all : ∀ ds : List PyData, noStrs ds = true → ∀ t ∈ PyData.shownAll ds, PyData.strOk t = true
  | [], _, t, ht => by simp [PyData.shownAll] at ht
  | d :: ds, h, t, ht => by
    simp only [noStrs, Bool.and_eq_true] at h
    simp only [PyData.shownAll, List.mem_cons] at ht
    rcases ht with rfl | ht
    · exact sok_shown d h.1
    · exact sok_all ds h.2 t ht
end
theorem noStrs_all : ∀ ds : List PyData, noStrs ds = ds.all noStr
  | [] => rfl
  | d :: ds => by simp only [noStrs, List.all_cons, noStrs_all ds]
theorem noStr_ints (ns : List Int) : noStr (.tuple (ns.map PyData.int)) = true := by
  simp only [noStr, noStrs_all, List.all_eq_true]
  intro d hd
  obtain ⟨i, _, rfl⟩ := List.mem_map.mp hd
  simp only [noStr]
theorem noStr_web (rs : List Rw) : noStr (webD rs) = true := by
  simp only [webD, noStr, noStrs_all, List.all_eq_true]
  intro d hd
  obtain ⟨r, _, rfl⟩ := List.mem_map.mp hd
  unfold rowD
  simp only [noStr, noStrs, Bool.and_true, Bool.and_eq_true]
  exact ⟨by simpa only [noStr] using noStr_ints r.1, by simpa only [noStr] using noStr_ints r.2⟩
end Su
/-! ### XF: an exception that is caught, seen from the begin of its suite on -/
namespace Su
open PySem PySem.Spec PyProof.Rows L2
def wIn (K : PySem.W.Frag) (c : Value) (i : Nat) (ts : Addr → List (Addr × Obj) → TS) (Wo : WX) (D : Ends) : WX := fun cls d σ H =>
  ∃ b, PySem.W.exmOne K cls c = some b ∧
    (b = true → ∀ a pn, H a = none → ts a pn { nx := fun σ' H' => D.nx (σ'.set i none) H', rt := D.rt, bk := fun σ' H' => D.bk (σ'.set i none) H', ct := fun σ' H' => D.ct (σ'.set i none) H' } (σ.set i (some (.ref a))) (upd H a (exK a cls d))) ∧
    (b = false → Wo cls d σ H)
def tTryIn (K : PySem.W.Frag) (c : Value) (i : Nat) (ts : Addr → List (Addr × Obj) → TS) (Wo : WX) (tb : WX → TS) : TS := fun D σ H => tb (wIn K c i ts Wo D) D σ H
section
variable {X : Cx} {x n : Str} {c : Value} {i : Nat} {body suite : List Stmt} {b0 : Stmt} {np pos pos' : Pos} {tb : WX → TS} {ts : Addr → List (Addr × Obj) → TS} {Wo : WX}
/-- try: .. except x as n: suite, the exception tracked in the suite -/
theorem ps_try_in (hex : X.ex = []) (hs : X.stack = X.env :: X.outer) (hf : X.env.frame = some X.env.locals) (hN : X.N.Nodup) (hi : X.N[i]? = some n) (hln : X.env.kindOf n = some .local) (hc : Names X x c) (tk : Takes X Wo)
    (hb : ∀ (W : WX) (pn : List (Addr × Obj)) (xe : Value → Shared → Prop), Takes (X.tr pn xe) W → PassesOwn (model X.prog X.w) X.A X.env xe → PSs (X.tr pn xe) body (tb W))
    (hsu : ∀ (a : Addr) (pn : List (Addr × Obj)), PSs (X.suite a pn) (b0 :: suite) (ts a pn)) :
    PS X (.Try body [.ExceptHandler (some (.Name x np)) (some n) (b0 :: suite) pos'] [] [] pos) (tTryIn X.K c i ts Wo tb) := by
  refine ⟨fun pins s σ H D I h => ?_⟩
  have ok := I.ok
  have frm : X.A.frames = some (X.env :: X.outer) := by
    rw [ok.frames, hs]
  refine wpAny_Try_except ?_
  refine wpAny_mono ((hb (wIn X.K c i ts Wo D) (X.pn ++ pins) (fun u t => wpAny (model X.prog X.w) X.A (noteFrame u X.env) (fun _ t2 => wpAny (model X.prog X.w) X.A (setFlight u none) (fun _ t3 =>
    wpAny (model X.prog X.w) X.A (handleBy u X.env [.ExceptHandler (some (.Name x np)) (some n) (b0 :: suite) pos']) (SP X pins D) X.xe t3) X.xe t2) X.xe t) (fun u t xx => ?_) PassesOwn.looking).run [] s σ H D (I.toTry _) h) (fun fl t hsp => ?_) (fun _ _ z => z)
  · obtain ⟨a, B, sI, pins2, τ, G, cls, d, rfl, Jt, nb, up, sky, na, os, ag, b, hb1, hyes, hno⟩ := xx
    have J : Inv X pins τ G sI := Jt.ofTry ok
    have sky2 : Sky B (X.env :: X.outer) a (Zc cls d) X.env.locals t.heap := by
      rw [← hs]
      exact sky
    show wpAny (model X.prog X.w) X.A (noteFrame (.ref a) X.env) _ _ _
    refine Sky.land Zc.steady frm hf sky2 fun g3 fl3 up3 => ?_
    have J3 : Inv X pins τ G { t with heap := g3 } := J.landed nb fl3.1 (up.trans up3) os ag
    obtain ⟨oe3, vs3, at3, zc3, dt3⟩ := fl3.there
    have nofr : a ∉ frs (X.env :: X.outer) := by
      intro hm
      obtain ⟨_, o', e', hnf⟩ := fl3.2.2.1.mem hm
      rw [at3] at e'
      cases e'
      exact hnf _ dt3
    have nL : a ≠ X.env.locals := fun z => nofr (List.mem_filterMap.mpr ⟨X.env, List.mem_cons_self, by rw [hf, z]⟩)
    have nF : a ∉ X.fs := by
      intro hm
      obtain ⟨e, he, q⟩ := List.mem_filterMap.mp hm
      exact nofr (List.mem_filterMap.mpr ⟨e, List.mem_cons_of_mem _ he, q⟩)
    -- it wasn't there ahead
    have gone : sI.heap.get? a = none := by
      cases z : sI.heap.get? a with
      | none => rfl
      | some o =>
        have y := nb a o z (by rw [hs]; exact nofr)
        rw [fl3.2.1] at y
        cases y
    have gone0 : X.s_0.heap.get? a = none := by
      cases z : X.s_0.heap.get? a with
      | none => rfl
      | some o =>
        obtain ⟨o', y⟩ := J.base.there a o z (by rw [hex]; simp)
        rw [gone] at y
        cases y
    have noc : ∀ y k, X.env.cells.lookup y = some k → k ≠ a := by
      rintro y k e rfl
      obtain ⟨v, o, e1, _⟩ := J.cell y k e
      rw [gone] at e1
      cases e1
    have nop : ∀ q ∈ X.pn ++ pins, q.1 ≠ a := by
      intro q hq e
      have y := (J.pin q hq).1
      rw [e, gone] at y
      cases y
    have S3 := J3.suite at3 dt3 na nL nF
    refine wpAny_handleBy_cons (codeAny_handlers_test ?_) (by intro q; cases q)
    have LT : PySem.W.Looks (model X.prog X.w) g3 (typeOf (.ref a)) cls := fun A Q E s k q => wpAny_typeOf_ref (k _ _ at3) (by rw [zc3.1]; exact q)
    have LM := PySem.W.exm_one (M := model X.prog X.w) (J3.kIn) LT hb1
    have asked : ∀ {Q : Value → Shared → Prop} {E : Value → Shared → Prop}, Q c { t with heap := g3 } → wpAny (model X.prog X.w) (X.A.mark (some (.ref a))) (eval (.Name x np) X.env) Q E { t with heap := g3 } := by
      intro Q E q
      obtain ⟨hg, hdbg, hm | ⟨hm, hv, hnn⟩⟩ := hc
      · exact ld_glob (X := X.suite a ((a, oe3) :: (X.pn ++ pins))) S3 hg hm q hdbg
      · exact ld_blt (X := X.suite a ((a, oe3) :: (X.pn ++ pins))) S3 hg hm hv q hnn hdbg
    refine asked (LM.here ?_)
    cases b with
    | true =>
      refine codeAny_handlers_suite_as (HandSPX.lands_againZ fl3 fun g4 fl4 up4 => ?_)
      have J4 : Inv X pins τ G { t with heap := g4 } := J.landed nb fl4.1 ((up.trans up3).trans up4) os ag
      obtain ⟨oe4, vs4, at4, zc4, dt4⟩ := fl4.there
      have J5 : Inv X pins τ (upd G a (exK a cls d)) { t with heap := g4 } := track J4 na gone0 nL noc nop (exK_ok at4 zc4 dt4)
      have S4 : Inv (X.suite a (X.pn ++ pins)) [] τ (upd G a (exK a cls d)) { t with heap := g4 } := ⟨J5.ok.suite _ _, J5.os, J5.bare, J5.base, J5.loc, J5.cell, J5.free, J5.freeC, fun p hp => J5.pin p (by rw [List.append_nil] at hp; exact hp), J5.hok, J5.len⟩
      refine store_ok (X := X.suite a (X.pn ++ pins)) (v := .ref a) S4 hN hi (.inl hln) rfl (fun t5 S5 => ?_) (.inr hln)
      refine wpAny_mono ((hsu a (X.pn ++ pins)).run [] t5 _ _ _ S5 (hyes rfl a _ na)) (fun fl t6 hsp => ?_) (fun _ _ z => False.elim z)
      have end_ : ∀ {σ6 : L2.St} {H6 : Hp} {Q : Shared → Prop}, Inv (X.suite a (X.pn ++ pins)) [] σ6 H6 t6 → (∀ t7, Inv X pins (σ6.set i none) H6 t7 → Q t7) →
          wpAny (model X.prog X.w) X.A (do bindName X.env n .none; unbindBehindTheSuite X.env n pos') (fun _ t7 => Q t7) X.xe t6 := fun {σ6 H6 Q} S6 hq => by
        have J6 : Inv X pins σ6 H6 t6 := ⟨ok, S6.os, S6.bare, S6.base, S6.loc, S6.cell, S6.free, S6.freeC, fun p hp => S6.pin p (List.mem_append_left _ hp), S6.hok, S6.len⟩
        exact gone_ok J6 hN hi hln hq
      cases fl with
      | next =>
        obtain ⟨σ6, H6, S6, q6⟩ := hsp
        exact end_ S6 fun t7 J7 => ⟨_, _, J7, q6⟩
      | brk =>
        obtain ⟨σ6, H6, S6, q6⟩ := hsp
        exact end_ S6 fun t7 J7 => ⟨_, _, J7, q6⟩
      | cont =>
        obtain ⟨σ6, H6, S6, q6⟩ := hsp
        exact end_ S6 fun t7 J7 => ⟨_, _, J7, q6⟩
      | ret u =>
        obtain ⟨v6, σ6, H6, S6, r6, q6⟩ := hsp
        exact end_ S6 fun t7 J7 => ⟨_, _, _, J7, r6, q6⟩
    | false =>
      show wpAny _ X.A (handleBy (.ref a) X.env []) _ _ _
      refine wpAny_handleBy_nil ?_
      obtain ⟨k1, k2, k3, oe, vs, T, oT, ts', he, hz, hd, h1, hr⟩ := id fl3
      unfold PySem.passOn
      refine wpAny_bind (wpAny_field he hd h1 ?_)
      rw [if_neg (show ¬ ((Value.ref T == Value.none) = true) from by simp)]
      have away : wpAny (model X.prog X.w) X.A (setFlight (.ref a) X.env.frame) (fun _ t4 => wpAny (model X.prog X.w) X.A (throw (.ref a) : Sem Flow) (SP X pins D) X.xe t4) X.xe { t with heap := g3 } := by
        rw [hf]
        refine HandSPX.setFlight_upZ fl3 fun g4 hh4 up4 => wpAny_throw (tk _ _ ?_)
        exact ⟨a, B, sI, pins, τ, G, cls, d, rfl, J, nb, (up.trans up3).trans up4, .inr (.inr (by rw [hs]; exact hh4)), na, os, ag, hno rfl⟩
      first
        | exact wpAny_bind (wpAny_pure (wpAny_bind away))
        | exact wpAny_bind away
  · cases fl with
    | next =>
      obtain ⟨τ, G, J, q⟩ := hsp
      exact wpAny_execs_nil ⟨τ, G, J.ofTry ok, q⟩
    | brk =>
      obtain ⟨τ, G, J, q⟩ := hsp
      exact ⟨τ, G, J.ofTry ok, q⟩
    | cont =>
      obtain ⟨τ, G, J, q⟩ := hsp
      exact ⟨τ, G, J.ofTry ok, q⟩
    | ret u =>
      obtain ⟨v, τ, G, J, r, q⟩ := hsp
      exact ⟨v, τ, G, J.ofTry ok, r, q⟩
end
section
variable {X : Cx}
/-- repr of a scalar, wherever -/
def rReprS : List V → Hp → VK → Prop := fun xs H Q => (xs = [.non] ∧ Q (.str "None") H) ∨ (∃ b : Bool, xs = [.bl b] ∧ Q (.str (if b then "True" else "False")) H) ∨ ∃ i : Int, xs = [.int i] ∧ i.natAbs.log2 < 1920 ∧ Q (.str (toString i)) H
theorem call_reprS : CallR X (.builtin "repr") rReprS := by
  intro pins s σ H xs us Q I r h
  rcases h with ⟨rfl, q⟩ | ⟨b, rfl, q⟩ | ⟨i, rfl, hz, q⟩
  · obtain ⟨u, rfl, ru⟩ := vals1 r
    cases ru
    exact PySem.P.repr_of_none ⟨.str _, H, I.tok _, ⟨_, rfl⟩, q⟩
  · obtain ⟨u, rfl, ru⟩ := vals1 r
    cases ru
    exact PySem.P.repr_of_bool ⟨.str _, H, I.tok _, ⟨_, rfl⟩, q⟩
  · obtain ⟨u, rfl, t, rfl⟩ := vals1 r
    exact PySem.P.repr_of_int hz ⟨.str _, H, I.tok _, ⟨_, rfl⟩, q⟩
end
end Su
/-! ### ZL: list(zip(a, b)) of two lists -/
namespace Su
open PySem PySem.Spec PyProof.Rows L2
theorem zip_no_len : typeLookup (.type "zip") "__len__" = pure none := am_miss_of_fast (by decide +kernel)
theorem zip_no_hint : typeLookup (.type "zip") "__length_hint__" = pure none := am_miss_of_fast (by decide +kernel)
/-- the iterator of a zip, i pairs told; S is the list that is being made -/
structure ZSt (z TI TO i1 i2 a b S : Addr) (i : Nat) (h : Heap) : Prop where
  ti : IsPair h TI (.ref i1) (.ref i2)
  h1 : h.IsListIter i1 a i
  h2 : h.IsListIter i2 b i
  hz : (IsZip h z TI TO .none ∧ ∃ x y, IsPair h TO x y) ∨ ∃ T f oT, IsZipHeld h z TI TO T f ∧ h.get? T = some oT ∧ T ≠ z ∧ T ≠ i1 ∧ T ≠ i2 ∧ T ≠ S
section
variable {prog : Program} {w : World} {A : Around} {E : Value → Shared → Prop} {s : Shared} {z TI TO i1 i2 a b S : Addr} {i : Nat}
theorem zl_item {xs ys : Array Value} {x y : Value} {Q : Option Value → Shared → Prop} (D : ZipApart z TI TO i1 i2 a b) (st : ZSt z TI TO i1 i2 a b S i s.heap) (hSl : S < s.heap.objs.size)
    (hl1 : s.heap.IsList a xs) (hl2 : s.heap.IsList b ys) (hx : xs[i]? = some x) (hy : ys[i]? = some y)
    (hQ : ∀ h', IsPair h' s.heap.objs.size x y → ZSt z TI TO i1 i2 a b S (i + 1) h' → (∀ c o, c ≠ z → c ≠ TO → c ≠ i1 → c ≠ i2 → s.heap.get? c = some o → h'.get? c = some o) → Q (some (.ref s.heap.objs.size)) { s with heap := h' }) :
    wpAny (model prog w) A (pyNext (.ref z)) Q E s := by
  obtain ⟨hTI, h1, h2, hz⟩ := st
  have lt : ∀ {c o}, s.heap.get? c = some o → s.heap.objs.size ≠ c := fun e => Nat.ne_of_gt (Heap.lt_size e)
  have n1 : s.heap.objs.size ≠ i1 := let ⟨_, e, _⟩ := h1; lt e
  have n2 : s.heap.objs.size ≠ i2 := let ⟨_, e, _⟩ := h2; lt e
  rcases hz with ⟨hz, x0, y0, hTO⟩ | ⟨T, f, oT, hz, hT, r1, r2, r3, r4⟩
  · refine wpAny_pyNext_zip_item D hz hTI hTO h1 h2 hl1 hl2 hx hy fun h' a1 a2 a3 a4 a5 a6 hk => ?_
    exact hQ h' a5 ⟨hk _ _ D.TIz D.TITO D.TIi1 D.TIi2 hTI, a3, a4, .inr ⟨s.heap.objs.size, false, _, a1, a5, lt hz, n1, n2, Nat.ne_of_gt hSl⟩⟩ hk
  · refine wpAny_pyNext_zip_item_held D hz hT hTI h1 h2 hl1 hl2 hx hy fun h' a1 a3 a4 a5 a6 hk => ?_
    exact hQ h' a5 ⟨hk _ _ D.TIz D.TIi1 D.TIi2 hTI, a3, a4, .inr ⟨T, true, oT, a1, hk _ _ r1 r2 r3 hT, r1, r2, r3, r4⟩⟩ fun c o c1 _ c3 c4 e => hk c o c1 c3 c4 e
theorem zl_end {xs ys : Array Value} {Q : Option Value → Shared → Prop} (hh : A.handled = none) (D : ZipApart z TI TO i1 i2 a b) (st : ZSt z TI TO i1 i2 a b S i s.heap)
    (hl1 : s.heap.IsList a xs) (hl2 : s.heap.IsList b ys) (hend : xs[i]? = none ∨ ys[i]? = none)
    (hQ : ∀ h', (∀ c o, c ≠ z → c ≠ TO → c ≠ i1 → c ≠ i2 → s.heap.get? c = some o → h'.get? c = some o) → Q none { s with heap := h' }) :
    wpAny (model prog w) A (pyNext (.ref z)) Q E s := by
  obtain ⟨hTI, h1, h2, hz⟩ := st
  rcases hz with ⟨hz, x0, y0, hTO⟩ | ⟨T, f, oT, hz, hT, r1, r2, r3, r4⟩
  · exact wpAny_pyNext_zip_end hh D hz hTI hTO h1 h2 hl1 hl2 hend hQ
  · exact wpAny_pyNext_zip_end_held hh D hz hT hTI h1 h2 hl1 hl2 hend fun h' hk => hQ h' fun c o c1 _ c3 c4 e => hk c o c1 c3 c4 e
end
theorem sqL_same {K : PySem.W.Frag} {H H' : Hp} {a : Addr} {xs : List V} (h : SqL K H a xs) (e : Same H H') : SqL K H' a xs :=
  h.elim (fun h => .inl (h.elim (fun h => .inl (e _ _ h)) fun ⟨o, h⟩ => .inr ⟨o, e _ _ h⟩)) fun h => .inr h
/-- the pairs of two lists -/
def PairsAt (H : Hp) (Ts : List Addr) (xs ys : List V) : Prop := ∀ (i : Nat) (T : Addr) (x y : V), Ts[i]? = some T → xs[i]? = some x → ys[i]? = some y → H T = some (.tup [x, y])
theorem zl_loop {X : Cx} {pins : List (Addr × Obj)} {σ : L2.St} {A : Around} {R : Result → Shared → Prop} {z TI TO i1 i2 a b S : Addr} {H1 : Hp} {xs ys : List V} {res : Value} {n : Nat}
    (hh : A.handled = none) (D : ZipApart z TI TO i1 i2 a b) (hS : ∀ c ∈ [z, TI, TO, i1, i2], c < S) (hx : SqL X.K H1 a xs) (hy : SqL X.K H1 b ys) (S0 : H1 S = none) (hn : n = min xs.length ys.length)
    (hR : ∀ s' H' Ts, Inv X pins σ H' s' → Same H1 H' → H' S = some (.lst (Ts.map V.ref)) → Ts.length = n → PairsAt H' Ts xs ys → R (.ok (.ret res)) s') :
    ∀ (k i : Nat) (s : Shared) (H : Hp) (Ts : List Addr), n - i = k → i ≤ n → Inv X pins σ H s → (∀ c ∈ [z, TI, TO, i1, i2], FpOk X pins H c) → ZSt z TI TO i1 i2 a b S i s.heap → Same H1 H → H S = some (.lst (Ts.map V.ref)) → Ts.length = i → PairsAt H Ts xs ys →
      codeAny (model X.prog X.w) A (.builtin "list.extend.loop" ⟨[.ref S, .ref z, res], []⟩) R s := by
  have chg : ∀ {h h' : Heap}, (∀ c o, c ≠ z → c ≠ TO → c ≠ i1 → c ≠ i2 → h.get? c = some o → h'.get? c = some o) → ∀ c o, c ∉ [z, TI, TO, i1, i2] → h.get? c = some o → h'.get? c = some o :=
    fun k c o hc e => k c o (fun q => hc (by simp [q])) (fun q => hc (by simp [q])) (fun q => hc (by simp [q])) (fun q => hc (by simp [q])) e
  intro k
  induction k with
  | zero =>
    intro i s H Ts hk hi I fp st sm hSH hl pr
    have e : i = n := by omega
    obtain ⟨its, rv, p1, _⟩ := I.list (sqL_same hx sm)
    obtain ⟨its2, rv2, p2, _⟩ := I.list (sqL_same hy sm)
    have l1 := rv.length
    have l2 := rv2.length
    refine codeAny_builtin F.entry_extend_loop ?_
    rw [Around.under_plainId F.plain_extend_loop _]
    show wpAny _ A.in1 (pyNext (.ref z) >>= _) _ _ s
    have hend : its.toArray[i]? = none ∨ its2.toArray[i]? = none := by
      by_cases c : xs.length ≤ i
      · exact .inl (by simp; omega)
      · exact .inr (by simp; omega)
    refine wpAny_bind (zl_end (S := S) hh D st p1.isList p2.isList hend fun h' hk' => ?_)
    exact wpAny_pure (hR _ H Ts (I.turnedL (t' := s.toks) (ch := [z, TI, TO, i1, i2]) (chg hk') fp) sm hSH (hl.trans e) pr)
  | succ k ih =>
    intro i s H Ts hk hi I fp st sm hSH hl pr
    have lt : i < n := by omega
    obtain ⟨its, rv, p1, z1⟩ := I.list (sqL_same hx sm)
    obtain ⟨its2, rv2, p2, _⟩ := I.list (sqL_same hy sm)
    have ex : xs[i]? = some xs[i] := List.getElem?_eq_getElem (by omega)
    have ey : ys[i]? = some ys[i] := List.getElem?_eq_getElem (by omega)
    obtain ⟨u, hu, ru⟩ := rv.get ex
    obtain ⟨u2, hu2, ru2⟩ := rv2.get ey
    obtain ⟨_, itS, nS, _, _, eS⟩ := I.lstM hSH
    refine codeAny_builtin F.entry_extend_loop ?_
    rw [Around.under_plainId F.plain_extend_loop _]
    show wpAny _ A.in1 (pyNext (.ref z) >>= _) _ _ s
    refine wpAny_bind (zl_item D st (Heap.lt_size eS) p1.isList p2.isList (x := u) (y := u2) (by simpa using hu) (by simpa using hu2) fun h' hT st' hk' => ?_)
    have fr : H s.heap.objs.size = none := I.hok.fresh (Nat.le_refl _)
    have new : ObjOk X.prog X.w (upd H s.heap.objs.size (.tup [xs[i], ys[i]])) h' s.heap.objs.size (.tup [xs[i], ys[i]]) :=
      ⟨by show 2 ≤ sizeLine; decide, [u, u2], .cons ru (.cons ru2 .nil), ⟨_, hT, rfl, _, rfl⟩⟩
    have I1 : Inv X pins σ (upd H s.heap.objs.size (.tup [xs[i], ys[i]])) { s with heap := h' } :=
      I.turnedNew (t' := s.toks) (ch := [z, TI, TO, i1, i2]) (chg hk') fp (Nat.le_refl _) new
    have eT : S ≠ s.heap.objs.size := Nat.ne_of_lt (Heap.lt_size eS)
    have sT : Same H (upd H s.heap.objs.size (.tup [xs[i], ys[i]])) := same_upd fr
    have upT : (upd H s.heap.objs.size (.tup [xs[i], ys[i]])) s.heap.objs.size = some (.tup [xs[i], ys[i]]) := upd_same
    have hlt : ∀ c ∈ [z, TI, TO, i1, i2], c ≠ s.heap.objs.size := fun c hc => Nat.ne_of_lt (Nat.lt_trans (hS c hc) (Heap.lt_size eS))
    have fp1 : ∀ c ∈ [z, TI, TO, i1, i2], FpOk X pins (upd H s.heap.objs.size (.tup [xs[i], ys[i]])) c := fun c hc => ⟨by rw [upd_ne (hlt c hc)]; exact (fp c hc).1, (fp c hc).2⟩
    have hS1 := sT _ _ hSH
    have prT : PairsAt (upd H s.heap.objs.size (.tup [xs[i], ys[i]])) (Ts ++ [s.heap.objs.size]) xs ys := by
      intro j T x y e1 e2 e3
      by_cases c : j < i
      · rw [List.getElem?_append_left (by omega)] at e1
        exact sT _ _ (pr j T x y e1 e2 e3)
      · have hj : j < (Ts ++ [s.heap.objs.size]).length := (List.getElem?_eq_some_iff.mp e1).1
        rw [List.length_append, List.length_singleton] at hj
        have ej : j = i := by omega
        subst ej
        rw [List.getElem?_append_right (by omega), hl, Nat.sub_self] at e1
        rw [ex] at e2
        rw [ey] at e3
        cases e1
        cases e2
        cases e3
        exact upT
    generalize upd H s.heap.objs.size (.tup [xs[i], ys[i]]) = H2 at *
    obtain ⟨zz, itS1, nS1, rS, lS, eS1⟩ := I1.lstM hS1
    have hlen : Ts.length = itS1.length := by rw [← lS, List.length_map]
    have hnl : n ≤ sizeLine := by omega
    show wpAny _ A.in1 (updateSeq S (·.push (.ref s.heap.objs.size)) >>= _) _ _ _
    refine wpAny_bind ?_
    refine wpAny_updateSeq eS1 rfl (wpAny_pure ⟨plainId_quiet F.plain_extend_loop _, ?_⟩) (by rw [List.size_toArray]; omega) (by show (itS1.toArray.push _).size ≤ sizeLine + 1; rw [Array.size_push, List.size_toArray]; omega)
    have hz' : (Ts.map V.ref ++ [V.ref s.heap.objs.size]).length ≤ sizeLine := by
      rw [List.length_append, List.length_map, List.length_singleton]
      omega
    have I2 := I1.lset (t' := s.toks) (f := (·.push (Value.ref s.heap.objs.size))) (its' := itS1 ++ [.ref s.heap.objs.size]) hS1 eS1 (by simp) (rS.append (.cons (show RelV (V.ref s.heap.objs.size) (Value.ref s.heap.objs.size) from rfl) .nil)) hz'
    have ne5 : ∀ c ∈ [z, TI, TO, i1, i2], c ≠ S := fun c hc => Nat.ne_of_lt (hS c hc)
    have keepS : ∀ c o, c ≠ S → h'.get? c = some o → (h'.update S (Obj.mapSeq (·.push (Value.ref s.heap.objs.size)))).get? c = some o := fun c o hc e => (Heap.get?_update_other _ _ (Ne.symm hc)).trans e
    have e2 : Ts.map V.ref ++ [V.ref s.heap.objs.size] = (Ts ++ [s.heap.objs.size]).map V.ref := by rw [List.map_append]; rfl
    rw [e2] at I2
    refine ih (i + 1) _ _ (Ts ++ [s.heap.objs.size]) (by omega) lt I2 (fun c hc => ⟨by rw [upd_ne (ne5 c hc)]; exact (fp1 c hc).1, (fp c hc).2⟩) ?_ (fun c o ec => ?_) upd_same (by rw [List.length_append, List.length_singleton, hl]) (fun j T x y e1 e2 e3 => ?_)
    · obtain ⟨q1, q2, q3, q4⟩ := st'
      refine ⟨keepS _ _ (ne5 _ (by simp)) q1, q2.at fun o e => keepS _ o (ne5 _ (by simp)) e, q3.at fun o e => keepS _ o (ne5 _ (by simp)) e, ?_⟩
      rcases q4 with ⟨q4, x0, y0, q5⟩ | ⟨T, f, oT, q4, hT4, r1, r2, r3, r4⟩
      · exact .inl ⟨keepS _ _ (ne5 _ (by simp)) q4, x0, y0, keepS _ _ (ne5 _ (by simp)) q5⟩
      · exact .inr ⟨T, f, oT, keepS _ _ (ne5 _ (by simp)) q4, keepS _ _ r4 hT4, r1, r2, r3, r4⟩
    · rw [upd_ne (ne_of_none ec S0)]
      exact sT _ _ (sm _ _ ec)
    · have q := prT j T x y e1 e2 e3
      rw [upd_ne (ne_of q hS1 (by intro y; cases y))]
      exact q
theorem five_below {n c m : Nat} (e : c = n + 4 ∨ c = n + 2 ∨ c = n + 3 ∨ c = n ∨ c = n + 1) (h : m = n + 5) : n ≤ c ∧ c < m := by omega
/-- list(zip(a, b)) -/
def rListZip (K : PySem.W.Frag) : List V → Hp → VK → Prop := fun vs H1 Q => ∃ (a b : Addr) (xs ys : List V), vs = [.ref a, .ref b] ∧ SqL K H1 a xs ∧ SqL K H1 b ys ∧
  ∀ (l : Addr) (Ts : List Addr) (H2 : Hp), Same H1 H2 → H1 l = none → H2 l = some (.lst (Ts.map V.ref)) → Ts.length = min xs.length ys.length → PairsAt H2 Ts xs ys → Q (.ref l) H2
def tListZip (K : PySem.W.Frag) (ta : TA) : TE := fun σ H Q => ta σ H fun vs H1 => rListZip K vs H1 Q
theorem pe_listZip {X : Cx} {e e2 : Expr} {ta : TA} {p p2 pos pos2 : Pos} (hg : Gl X "list") (hm : X.mg "list" = none) (hg2 : Gl X "zip") (hm2 : X.mg "zip" = none) (ha : PA X [e, e2] ta) (hc : X.calm = true := by rfl)
    (hs : starEach [e, e2] X.env = (false, eval e X.env) :: starEach [e2] X.env := by rfl) (hpl : (backTo pos2 (starEach [e2] X.env)).any (·.1) = false := by rfl) :
    PE X (.Call (.Name "list" p) [.Call (.Name "zip" p2) [e, e2] [] pos2] [] pos) (tListZip X.K ta) := by
  refine ⟨fun pins s σ H Q I h => ?_⟩
  refine Call_ (ld_blt I hg hm PyProof.Rows.boot_list ?_)
  refine PyProof.Rows.callWith_type1 (PyProof.Rows.args_cons ?_ rfl) rfl rfl
  refine Call_ (ld_blt I hg2 hm2 PyProof.Rows.boot_zip (PyProof.Rows.callWith_type1 (thn (ha.run pos2 pins s σ H _ I h) fun us s1 ⟨vs, H1, I1, r1, q1⟩ => ?_) hs hpl))
  obtain ⟨a, b, xs, ys, ex, hqx, hqy, q⟩ := q1
  subst ex
  cases r1 with
  | cons r rr =>
    cases rr with
    | cons r' rr =>
      cases rr
      cases r
      cases r'
      obtain ⟨its, rv, p1, z1⟩ := I1.list hqx
      obtain ⟨its2, rv2, p2, z2⟩ := I1.list hqy
      refine call_zip_2 p1.isList p2.isList fun h' hz hTI hTO h1 h2 hsz hk => ?_
      refine PyProof.Rows.args_nil ?_
      have I2 : Inv X pins σ H1 { s1 with heap := h' } := I1.kept (t' := s1.toks) hk
      generalize es2 : ({ s1 with heap := h' } : Shared) = s2 at I2
      have eh2 : s2.heap = h' := by rw [← es2]
      have eo : s2.heap.objs.size = s1.heap.objs.size + 5 := by rw [eh2, hsz]
      have D := PySem.W.ktu_apart s1.heap.objs.size a b p1.lt p2.lt
      have fresh5 : ∀ c, c ∈ [s1.heap.objs.size + 4, s1.heap.objs.size + 2, s1.heap.objs.size + 3, s1.heap.objs.size, s1.heap.objs.size + 1] → s1.heap.objs.size ≤ c ∧ c < s2.heap.objs.size := fun c hcm => by
        have e' : c = s1.heap.objs.size + 4 ∨ c = s1.heap.objs.size + 2 ∨ c = s1.heap.objs.size + 3 ∨ c = s1.heap.objs.size ∨ c = s1.heap.objs.size + 1 := by simpa using hcm
        exact five_below e' eo
      have hz2 : IsZip s2.heap (s1.heap.objs.size + 4) (s1.heap.objs.size + 2) (s1.heap.objs.size + 3) .none := by rw [eh2]; exact hz
      have st0 : ZSt (s1.heap.objs.size + 4) (s1.heap.objs.size + 2) (s1.heap.objs.size + 3) s1.heap.objs.size (s1.heap.objs.size + 1) a b s2.heap.objs.size 0 s2.heap := by
        rw [eh2]
        exact ⟨hTI, h1, h2, .inl ⟨hz, _, _, hTO⟩⟩
      have fp0 : ∀ c ∈ [s1.heap.objs.size + 4, s1.heap.objs.size + 2, s1.heap.objs.size + 3, s1.heap.objs.size, s1.heap.objs.size + 1], FpOk X pins (upd H1 s2.heap.objs.size (.lst [])) c := fun c hcm => by
        obtain ⟨f1, f2⟩ := fresh5 c hcm
        exact I1.fpOk f1 (by rw [upd_ne (Nat.ne_of_lt f2)]; exact I1.hok.fresh f1)
      have ltS : ∀ c ∈ [s1.heap.objs.size + 4, s1.heap.objs.size + 2, s1.heap.objs.size + 3, s1.heap.objs.size, s1.heap.objs.size + 1], c < s2.heap.objs.size := fun c hcm => (fresh5 c hcm).2
      have fr2 : H1 s2.heap.objs.size = none := I2.hok.fresh (Nat.le_refl _)
      clear eo hsz hk fresh5 I1 es2 eh2 hz hTI hTO h1 h2 p1 p2 rv rv2
      generalize s1.heap.objs.size + 4 = z at *
      generalize s1.heap.objs.size + 3 = TO at *
      generalize s1.heap.objs.size + 2 = TI at *
      generalize s1.heap.objs.size + 1 = i2 at *
      generalize s1.heap.objs.size = i1 at *
      have zS : s2.heap.objs.size ≠ z := Nat.ne_of_gt (ltS z (by simp))
      refine callType_codes (Q₁ := fun obj s₁ => obj = .ref s2.heap.objs.size ∧ s₁ = { s2 with heap := s2.heap.push { cls := .type "list", data := .seq #[] } }) F.called_list (F.typeCall_list_1 _) F.entry_list_init
        (code_list_new _ ⟨rfl, rfl⟩) fun obj s₁ h₁ => ?_
      obtain ⟨rfl, rfl⟩ := h₁
      have hS : (s2.heap.push { cls := .type "list", data := .seq #[] }).get? s2.heap.objs.size = some { cls := .type "list", data := .seq #[] } := Heap.get?_push_size _ rfl
      refine ⟨⟨_, hS, rfl⟩, F.args_list_init_2 _ _, ?_⟩
      show wpAny _ X.A.in1.in1 (do let old ← Builtin.List.listItems (.ref s2.heap.objs.size); Builtin.List.listUpdate (.ref s2.heap.objs.size) (fun _ => #[]); letGo old.toList.reverse; Builtin.List.listExtendWith (.ref s2.heap.objs.size) (.ref z) .none) _ _ _
      refine wpAny_bind ?_
      unfold Builtin.List.listItems
      refine wpAny_bind (wpAny_seqItems hS rfl (wpAny_pure ?_))
      show wpAny _ X.A.in1.in1 (updateSeq s2.heap.objs.size (fun _ => #[]) >>= fun _ => letGo (#[] : Array Value).toList.reverse >>= fun _ => Builtin.List.listExtendWith (.ref s2.heap.objs.size) (.ref z) .none) _ _ _
      refine wpAny_bind (wpAny_updateSeq hS rfl ?_)
      have hS2 := Heap.get?_update_self (Obj.mapSeq (fun _ => (#[] : Array Value))) hS rfl
      refine wpAny_bind (wpAny_letGo ?_)
      unfold Builtin.List.listExtendWith
      have up : ∀ (h : Heap) (f : Obj → Obj), (∀ b o, s2.heap.get? b = some o → h.get? b = some o) → ∀ b o, s2.heap.get? b = some o → (h.update s2.heap.objs.size f).get? b = some o := fun h f q b o e =>
        (Heap.get?_update_other _ _ (Ne.symm (Nat.ne_of_lt (Heap.lt_size e)))).trans (q b o e)
      have k1 : ∀ b o, s2.heap.get? b = some o → (s2.heap.push { cls := .type "list", data := .seq #[] }).get? b = some o := fun b o e => Heap.get?_push_of_some _ e
      have k2 := up _ (Obj.mapSeq (fun _ => (#[] : Array Value))) k1
      generalize (s2.heap.push { cls := .type "list", data := .seq #[] }).update s2.heap.objs.size (Obj.mapSeq (fun _ => (#[] : Array Value))) = h3 at hS2 k2 ⊢
      have hz3 : IsZip h3 z TI TO .none := k2 _ _ hz2
      have gty : (({ s2 with heap := h3 } : Shared)).TypeIs (.ref z) "zip" := ⟨_, hz3, rfl⟩
      refine wpAny_bind (wpAny_typeOf gty ?_)
      have g1 : Builtin.List.listSameRef (.ref s2.heap.objs.size) (.ref z) = false := by simp [Builtin.List.listSameRef, zS]
      have g2 : (Value.type "zip" == Value.type "list") = false := by decide
      have g3 : (Value.type "zip" == Value.type "tuple") = false := by decide
      simp only [g1, g2, g3, Bool.or_false, Bool.false_eq_true, if_false]
      refine wpAny_bind (wpAny_pyIter_zip (s := { s2 with heap := h3 }) hz3 ?_)
      refine wpAny_bind (wpAny_holding ?_)
      unfold Builtin.List.listLengthHint
      refine wpAny_bind (wpAny_specialOf gty zip_no_len ?_)
      show wpAny _ X.A.in1.in1 (specialOf (Value.ref z) (Str.ofString "__length_hint__") >>= _) _ _ _
      refine wpAny_bind (wpAny_specialOf gty zip_no_hint ?_)
      refine wpAny_pure ?_
      show wpAny _ X.A.in1.in1 (rule "list.extend.makes-room" >>= fun _ => Builtin.List.listTouch (.ref s2.heap.objs.size) >>= fun _ =>
        again (.builtin "list.extend.loop" ⟨[.ref s2.heap.objs.size, .ref z, .none], []⟩)) _ _ _
      refine wpAny_bind (wpAny_rule ?_)
      refine wpAny_bind ?_
      show wpAny _ X.A.in1.in1 (updateSeq s2.heap.objs.size (·.push .none) >>= fun _ => updateSeq s2.heap.objs.size (·.pop)) _ _ _
      refine wpAny_bind (wpAny_updateSeq hS2 rfl ?_)
      have hS3 := Heap.get?_update_self (Obj.mapSeq (·.push Value.none)) hS2 rfl
      refine wpAny_updateSeq (hz := by seq_fits) hS3 rfl ?_
      have hS4 := Heap.get?_update_self (Obj.mapSeq (·.pop)) hS3 rfl
      have k4 : ∀ b o, s2.heap.get? b = some o → ((h3.update s2.heap.objs.size (Obj.mapSeq (·.push Value.none))).update s2.heap.objs.size (Obj.mapSeq (·.pop))).get? b = some o := up _ _ (up _ _ k2)
      generalize (h3.update s2.heap.objs.size (Obj.mapSeq (·.push Value.none))).update s2.heap.objs.size (Obj.mapSeq (·.pop)) = h4 at hS4 k4 ⊢
      have I4 : Inv X pins σ (upd H1 s2.heap.objs.size (.lst [])) { s2 with heap := h4, toks := s2.toks } := I2.laid (t' := s2.toks) k4 (Nat.le_refl _) (show ObjOk X.prog X.w _ h4 _ (.lst []) from ⟨Nat.zero_le _, [], _, .nil, hS4⟩)
      refine wpAny_pure ⟨plainId_quiet F.plain_extend_loop _, zl_loop (X := X) (pins := pins) (σ := σ) (H1 := H1) (A := X.A.in1) (show X.A.in1.handled = none from I2.ok.hd hc) D ltS hqx hqy fr2 rfl (fun s' H' Ts J sm hSH hl pr => ?_) (min xs.length ys.length) 0 _ _ [] (Nat.sub_zero _) (Nat.zero_le _) I4 fp0 ?_ (same_upd fr2) upd_same rfl (fun j T x y e => by cases e)⟩
      · exact ⟨rfl, .ref s2.heap.objs.size, H', J, rfl, q _ Ts H' sm fr2 hSH hl pr⟩
      · obtain ⟨q1, q2, q3, q4⟩ := st0
        refine ⟨k4 _ _ q1, q2.at fun o e => k4 _ o e, q3.at fun o e => k4 _ o e, ?_⟩
        rcases q4 with ⟨q4, x0, y0, q5⟩ | ⟨T, f, oT, q4, hT4, r1, r2, r3, r4⟩
        · exact .inl ⟨k4 _ _ q4, x0, y0, k4 _ _ q5⟩
        · exact .inr ⟨T, f, oT, k4 _ _ q4, k4 _ _ hT4, r1, r2, r3, r4⟩
end Su
/-! ### SO1: a set of ints by a comprehension with one clause -/
namespace Su
open PySem PySem.Spec PyProof.Rows L2
abbrev sc1 (e a b : Expr) (sp : Scope) (po : Pos) : Expr := .SetComp e [⟨a, b, [], 0⟩] sp po
section
variable {prog : Program} {w : World} {A : Around} {R : Result → Shared → Prop} {s : Shared} {e a b : Expr} {sp : Scope} {po : Pos} {it acc : Value} {env : Env}
theorem sc1_in : compTurn (sc1 e a b sp po) 0 it acc env = (do
      standAt b.pos
      match ← pyNext it with
      | none => pure (.done .next)
      | some v =>
        letOwnedTupleGo a it v
        assign a env v
        (do let x ← eval e env; standAt e.pos; let _ ← call (.builtin "set.add") [acc, x])
        again (.compLoop (sc1 e a b sp po) 0 it acc env)) := by rfl
theorem sc1_loop (J : Nat → Shared → Prop)
    (one : ∀ n u, J n u → wpAny (model prog w) A (pyNext it) (fun r u1 => match r with
      | none => R (.ok .next) u1
      | some v => wpAny (model prog w) A (letOwnedTupleGo a it v) (fun _ u2 => wpAny (model prog w) A (assign a env v) (fun _ u3 =>
          wpAny (model prog w) A (eval e env) (fun x u4 => wpAny (model prog w) A (call (.builtin "set.add") [acc, x]) (fun _ u5 => ∃ m, m < n ∧ J m u5) (nb prog w A env R) u4) (nb prog w A env R) u3)
            (nb prog w A env R) u2) (nb prog w A env R) u1) (nb prog w A env R) u)
    (n : Nat) (h : J n s) : codeAny (model prog w) A (.compLoop (sc1 e a b sp po) 0 it acc env) R s := by
  refine codeAny_loop rfl J (fun n u hJ => ?_) n h
  show wpAny _ A ((compTurn (sc1 e a b sp po) 0 it acc env).onRaise (fun x => do noteFrame x env; theTreesLotGoes x)) _ _ u
  refine wpAny_noted ?_
  rw [sc1_in]
  refine wpAny_bind (wpAny_standAt (wpAny_bind (wpAny_mono (one n u hJ) (fun r u1 h1 => ?_) fun _ _ k => k)))
  cases r with
  | none => exact wpAny_pure h1
  | some v =>
    refine wpAny_bind (wpAny_mono h1 (fun _ u2 h2 => wpAny_bind (wpAny_mono h2 (fun _ u3 h3 => ?_) fun _ _ k => k)) fun _ _ k => k)
    refine wpAny_bind (wpAny_bind (wpAny_mono h3 (fun x u4 h4 => wpAny_bind (wpAny_standAt (wpAny_bind (wpAny_mono h4 (fun _ u5 h5 => ?_) fun _ _ k => k)))) fun _ _ k => k))
    first
      | exact wpAny_pure (wpAny_pure ⟨rfl, h5⟩)
      | exact wpAny_pure ⟨rfl, h5⟩
end
section
variable {X : Cx}
/-- what the comprehension asks: in each turn of the walk an int is put into the set -/
def tSC1 (w : World) (wo : TI) (go : TG) (te : TE) (vs : List Nat) : TE := fun σ H Q => wo σ H fun J H1 => ∀ D, H1 D = none →
  ∃ W : Nat → Nat → Hp → Prop, (∃ m, W 0 m (upd H1 D (SetO w D (fun _ => false) 0))) ∧ ∀ i m H, W i m H →
    (J.stop i H ∧ Q (.ref D) H) ∨
    (J.go i H ∧ ∃ Nx : Hp → Prop, (∀ H', Nx H' → ∃ m', m' < m ∧ W (i + 1) m' H') ∧ ∀ x H', J.yld i H x H' → go x (wipe σ vs) H' fun σ2 H2 => wipe σ2 vs = wipe σ vs ∧
      te σ2 H2 fun z H5 => ∃ (c : Int) (S : Int → Bool) (n : Nat), z = .int c ∧ H5 D = some (SetO w D S n) ∧ n + 1 < scanBound ∧
        Nx (upd H5 D (SetO w D (fun j => S j || decide (j = c)) (if S c = true then n else n + 1))))
theorem pe_sc1 {e a b : Expr} {sp : Scope} {own : List (Str × Nat)} {pos : Pos} {wo : TI} {go : TG} {te : TE} (hc : X.calm = true) (hN : X.N.Nodup) (pio : PI X a b wo)
    (ok : BlkOk X.N X.env.scope sp own)
    (pgo : ∀ (s : Shared) (H : Hp) (C : Addr) (cl : List (Str × Addr)) (fp : List Addr), PG (X.blk s H sp (compEnvC sp cl C X.env) fp) a go)
    (pe : ∀ (s : Shared) (H : Hp) (C : Addr) (cl : List (Str × Addr)) (fp : List Addr), PE (X.blk s H sp (compEnvC sp cl C X.env) fp) e te)
    (fo : ∀ x, foldedSetIterable b X.env x = pure x := by intro _; rfl) :
    PE X (sc1 e a b sp pos) (tSC1 X.w wo go te (own.map (·.2))) := by
  refine ⟨fun pins s σ H Q I hq => ?_⟩
  rw [PpSet.eval_SetComp]
  have cl0 : ∀ y ∈ sp.names, y.2 = .free → ∃ k, X.env.cells.lookup y.1 = some k := by
    intro y hy z
    rcases ok.free y hy z with k | k
    · exact I.ok.has _ (.inl k)
    · exact I.ok.has _ (.inr k)
  refine wpAny_comprehension_free (use := none) rfl fo (closure_ok cl0) ok.kind (fun y hy z => by rw [ok.uniq y hy, z]) ?_
  refine thn (pio.run pins s σ H _ I hq) fun xv s1 hx => thn hx fun iv s2 h2 => ?_
  obtain ⟨it, fa, tn, J, Hb, rfl, Ib, T, stb, fb, q⟩ := h2
  refine PpSet.newSet_ok (newEnv_comp ?_)
  generalize eD : s2.heap.objs.size = D
  obtain ⟨W, ⟨m0, w0⟩, turn⟩ := q D (Ib.hok.fresh (Nat.le_of_eq eD))
  generalize e3 : ({ s2 with heap := s2.heap.push (setE X.w) } : Shared) = s3
  have hp3 : s3.heap = s2.heap.push (setE X.w) := by rw [← e3]
  have Ic : Inv X pins σ (upd Hb D (SetO X.w D (fun _ => false) 0)) s3 := by
    rw [← e3]
    refine Ib.laid (t' := s2.toks) (fun _ _ z => Heap.get?_push_of_some _ z) (Nat.le_of_eq eD) ?_
    rw [← eD]
    exact setO_new (setR_fresh X.w)
  have small : ∀ x ∈ fa, x < s2.heap.objs.size := by
    intro x hx
    obtain ⟨o, z, _⟩ := T.obj _ _ stb x hx
    exact Heap.lt_size z
  have fc : ∀ x ∈ fa, FpOk X pins (upd Hb D (SetO X.w D (fun _ => false) 0)) x ∧ x < s3.heap.objs.size := by
    intro x hx
    have lt := small x hx
    constructor
    · refine ⟨?_, (fb x hx).2⟩
      rw [upd_ne (by rw [← eD]; exact Nat.ne_of_lt lt)]
      exact (fb x hx).1
    · rw [hp3, Heap.size_push]
      exact Nat.lt_succ_of_lt lt
  have stc : tn 0 s3.heap := T.keep _ _ _ stb fun _ _ _ z => by
    rw [hp3]
    exact Heap.get?_push_of_some _ z
  have Id := block_start Ic ok hN fc
  have qgo := pgo s3 (upd Hb D (SetO X.w D (fun _ => false) 0)) s3.heap.objs.size (cellsFrom (s3.heap.objs.size + 1) sp.names (cloFrom X.env.cells sp.names [])) fa
  have qe := pe s3 (upd Hb D (SetO X.w D (fun _ => false) 0)) s3.heap.objs.size (cellsFrom (s3.heap.objs.size + 1) sp.names (cloFrom X.env.cells sp.names [])) fa
  have nofa : ∀ x ∈ fa, (upd Hb D (SetO X.w D (fun _ => false) 0)) x = none := fun x hx => (fc x hx).1.1
  show codeAny _ _ (.compStart (sc1 e a b sp pos) 0 (.ref it) (.ref D) (compEnvC sp (cellsFrom (s3.heap.objs.size + 1) sp.names (cloFrom X.env.cells sp.names [])) s3.heap.objs.size X.env)) _ { s3 with heap := pushCells (s3.heap.push { cls := .type "dict", data := .dict #[] }) sp.names }
  generalize eE : compEnvC sp (cellsFrom (s3.heap.objs.size + 1) sp.names (cloFrom X.env.cells sp.names [])) s3.heap.objs.size X.env = en at Id qgo qe ⊢
  have locE : en.locals = s3.heap.objs.size := by
    subst eE
    rfl
  generalize eH : upd Hb D (SetO X.w D (fun _ => false) 0) = Hc at Ic Id qgo qe w0 nofa fc
  generalize e4 : ({ s3 with heap := pushCells (s3.heap.push { cls := .type "dict", data := .dict #[] }) sp.names } : Shared) = s4 at Id ⊢
  have std : tn 0 s4.heap := T.keep _ _ _ stc fun _ _ _ z => by
    rw [← e4]
    exact pushCells_keeps _ _ _ _ (Heap.get?_push_of_some _ z)
  have foot : ∀ {τ : L2.St} {G : Hp} {t : Shared}, Inv (X.blk s3 Hc sp en fa) [] τ G t → (∀ x ∈ fa, G x = none) → ∀ x ∈ fa, FpOk (X.blk s3 Hc sp en fa) [] G x := by
    intro τ G t It hn x hx
    refine ⟨hn x hx, (It.ok.exf x hx).1, It.ok.exfs x hx, .inl hx, fun y k z => (It.ok.exf x hx).2 y k z, fun p hp => ?_⟩
    exact absurd (show p ∈ ([] : List (Addr × Obj)) ++ [] from hp) (by simp)
  have main : codeAny (model X.prog X.w) X.A (.compLoop (sc1 e a b sp pos) 0 (.ref it) (.ref D) en) (compPost (model X.prog X.w) X.A X.xe none (fun u t => EP X pins σ Q u t) (.ref D) s3.heap.objs.size) s4 := by
    refine sc1_loop (fun n t => ∃ i G, Inv (X.blk s3 Hc sp en fa) [] (wipe σ (own.map (·.2))) G t ∧ tn i t.heap ∧ (∀ x ∈ fa, G x = none) ∧ W i n G) ?_ m0 ⟨0, Hc, Id, std, nofa, w0⟩
    rintro n s5 ⟨i, H5, I5, st5, n5, w5⟩
    rcases turn i n H5 w5 with ⟨stop, qq⟩ | ⟨hgo, Nx, hNx, step⟩
    · refine thnF (T.done (X.blk s3 Hc sp en fa) rfl rfl rfl hc i [] s5 _ H5 (fun _ _ => False) I5 (foot I5 n5) st5 stop) fun r s6 ⟨hr, I6⟩ => ?_
      subst hr
      have I7 : Inv X pins σ H5 s6 := by
        refine Ic.call' (ch := fa) I6.os I6.base I6.hok I6.bare fun x hx => ?_
        have z := (fc x hx).1.2
        exact ⟨z.2.2.1, z.1, z.2.2.2.1, z.2.2.2.2⟩
      have nl : H5 s3.heap.objs.size = none := by
        have z : H5 en.locals = none := I6.free
        rwa [locE] at z
      obtain ⟨m, hn, _⟩ := I6.loc
      have hn2 : s6.heap.Ns en.locals m := hn
      rw [locE] at hn2
      obtain ⟨f0, f1, f2, f3, f4, f5⟩ := Ic.fpOk (Nat.le_refl _) nl
      refine ⟨m, hn2, fun g sb => ?_⟩
      exact ⟨.ref D, H5, I7.turned (t' := s6.toks) (fun y o hy z => (sb.2 y hy).trans z) f0 f1 f3 f4 f5, rfl, qq⟩
    · refine thnF (T.item (X.blk s3 Hc sp en fa) rfl rfl rfl hc i [] s5 _ H5 (fun _ _ => False) I5 (foot I5 n5) st5 hgo) fun r s6 ⟨u, hr, h6⟩ => ?_
      subst hr
      refine thnF h6 fun _ s7 ⟨x, H7, I7, r7, y7, st7, n7⟩ => ?_
      refine thnF (qgo.run _ s7 _ H7 x u _ (I7.pinned (foot I7 n7) (T.obj _ _ st7)) r7 (step x H7 y7)) fun _ s8 ⟨σ8, H8, I8, hw8, q8⟩ => ?_
      have shut : ∀ {τ : L2.St} {t : Shared} {G : Hp}, Inv (X.blk s3 Hc sp en fa) ([] ++ pinsAt fa s7.heap) τ G t → (wipe σ (own.map (·.2))).length = τ.length →
          (∀ (j : Nat) v, (wipe σ (own.map (·.2)))[j]? = some (some v) → τ[j]? = some (some v)) → Nx G →
          ∃ m, m < n ∧ ∃ i G, Inv (X.blk s3 Hc sp en fa) [] (wipe σ (own.map (·.2))) G t ∧ tn i t.heap ∧ (∀ x ∈ fa, G x = none) ∧ W i m G := by
        intro τ t G It hl hk nx
        obtain ⟨m', lt, w'⟩ := hNx G nx
        have held : ∀ y ∈ fa, ∀ o, s7.heap.get? y = some o → t.heap.get? y = some o ∧ G y = none := by
          intro y hy o z
          have k := It.pin (y, o) (List.mem_append_right _ (List.mem_append_right _ (mem_pinsAt hy z)))
          exact ⟨k.1, k.2.1⟩
        refine ⟨m', lt, i + 1, G, (It.unpinned (pins := [])).weak hl hk, T.keep _ _ _ st7 fun y hy o z => (held y hy o z).1, fun y hy => ?_, w'⟩
        obtain ⟨o, z, _⟩ := T.obj _ _ st7 y hy
        exact (held y hy o z).2
      have len8 : (wipe σ (own.map (·.2))).length = σ8.length := by
        rw [← hw8, wipe_length]
      have keep8 : ∀ (j : Nat) v, (wipe σ (own.map (·.2)))[j]? = some (some v) → σ8[j]? = some (some v) := by
        intro j v z
        rw [← hw8] at z
        exact (wipe_some z).1
      refine thnF (qe.run _ s8 σ8 H8 _ I8 q8) fun z s15 ⟨yv, H15, I15, r15, cc, S, nn, ey, hD15, few, nx⟩ => ?_
      subst ey
      exact put_int (X := X.blk s3 Hc sp en fa) I15 hD15 few r15 fun s16 I16 => shut I16 len8 keep8 nx
  exact PpSet.codeAny_compStart_set main (T.self X.A 0 _ _ _ std main)
end
def rLenSO (w : World) : List V → Hp → VK → Prop := fun xs H Q => ∃ (a : Addr) (S : Int → Bool) (n : Nat), xs = [.ref a] ∧ H a = some (SetO w a S n) ∧ Q (.int n) H
/-- len of a set of ints -/
theorem cr_lenSO {X : Cx} : CallR X (.builtin "len") (rLenSO X.w) := by
  intro pins s σ H xs us Q I r h
  obtain ⟨a, S, n, rfl, ha, q⟩ := h
  obtain ⟨u, rfl, rx⟩ := vals1 r
  cases rx
  obtain ⟨o, es, ep, t, ho, hex, hd, _, _, _, hb, hf, hn, _⟩ := setO_get I ha
  have sb : scanBound = 4096 := rfl
  have l63 := line63
  exact call_len_set ho hex hd hf (by omega) ⟨.int n, H, I.tok _, ⟨_, by rw [hn]⟩, q⟩
/-- over a list that the comprehension leaves as it is -/
theorem sc1_list {w : World} {K : PySem.W.Frag} {a : Addr} {xs : List V} {g : TG} {te : TE} {vs : List Nat} {σ : L2.St} {H1 : Hp} {D : Addr} {Qd : Hp → Prop} (Pv : Nat → Hp → Prop) (h0 : Pv 0 (upd H1 D (SetO w D (fun _ => false) 0))) (hl : ∀ i H, i ≤ xs.length → Pv i H → SqL K H a xs)
    (hs : ∀ i x H, xs[i]? = some x → Pv i H → g x (wipe σ vs) H fun σ2 H2 => wipe σ2 vs = wipe σ vs ∧ te σ2 H2 fun z H4 => ∃ (c : Int) (S : Int → Bool) (n : Nat), z = .int c ∧ H4 D = some (SetO w D S n) ∧ n + 1 < scanBound ∧ Pv (i + 1) (upd H4 D (SetO w D (fun j => S j || decide (j = c)) (if S c = true then n else n + 1))))
    (hd : ∀ H, Pv xs.length H → Qd H) :
    ∃ W : Nat → Nat → Hp → Prop, (∃ m, W 0 m (upd H1 D (SetO w D (fun _ => false) 0))) ∧ ∀ i m H, W i m H →
      ((Itl K a).stop i H ∧ Qd H) ∨ ((Itl K a).go i H ∧ ∃ Nx : Hp → Prop, (∀ H', Nx H' → ∃ m', m' < m ∧ W (i + 1) m' H') ∧ ∀ x H', (Itl K a).yld i H x H' → g x (wipe σ vs) H' fun σ2 H2 => wipe σ2 vs = wipe σ vs ∧
        te σ2 H2 fun z H4 => ∃ (c : Int) (S : Int → Bool) (n : Nat), z = .int c ∧ H4 D = some (SetO w D S n) ∧ n + 1 < scanBound ∧ Nx (upd H4 D (SetO w D (fun j => S j || decide (j = c)) (if S c = true then n else n + 1)))) := by
  refine ⟨fun i m H => m = xs.length - i ∧ i ≤ xs.length ∧ Pv i H, ⟨xs.length, rfl, Nat.zero_le _, h0⟩, ?_⟩
  rintro i m H ⟨rfl, hi, p⟩
  have q := hl i H hi p
  by_cases c : i < xs.length
  · refine .inr ⟨⟨xs, xs[i], q, List.getElem?_eq_getElem c⟩, Pv (i + 1), fun H' p' => ⟨xs.length - (i + 1), by omega, rfl, c, p'⟩, fun x H' y => ?_⟩
    obtain ⟨rfl, y⟩ := y
    exact hs i x _ (y xs q) p
  · obtain rfl : i = xs.length := by omega
    exact .inl ⟨⟨xs, q, Nat.le_refl _⟩, hd H p⟩
end Su
/-! ### DCW: dict comprehensions over a list, over enumerate of a list -/
namespace Su
open PySem PySem.Spec PyProof.Rows L2
theorem dc_list {K : PySem.W.Frag} {a : Addr} {xs : List V} {g : TG} {tk tv : TE} {vs : List Nat} {σ : L2.St} {H1 : Hp} {D : Addr} {Qd : Hp → Prop} (Pv : Nat → Hp → Prop) (h0 : Pv 0 (upd H1 D (.dK []))) (hl : ∀ i H, i ≤ xs.length → Pv i H → SqL K H a xs)
    (hs : ∀ i x H, xs[i]? = some x → Pv i H → g x (wipe σ vs) H fun σ2 H2 => wipe σ2 vs = wipe σ vs ∧ tYes σ2 H2 fun b H3 =>
      if b = true then tk σ2 H3 fun y H4 => tv σ2 H4 fun z H5 => ∃ kvs k, y = kV k ∧ H5 D = some (.dK kvs) ∧ kvs.length < sizeLine ∧ Pv (i + 1) (upd H5 D (.dK (putK kvs k z))) else Pv (i + 1) H3)
    (hd : ∀ H, Pv xs.length H → Qd H) :
    ∃ W : Nat → Nat → Hp → Prop, (∃ m, W 0 m (upd H1 D (.dK []))) ∧ ∀ i m H, W i m H →
      ((Itl K a).stop i H ∧ Qd H) ∨ ((Itl K a).go i H ∧ ∃ Nx : Hp → Prop, (∀ H', Nx H' → ∃ m', m' < m ∧ W (i + 1) m' H') ∧ ∀ x H', (Itl K a).yld i H x H' → g x (wipe σ vs) H' fun σ2 H2 => wipe σ2 vs = wipe σ vs ∧ tYes σ2 H2 fun b H3 =>
        if b = true then tk σ2 H3 fun y H4 => tv σ2 H4 fun z H5 => ∃ kvs k, y = kV k ∧ H5 D = some (.dK kvs) ∧ kvs.length < sizeLine ∧ Nx (upd H5 D (.dK (putK kvs k z))) else Nx H3) := by
  refine ⟨fun i m H => m = xs.length - i ∧ i ≤ xs.length ∧ Pv i H, ⟨xs.length, rfl, Nat.zero_le _, h0⟩, ?_⟩
  rintro i m H ⟨rfl, hi, p⟩
  have q := hl i H hi p
  by_cases c : i < xs.length
  · refine .inr ⟨⟨xs, xs[i], q, List.getElem?_eq_getElem c⟩, Pv (i + 1), fun H' p' => ⟨xs.length - (i + 1), by omega, rfl, c, p'⟩, fun x H' y => ?_⟩
    obtain ⟨rfl, y⟩ := y
    exact hs i x _ (y xs q) p
  · obtain rfl : i = xs.length := by omega
    exact .inl ⟨⟨xs, q, Nat.le_refl _⟩, hd H p⟩
theorem dc_enum {K : PySem.W.Frag} {a : Addr} {xs : List V} {g : TG} {tk tv : TE} {vs : List Nat} {σ : L2.St} {H1 : Hp} {D : Addr} {Qd : Hp → Prop} (Pv : Nat → Hp → Prop) (h0 : Pv 0 (upd H1 D (.dK []))) (hl : ∀ i H, i ≤ xs.length → Pv i H → SqL K H a xs)
    (hs : ∀ i x T H, xs[i]? = some x → Pv i H → H T = none → g (.ref T) (wipe σ vs) (upd H T (.tup [.int (i : Nat), x])) fun σ2 H2 => wipe σ2 vs = wipe σ vs ∧ tYes σ2 H2 fun b H3 =>
      if b = true then tk σ2 H3 fun y H4 => tv σ2 H4 fun z H5 => ∃ kvs k, y = kV k ∧ H5 D = some (.dK kvs) ∧ kvs.length < sizeLine ∧ Pv (i + 1) (upd H5 D (.dK (putK kvs k z))) else Pv (i + 1) H3)
    (hd : ∀ H, Pv xs.length H → Qd H) :
    ∃ W : Nat → Nat → Hp → Prop, (∃ m, W 0 m (upd H1 D (.dK []))) ∧ ∀ i m H, W i m H →
      ((Ite K a).stop i H ∧ Qd H) ∨ ((Ite K a).go i H ∧ ∃ Nx : Hp → Prop, (∀ H', Nx H' → ∃ m', m' < m ∧ W (i + 1) m' H') ∧ ∀ x H', (Ite K a).yld i H x H' → g x (wipe σ vs) H' fun σ2 H2 => wipe σ2 vs = wipe σ vs ∧ tYes σ2 H2 fun b H3 =>
        if b = true then tk σ2 H3 fun y H4 => tv σ2 H4 fun z H5 => ∃ kvs k, y = kV k ∧ H5 D = some (.dK kvs) ∧ kvs.length < sizeLine ∧ Nx (upd H5 D (.dK (putK kvs k z))) else Nx H3) := by
  refine ⟨fun i m H => m = xs.length - i ∧ i ≤ xs.length ∧ Pv i H, ⟨xs.length, rfl, Nat.zero_le _, h0⟩, ?_⟩
  rintro i m H ⟨rfl, hi, p⟩
  have q := hl i H hi p
  by_cases c : i < xs.length
  · refine .inr ⟨⟨xs, xs[i], q, List.getElem?_eq_getElem c⟩, Pv (i + 1), fun H' p' => ⟨xs.length - (i + 1), by omega, rfl, c, p'⟩, fun x H' y => ?_⟩
    obtain ⟨T, x', rfl, nT, rfl, y⟩ := y
    exact hs i x' T H (y xs q) p nT
  · obtain rfl : i = xs.length := by omega
    exact .inl ⟨⟨xs, q, Nat.le_refl _⟩, hd H p⟩
end Su
/-! ### DU: len, str and repr of an instance, by its own methods -/
namespace Su
open PySem PySem.Spec PyProof.Rows L2
/-- a special method of the class at C -/
structure MetD (P : Program) (w : World) (K : PySem.W.Frag) (mg : Str → Option Value) (base : Heap) (k : Nat) (C : Addr) (m : Str) (sp : Sp) : Prop where
  ex : ∃ (f : Addr) (fd : FuncData), PySem.W.findIn K (.ref C) m = some (some (.ref f)) ∧ PySem.W.isFn K (.ref f) = true ∧ FnG P w K mg base CX0 k f fd ["self"] sp ∧ Binds K fd ["self"] []
section
variable {X : Cx} {k j : Nat} {f C : Addr} {fd : FuncData} {ps : List Str} {sp : Sp}
theorem run_fnG {A : Around} {pins : List (Addr × Obj)} {σ : L2.St} {H : Hp} {s : Shared} {Q : VK} {us : List Value} {vs : List V} (sb : Sub X k A) (hg : A.guards = some []) (F : FnG X.prog X.w X.K X.mg X.base CX0 k f fd ps sp) (hb : Binds X.K fd ps [])
    (I : Inv X pins σ H s) (r : Vals vs us) (h : sp vs H Q E0) : wpAny (model X.prog X.w) A (call (.ref f) us) (EP X pins σ Q) X.xe s := by
  have e0 : Env0 X.prog X.w X.K X.mg X.base A X.stack s H := by
    have e := I.env0
    exact ⟨by rw [sb.fr]; exact e.frames, e.mod, e.bs, e.bsz, e.funs, e.frf, e.hok, e.bare⟩
  have hl : us.length = ps.length := by rw [← r.length]; exact F.len _ _ _ _ h
  refine wpAny_call (codeAny_mono (F.run A X.stack s H ⟨us, []⟩ us vs Q E0 hg sb.room e0 (by
    have := hb s us I.kIn (by simpa using hl)
    simpa using this) r h) fun r s' hq => ?_)
  cases r with
  | error e => exact False.elim hq
  | ok fl =>
    cases fl with
    | ret u => exact I.after hq
    | next => exact False.elim hq
    | brk => exact False.elim hq
    | cont => exact False.elim hq
def rLenI (C : Addr) (sp : Sp) : List V → Hp → VK → Prop := fun xs H Q => ∃ (a dx : Addr) (fs : List (Str × V)), xs = [.ref a] ∧ H a = some (.ins C dx fs) ∧ sp [.ref a] H (fun v H' => ∃ n : Int, v = .int n ∧ (0 ≤ n ∧ n < 2 ^ 63) ∧ Q (.int n) H') E0
theorem call_lenI (M : MetD X.prog X.w X.K X.mg X.base k C "__len__" sp) (hg : X.A.guards = some []) (hr : Room j X.A) (hk : k + 1 ≤ j) : CallR X (.builtin "len") (rLenI C sp) := by
  intro pins s σ H xs us Q I r h
  obtain ⟨a, dx, fs, rfl, ea, hsp⟩ := h
  obtain ⟨f, fd, hs, hf, F, hb⟩ := M.ex
  rw [Vals.ref1 r]
  obtain ⟨mA, J, _⟩ := ins_get I.hok ea
  obtain ⟨od, J, _⟩ := J.look
  obtain ⟨m, hF⟩ := I.fr
  have sb : Sub X (k + 1) X.A := ⟨hr.mono hk, rfl⟩
  refine PySem.W.len_K hF I.ok.mod.kin J hs hf ?_
  refine wpAny_mono (run_fnG sb.in1 hg F hb I (vs := [.ref a]) (.cons rfl .nil) hsp) (fun u s' z => ?_) (fun _ _ z => z)
  obtain ⟨v, H', I', rv, n, rfl, h01, q⟩ := z
  obtain ⟨t, rfl⟩ := rv
  exact ⟨h01, .int n, H', I'.tok _, ⟨_, rfl⟩, q⟩
def rTxtI (C : Addr) (sp : Sp) : List V → Hp → VK → Prop := fun xs H Q => ∃ (a dx : Addr) (fs : List (Str × V)), xs = [.ref a] ∧ H a = some (.ins C dx fs) ∧ sp [.ref a] H (fun v H' => ∃ x : Str, v = .str x ∧ Q (.str x) H') E0
theorem call_strI (M : MetD X.prog X.w X.K X.mg X.base k C "__str__" sp) (hg : X.A.guards = some []) (hr : Room j X.A) (hk : k + 2 ≤ j) : CallR X (.type "str") (rTxtI C sp) := by
  intro pins s σ H xs us Q I r h
  obtain ⟨a, dx, fs, rfl, ea, hsp⟩ := h
  obtain ⟨f, fd, hs, hf, F, hb⟩ := M.ex
  rw [Vals.ref1 r]
  obtain ⟨mA, J, _⟩ := ins_get I.hok ea
  obtain ⟨od, J, _⟩ := J.look
  have sb : Sub X (k + 2) X.A := ⟨hr.mono hk, rfl⟩
  refine PySem.W.kso_call sb.in1.in1.room.units0 I.kIn J hs hf ?_
  refine wpAny_mono (run_fnG sb.in1.in1 hg F hb I (vs := [.ref a]) (.cons rfl .nil) hsp) (fun u s' z => ?_) (fun _ _ z => z)
  obtain ⟨v, H', I', rv, x, rfl, q⟩ := z
  obtain ⟨t, rfl⟩ := rv
  exact ⟨.str x, H', I', ⟨_, rfl⟩, q⟩
theorem call_reprI (M : MetD X.prog X.w X.K X.mg X.base k C "__repr__" sp) (hg : X.A.guards = some []) (hr : Room j X.A) (hk : k + 1 ≤ j) : CallR X (.builtin "repr") (rTxtI C sp) := by
  intro pins s σ H xs us Q I r h
  obtain ⟨a, dx, fs, rfl, ea, hsp⟩ := h
  obtain ⟨f, fd, hs, hf, F, hb⟩ := M.ex
  rw [Vals.ref1 r]
  obtain ⟨mA, J, _⟩ := ins_get I.hok ea
  obtain ⟨od, J, _⟩ := J.look
  obtain ⟨m, hF⟩ := I.fr
  have sb : Sub X (k + 1) X.A := ⟨hr.mono hk, rfl⟩
  refine PySem.W.repr_K sb.in1.room.units0 hF I.ok.mod.kin J hs hf ?_
  refine wpAny_mono (run_fnG sb.in1 hg F hb I (vs := [.ref a]) (.cons rfl .nil) hsp) (fun u s' z => ?_) (fun _ _ z => z)
  obtain ⟨v, H', I', rv, x, rfl, q⟩ := z
  obtain ⟨t, rfl⟩ := rv
  exact ⟨.str x, H', I', ⟨_, rfl⟩, q⟩
end
section
open Builtin
variable {prog : Program} {w : World} {A : Around} {E : Value → Shared → Prop} {s : Shared} {K : PySem.W.Frag} {x C f : Addr} {ox : Obj} {od : Option Obj}
def LenTru (Q : Bool → Shared → Prop) (v : Value) (s' : Shared) : Prop := match v with
  | .int n _ => (0 ≤ n ∧ n < 2 ^ 63) ∧ Q (n != 0) { s' with toks := s'.toks + 1 }
  | _ => False
theorem truthy_len {Q : Bool → Shared → Prop} (X : K.In s.heap) (I : PySem.W.InstAt s.heap x ox C od) (hb : PySem.W.findIn K (.ref C) "__bool__" = some none) (hl : PySem.W.findIn K (.ref C) "__len__" = some (some (.ref f))) (hf : PySem.W.isFn K (.ref f) = true)
    (h : wpAny (model prog w) A.in1 (call (.ref f) [.ref x]) (LenTru Q) E s) : wpAny (model prog w) A (truthy (.ref x)) Q E s := by
  unfold truthy
  refine wpAny_bind (m := callSpecial? (.ref x) (Str.ofString "__bool__")) (wpAny_bind (wpAny_bind (I.type.here ((PySem.W.looks_findIn X hb).here (wpAny_pure ?_)))))
  refine wpAny_bind (wpAny_bind (I.type.here ((PySem.W.looks_findIn X hl).here ?_)))
  show wpAny _ _ (if (some (Value.ref f)).isNone = true then _ else _) _ _ _
  rw [if_neg (by simp)]
  refine wpAny_bind (wpAny_runValue (codeAny_builtin PySem.entry_len ?_))
  rw [Around.under_plainId (by decide +kernel) _]
  unfold Builtin.«len»
  refine wpAny_bind (m := oneArg "len" _) (wpAny_pure ?_)
  refine wpAny_bind (m := callSpecial? (.ref x) (Str.ofString "__len__")) (PySem.W.special_fn X I hl (beq_iff_eq.mp hf) (wpAny_mono h (fun r s' hr => ?_) fun _ _ y => y))
  cases r <;> first | exact hr.elim | skip
  rename_i n u
  obtain ⟨⟨h0, h1⟩, hq⟩ := hr
  refine wpAny_bind (wpAny_holding (wpAny_pure ?_))
  refine wpAny_bind (wpAny_letGo ?_)
  show wpAny _ _ (if n < 0 then _ else _) _ _ _
  rw [if_neg (by omega)]
  show wpAny _ _ (if n ≥ 2 ^ 63 then _ else _) _ _ _
  rw [if_neg (by omega)]
  exact wpAny_bind (wpAny_mkInt (wpAny_pure (wpAny_pure hq)))
end
end Su
/-! ### DB: bool of an instance with a length -/
namespace Su
open PySem PySem.Spec PyProof.Rows L2 Builtin
section
variable {prog : Program} {w : World} {A : Around} {E : Value → Shared → Prop} {s : Shared} {K : PySem.W.Frag} {x C f : Addr} {ox : Obj} {od : Option Obj}
theorem bool_own {Q : Value → Shared → Prop} (X : K.In s.heap) (I : PySem.W.InstAt s.heap x ox C od) (hb : PySem.W.findIn K (.ref C) "__bool__" = some none) (hl : PySem.W.findIn K (.ref C) "__len__" = some (some (.ref f))) (hf : PySem.W.isFn K (.ref f) = true)
    (h : wpAny (model prog w) A.in1.in1.in1 (call (.ref f) [.ref x]) (LenTru (fun b s' => Q (.bool b) s')) E s) : wpAny (model prog w) A (call (.type "bool") [.ref x]) Q E s := by
  refine callType_codes (T := "bool") (Bi := Builtin.«object.__init__») (Q₁ := fun r s₁ => ∃ b, r = .bool b ∧ Q r s₁) PySem.F.called_bool (PySem.F.typeCall_bool_1 _) PySem.F.entry_object_init ?_ ?_
  · refine codeAny_of_tree ?_
    show wpAny _ A.in1.in1 (do checkBuiltinCall "bool.__new__" ⟨[.type "bool", .ref x], []⟩; again (.builtin "bool.__new__" ⟨[.type "bool", .ref x], []⟩)) _ _ s
    refine wpAny_bind (wpAny_of_eq (PySem.F.newCall_bool_1 _) (wpAny_pure ⟨plainId_quiet (by decide +kernel) _, codeAny_builtin PySem.F.entry_bool_new ?_⟩))
    rw [Around.under_plainId (by decide +kernel) _]
    have f1 := PySem.F.conv_sub_bool
    have tl : ∀ {R : Bool → Shared → Prop}, (∀ b s', Q (.bool b) s' → R b s') → wpAny (model prog w) A.in1.in1 (truthy (.ref x)) R E s := fun {R} hr => truthy_len X I hb hl hf (wpAny_mono h (fun v s' z => by
      cases v <;> first | exact z.elim | exact ⟨z.1, hr _ _ z.2⟩) fun _ _ y => y)
    obtain ⟨hp, g, d, tk, os⟩ := s
    unfold Builtin.«bool.__new__»
    repeat (any_goals (first | assumption | (refine wpAny_bind (tl fun b s' hq => ?_)) | wp_step))
    all_goals first | exact ⟨_, rfl, hq⟩ | skip
  · rintro obj s₁ ⟨b, rfl, hq⟩
    have ty : s₁.TypeIs (.bool b) "bool" := PyProof.Rows.typeIs_bool _ _
    exact ⟨ty, PySem.F.args_object_init_2 _ _, object_init_meets PySem.F.called_bool.init.lookup PySem.F.called_bool.made (by decide) prog w A.in1 _ s₁ ⟨ty, rfl, hq⟩⟩
end
section
variable {X : Cx} {k j : Nat} {C : Addr} {sp : Sp}
/-- bool(x), x an instance without __bool__, by its length -/
def rBoolI (C : Addr) (sp : Sp) : List V → Hp → VK → Prop := fun xs H Q => ∃ (a dx : Addr) (fs : List (Str × V)), xs = [.ref a] ∧ H a = some (.ins C dx fs) ∧ sp [.ref a] H (fun v H' => ∃ n : Int, v = .int n ∧ (0 ≤ n ∧ n < 2 ^ 63) ∧ Q (.bl (n != 0)) H') E0
theorem call_boolI (M : MetD X.prog X.w X.K X.mg X.base k C "__len__" sp) (nb : PySem.W.findIn X.K (.ref C) "__bool__" = some none) (hg : X.A.guards = some []) (hr : Room j X.A) (hk : k + 3 ≤ j) : CallR X (.type "bool") (rBoolI C sp) := by
  intro pins s σ H xs us Q I r h
  obtain ⟨a, dx, fs, rfl, ea, hsp⟩ := h
  obtain ⟨f, fd, hs, hf, F, hb⟩ := M.ex
  rw [Vals.ref1 r]
  obtain ⟨mA, J, _⟩ := ins_get I.hok ea
  obtain ⟨od, J, _⟩ := J.look
  have sb : Sub X (k + 3) X.A := ⟨hr.mono hk, rfl⟩
  refine bool_own I.kIn J nb hs hf ?_
  refine wpAny_mono (run_fnG sb.in1.in1.in1 hg F hb I (vs := [.ref a]) (.cons rfl .nil) hsp) (fun u s' z => ?_) (fun _ _ z => z)
  obtain ⟨v, H', I', rv, n, rfl, h01, q⟩ := z
  obtain ⟨t, rfl⟩ := rv
  exact ⟨h01, .bl (n != 0), H', I'.tok _, rfl, q⟩
end
end Su
/-! ### EQ: == and != by an own __eq__, whatever it answers, and what it is compared with -/
namespace Su
open PySem PySem.Spec PyProof.Rows L2
/-- an own == of the class at C -/
structure MetE (P : Program) (w : World) (K : PySem.W.Frag) (mg : Str → Option Value) (base : Heap) (k : Nat) (C : Addr) (sp : Sp) : Prop where
  ex : ∃ (f : Addr) (fd : FuncData), PySem.W.findIn K (.ref C) "__eq__" = some (some (.ref f)) ∧ PySem.W.isFn K (.ref f) = true ∧ FnOk P w K mg base CX0 k f fd ["self", "other"] sp ∧ Binds K fd ["self", "other"] []
  ne : PySem.W.findIn K (.ref C) "__ne__" = some (some (.builtin "object.__ne__"))
  ob : PySem.W.subIn K (.ref C) (.type "object") = some true
  no : PySem.W.subIn K (.type "NoneType") (.ref C) = some false ∧ PySem.W.subIn K (.type "int") (.ref C) = some false ∧ PySem.W.subIn K (.type "bool") (.ref C) = some false ∧ PySem.W.subIn K (.type "str") (.ref C) = some false ∧ PySem.W.subIn K (.type "tuple") (.ref C) = some false ∧ PySem.W.subIn K (.type "list") (.ref C) = some false ∧ PySem.W.subIn K (.type "dict") (.ref C) = some false
  nb : PySem.W.subIn K (.ref C) (.type "NoneType") = some false ∧ PySem.W.subIn K (.ref C) (.type "int") = some false ∧ PySem.W.subIn K (.ref C) (.type "bool") = some false ∧ PySem.W.subIn K (.ref C) (.type "str") = some false ∧ PySem.W.subIn K (.ref C) (.type "tuple") = some false ∧ PySem.W.subIn K (.ref C) (.type "list") = some false ∧ PySem.W.subIn K (.ref C) (.type "dict") = some false
def isT (T : String) : Prop := T = "NoneType" ∨ T = "int" ∨ T = "bool" ∨ T = "str" ∨ T = "tuple" ∨ T = "list" ∨ T = "dict"
section
variable {X : Cx} {k j : Nat} {f C : Addr} {fd : FuncData} {ps : List Str} {sp : Sp}
theorem run_fnO {A : Around} {pins : List (Addr × Obj)} {σ : L2.St} {H : Hp} {s : Shared} {Q : VK} {us : List Value} {vs : List V} (sb : Sub X k A) (F : FnOk X.prog X.w X.K X.mg X.base CX0 k f fd ps sp) (hb : Binds X.K fd ps [])
    (I : Inv X pins σ H s) (r : Vals vs us) (h : sp vs H Q E0) : wpAny (model X.prog X.w) A (call (.ref f) us) (EP X pins σ Q) X.xe s := by
  have e0 : Env0 X.prog X.w X.K X.mg X.base A X.stack s H := by
    have e := I.env0
    exact ⟨by rw [sb.fr]; exact e.frames, e.mod, e.bs, e.bsz, e.funs, e.frf, e.hok, e.bare⟩
  have hl : us.length = ps.length := by rw [← r.length]; exact F.len _ _ _ _ h
  refine wpAny_call (codeAny_mono (F.run A X.stack s H ⟨us, []⟩ us vs Q E0 sb.room e0 (by
    have := hb s us I.kIn (by simpa using hl)
    simpa using this) r h) fun r s' hq => ?_)
  cases r with
  | error e => exact False.elim hq
  | ok fl =>
    cases fl with
    | ret u => exact I.after hq
    | next => exact False.elim hq
    | brk => exact False.elim hq
    | cont => exact False.elim hq
/-- what an instance of the class at C is compared with -/
def TyN (K : PySem.W.Frag) (H : Hp) (C : Addr) (y : V) : Prop := (∃ b d fs, y = .ref b ∧ H b = some (.ins C d fs)) ∨ ∃ T : String, isT T ∧ TyX K H y (.type T)
theorem MetE.sub {P : Program} {w : World} {K : PySem.W.Frag} {mg : Str → Option Value} {base : Heap} (M : MetE P w K mg base k C sp) {T : String} (h : isT T) : PySem.W.subIn K (.type T) (.ref C) = some false := by
  obtain ⟨n1, n2, n3, n4, n5, n6, n7⟩ := M.no
  rcases h with rfl | rfl | rfl | rfl | rfl | rfl | rfl <;> assumption
theorem MetE.sub' {P : Program} {w : World} {K : PySem.W.Frag} {mg : Str → Option Value} {base : Heap} (M : MetE P w K mg base k C sp) {T : String} (h : isT T) : PySem.W.subIn K (.ref C) (.type T) = some false := by
  obtain ⟨n1, n2, n3, n4, n5, n6, n7⟩ := M.nb
  rcases h with rfl | rfl | rfl | rfl | rfl | rfl | rfl <;> assumption
theorem tyN_looks {pins : List (Addr × Obj)} {σ : L2.St} {H : Hp} {s : Shared} {y : V} {u : Value} (M : MetE X.prog X.w X.K X.mg X.base k C sp) (I : Inv X pins σ H s) (ry : RelV y u) (ty : TyN X.K H C y) :
    ∃ tb, PySem.W.Looks (model X.prog X.w) s.heap (typeOf u) tb ∧ PySem.W.notFirst X.K C tb = true := by
  rcases ty with ⟨b, d, fs, rfl, hb⟩ | ⟨T, hT, ty⟩
  · cases ry
    obtain ⟨mB, J', _⟩ := ins_get I.hok hb
    obtain ⟨od', J', _⟩ := J'.look
    exact ⟨.ref C, J'.type, by simp [PySem.W.notFirst]⟩
  · obtain ⟨Pr, kx, hp, _⟩ := kit_of I ry ty
    refine ⟨.type T, kx.ty _ _ I.kIn hp, ?_⟩
    unfold PySem.W.notFirst
    rw [M.sub hT]
    simp
def rEqO (K : PySem.W.Frag) (C : Addr) (sp : Sp) : R2 := fun x y H Q => ∃ (a dx : Addr) (fs : List (Str × V)), x = .ref a ∧ H a = some (.ins C dx fs) ∧ TyN K H C y ∧ sp [x, y] H (fun v H' => ∃ b, v = .bl b ∧ Q (.bl b) H') E0
/-- the own ==, run inside -/
theorem rc_eqO {A : Around} {pins : List (Addr × Obj)} {σ : L2.St} {H : Hp} {s : Shared} {Q : VK} {x y : V} {v u : Value} (M : MetE X.prog X.w X.K X.mg X.base k C sp) (sb : Sub X k A) (I : Inv X pins σ H s) (rx : RelV x v) (ry : RelV y u) (h : rEqO X.K C sp x y H Q) :
    wpAny (model X.prog X.w) A (richCompare .Eq v u) (fun r s' => ∃ b, r = .bool b ∧ ∃ H', Inv X pins σ H' s' ∧ Q (.bl b) H') X.xe s := by
  obtain ⟨a, dx, fs, rfl, ha, ty, hsp⟩ := h
  obtain ⟨f, fd, hs, hf, F, hb⟩ := M.ex
  cases rx
  obtain ⟨tb, lk, nf⟩ := tyN_looks M I ry ty
  obtain ⟨mA, J, _⟩ := ins_get I.hok ha
  obtain ⟨od, J, _⟩ := J.look
  obtain ⟨m, hF⟩ := I.fr
  refine PySem.W.cmp_K (op := .Eq) (tb := tb) sb.room.units0 hF I.ok.mod.kin J lk nf hs hf ?_
  refine wpAny_mono (run_fnO sb F hb I (vs := [.ref a, y]) (.cons rfl (.cons ry .nil)) hsp) (fun w s' z => ?_) (fun _ _ z => z)
  obtain ⟨z, H', I', rz, b, rfl, q⟩ := z
  cases rz
  exact ⟨b, rfl, H', I', q⟩
theorem op_eqO (M : MetE X.prog X.w X.K X.mg X.base k C sp) (hr : Room j X.A) (hk : k ≤ j) : OpR X (compareOp .Eq) (rEqO X.K C sp) := by
  intro pins s σ H x y v u Q I rx ry h
  show wpAny (model X.prog X.w) X.A (richCompare .Eq v u) (EP X pins σ Q) X.xe s
  refine wpAny_mono (rc_eqO M ⟨hr.mono hk, rfl⟩ I rx ry h) (fun r s' z => ?_) (fun _ _ z => z)
  obtain ⟨b, rfl, H', I', q⟩ := z
  exact ⟨.bl b, H', I', rfl, q⟩
theorem ifBound_B {prog : Program} {w : World} {A : Around} {E : Value → Shared → Prop} {s : Shared} {K : PySem.W.Frag} {x C : Addr} {ox : Obj} {od : Option Obj} {name : Str} {id : String} {args : List Value} {Q : Option Value → Shared → Prop} (X : K.In s.heap) (I : PySem.W.InstAt s.heap x ox C od) (hs : PySem.W.findIn K (.ref C) name = some (some (.builtin id))) (hb : ∀ self, bindSpecial (.builtin id) self = pure (.builtin id, [self]))
    (h : wpAny (model prog w) A (call (.builtin id) (.ref x :: args)) (fun v => Q (some v)) E s) : wpAny (model prog w) A (callSpecialIfBound? (.ref x) name args) Q E s := by
  simp only [callSpecialIfBound?, bindSpecialIfBound?]
  refine wpAny_holding (wpAny_bind (wpAny_bind (wpAny_bind (I.type.here ((PySem.W.looks_findIn X hs).here ?_)))))
  refine wpAny_bind (wpAny_askSetting (wpAny_ite ?_))
  have fin : wpAny (model prog w) A (call (.builtin id) ([.ref x] ++ args) >>= fun v => pure (some v)) Q E s := wpAny_bind (wpAny_mono h (fun v s' h' => wpAny_pure h') fun _ _ h' => h')
  simp only [hb]
  split
  · exact wpAny_bind (wpAny_pure (wpAny_pure fin))
  · exact wpAny_tryCatch (wpAny_bind (wpAny_pure (wpAny_pure fin)))
theorem objNe_K {prog : Program} {w : World} {A : Around} {E : Value → Shared → Prop} {s : Shared} {K : PySem.W.Frag} {x C f : Addr} {ox : Obj} {od : Option Obj} {b : Value} {Q : Fin → Shared → Prop} (X : K.In s.heap) (I : PySem.W.InstAt s.heap x ox C od) (hu : A.units < cLine) (hs : PySem.W.findIn K (.ref C) "__eq__" = some (some (.ref f))) (hf : PySem.W.isFn K (.ref f) = true)
    (hcall : wpAny (model prog w) A (call (.ref f) [.ref x, b]) (fun v s' => ∃ r, v = .bool r ∧ Q (.done (.ret (.bool (!r)))) s') E s) :
    wpAny (model prog w) A (Builtin.«object.__ne__» ⟨[.ref x, b], []⟩) Q E s := by
  unfold Builtin.«object.__ne__»
  repeat (first
    | with_reducible refine wpAny_cRoomFor hu ?_
    | (refine wpAny_bind (m := callSpecialIfBound? (.ref x) (Str.ofString "__eq__") [b])
        (PySem.W.ifBound_K X I hs hf (wpAny_mono hcall (fun r s' hr => by
          obtain ⟨b, rfl, hq⟩ := hr
          repeat (first | exact hq | exact wpAny_pure hq | exact wpAny_truthy_bool hq | (refine wpAny_bind (m := truthy (.bool _)) (wpAny_truthy_bool ?_)) | wp_step)) fun _ _ e => e)))
    | wp_step)
theorem cmp_neK {prog : Program} {w : World} {A : Around} {E : Value → Shared → Prop} {s : Shared} {K : PySem.W.Frag} {x C f : Addr} {ox : Obj} {od : Option Obj} {b tb : Value} {Q : Value → Shared → Prop} (hu : A.units + 1 < cLine) (X : K.In s.heap) (I : PySem.W.InstAt s.heap x ox C od) (hb : PySem.W.Looks (model prog w) s.heap (typeOf b) tb) (hn : PySem.W.notFirst K C tb = true)
    (hs : PySem.W.findIn K (.ref C) "__eq__" = some (some (.ref f))) (hf : PySem.W.isFn K (.ref f) = true) (hne : PySem.W.findIn K (.ref C) "__ne__" = some (some (.builtin "object.__ne__"))) (ho : PySem.W.subIn K (.ref C) (.type "object") = some true)
    (hcall : wpAny (model prog w) A.in1 (call (.ref f) [.ref x, b]) (fun v s' => ∃ r, v = .bool r ∧ Q (.bool (!r)) s') E s) : wpAny (model prog w) A (richCompare .NotEq (.ref x) b) Q E s := by
  have one : wpAny (model prog w) A (tryCompare (.ref x) "__ne__" b) (fun r s' => ∃ v, r = some v ∧ Q v s') E s := by
    unfold tryCompare
    refine wpAny_bind (ifBound_B X I hne (fun self => PySem.F.slot_object_ne.bind self) ?_)
    have t2 : PySem.W.Looks (model prog w) s.heap (isInstance (.ref x) (.type "object")) true := I.type.andThen (PySem.W.looks_subIn X ho)
    refine wpAny_call (codeAny_call_builtin PySem.F.slot_object_ne.plain PySem.F.entry_object_ne (@PySem.W.check_slot (model prog w) _ _ _ "object.__ne__" "object" "__ne__" (.ref x) [b] [] _ PySem.F.cmpKind_ne PySem.F.cmpSplit_ne t2 (PySem.F.cmpArgs_ne _ _) ?_))
    refine objNe_K (A := A.in1) X I hu hs hf (wpAny_mono hcall (fun v s' hv => ?_) fun _ _ e => e)
    obtain ⟨r, rfl, hq⟩ := hv
    exact ⟨r, rfl, wpAny_pure ⟨_, rfl, hq⟩⟩
  unfold richCompare
  simp only [oneThing_ref]
  refine wpAny_holding (wpAny_bind (wpAny_cRoomFor (Nat.lt_of_succ_lt hu) ?_))
  rw [cmpInfo_NotEq]
  dsimp only
  refine wpAny_bind (I.type.here (wpAny_bind (hb.here ?_)))
  split
  · rename_i q
    have e : PySem.W.subIn K tb (.ref C) = some false := by
      rcases Bool.or_eq_true_iff.mp hn with e | e
      · rw [beq_iff_eq.mp e] at q; simp at q
      · exact beq_iff_eq.mp e
    refine wpAny_bind ((PySem.W.looks_subIn X e).here ?_)
    simp only [Bool.false_eq_true, if_false]
    refine wpAny_bind (wpAny_mono one (fun r s' z => ?_) fun _ _ e => e)
    obtain ⟨v, rfl, hq⟩ := z
    exact wpAny_pure hq
  · refine wpAny_bind (wpAny_pure ?_)
    simp only [Bool.false_eq_true, if_false]
    refine wpAny_bind (wpAny_mono one (fun r s' z => ?_) fun _ _ e => e)
    obtain ⟨v, rfl, hq⟩ := z
    exact wpAny_pure hq
def rNeO (K : PySem.W.Frag) (C : Addr) (sp : Sp) : R2 := fun x y H Q => ∃ (a dx : Addr) (fs : List (Str × V)), x = .ref a ∧ H a = some (.ins C dx fs) ∧ TyN K H C y ∧ sp [x, y] H (fun v H' => ∃ b, v = .bl b ∧ Q (.bl (!b)) H') E0
theorem op_neO (M : MetE X.prog X.w X.K X.mg X.base k C sp) (hr : Room j X.A) (hk : k + 1 ≤ j) : OpR X (compareOp .NotEq) (rNeO X.K C sp) := by
  intro pins s σ H x y v u Q I rx ry h
  show wpAny (model X.prog X.w) X.A (richCompare .NotEq v u) (EP X pins σ Q) X.xe s
  obtain ⟨a, dx, fs, rfl, ha, ty, hsp⟩ := h
  obtain ⟨f, fd, hs, hf, F, hb⟩ := M.ex
  cases rx
  obtain ⟨tb, lk, nf⟩ := tyN_looks M I ry ty
  obtain ⟨mA, J, _⟩ := ins_get I.hok ha
  obtain ⟨od, J, _⟩ := J.look
  have sb : Sub X (k + 1) X.A := ⟨hr.mono hk, rfl⟩
  refine cmp_neK (by have := sb.room.units; omega) I.kIn J lk nf hs hf M.ne M.ob ?_
  refine wpAny_mono (run_fnO sb.in1 F hb I (vs := [.ref a, y]) (.cons rfl (.cons ry .nil)) hsp) (fun w s' z => ?_) (fun _ _ z => z)
  obtain ⟨z, H', I', rz, b, rfl, q⟩ := z
  cases rz
  exact ⟨b, rfl, .bl (!b), H', I', rfl, q⟩
end
end Su
/-! ### EQ2: other things compared with an instance: they decline, and its own == is asked -/
namespace Su
open PySem PySem.Spec PyProof.Rows L2
theorem none_eq_ins (x : Addr) : Meets (Builtin.«NoneType.__eq__» ⟨[.none, .ref x], []⟩) (fun _ R s => R (.ok (.ret .notImplemented)) s) :=
  .of_wp fun prog w A R s h => by obtain ⟨hp, g, d, tk, os⟩ := s; wp_walk; exact ⟨_, rfl, h⟩
theorem int_eq_ins (v : Value) (hv : (∃ b, v = .bool b) ∨ ∃ i t, v = .int i t) (x C dx : Addr) : Meets (Builtin.«int.__eq__» ⟨[v, .ref x], []⟩) (fun _ R s => s.heap.get? x = some (PySem.W.instObj C dx) ∧ R (.ok (.ret .notImplemented)) s) :=
  .of_wp fun prog w A R s h => by
    obtain ⟨hp, g, d, tk, os⟩ := s
    obtain ⟨hl, h⟩ := h
    unfold PySem.W.instObj at hl
    rcases hv with ⟨b, rfl⟩ | ⟨i, t, rfl⟩
    · wp_walk using wpAny_loadPart' hl, wpAny_load hl
      exact ⟨_, rfl, h⟩
    · wp_walk using wpAny_loadPart' hl, wpAny_load hl
      exact ⟨_, rfl, h⟩
theorem str_eq_ins (b : Str) (u : Tok) (x C dx : Addr) : Meets (Builtin.«str.__eq__» ⟨[.str b u, .ref x], []⟩) (fun _ R s => s.heap.get? x = some (PySem.W.instObj C dx) ∧ R (.ok (.ret .notImplemented)) s) :=
  .of_wp fun prog w A R s h => by
    obtain ⟨hp, g, d, tk, os⟩ := s
    obtain ⟨hl, h⟩ := h
    unfold PySem.W.instObj at hl
    wp_walk using wpAny_loadPart' hl, wpAny_load hl
    exact ⟨_, rfl, h⟩
section
variable {K : PySem.W.Frag}
theorem list_eq_ins (l x C dx : Addr) (hs : PySem.W.subIn K (.ref C) (.type "list") = some false) : Meets (Builtin.«list.__eq__» ⟨[.ref l, .ref x], []⟩) (fun _ R s => K.In s.heap ∧ s.heap.get? x = some (PySem.W.instObj C dx) ∧ R (.ok (.ret .notImplemented)) s) :=
  .of_wp fun prog w A R s h => by
    obtain ⟨hp, g, d, tk, os⟩ := s
    obtain ⟨X, hl, h⟩ := h
    have lk := PySem.W.looks_subIn (M := model prog w) X hs
    unfold PySem.W.instObj at hl
    wp_walk using wpAny_loadPart' hl, wpAny_load hl, lk.here
    exact ⟨_, rfl, h⟩
theorem tuple_eq_ins (l x C dx : Addr) (hs : PySem.W.subIn K (.ref C) (.type "tuple") = some false) : Meets (Builtin.«tuple.__eq__» ⟨[.ref l, .ref x], []⟩) (fun _ R s => K.In s.heap ∧ s.heap.get? x = some (PySem.W.instObj C dx) ∧ R (.ok (.ret .notImplemented)) s) :=
  .of_wp fun prog w A R s h => by
    obtain ⟨hp, g, d, tk, os⟩ := s
    obtain ⟨X, hl, h⟩ := h
    have lk := PySem.W.looks_subIn (M := model prog w) X hs
    unfold PySem.W.instObj at hl
    wp_walk using wpAny_loadPart' hl, wpAny_load hl, lk.here
    exact ⟨_, rfl, h⟩
theorem dict_eq_ins (l x C dx : Addr) (hs : PySem.W.subIn K (.ref C) (.type "dict") = some false) : Meets (Builtin.«dict.__eq__» ⟨[.ref l, .ref x], []⟩) (fun _ R s => K.In s.heap ∧ s.TypeIs (.ref l) "dict" ∧ s.heap.get? x = some (PySem.W.instObj C dx) ∧ R (.ok (.ret .notImplemented)) s) :=
  .of_wp fun prog w A R s h => by
    obtain ⟨hp, g, d, tk, os⟩ := s
    obtain ⟨X, ⟨o, ho, hc⟩, hl, h⟩ := h
    have lk := PySem.W.looks_subIn (M := model prog w) X hs
    unfold PySem.W.instObj at hl
    wp_walk using wpAny_loadPart' hl, wpAny_load hl, lk.here, wpAny_loadPart' ho
    exact ⟨_, rfl, h⟩
theorem cmp_backK {prog : Program} {w : World} {A : Around} {E : Value → Shared → Prop} {s : Shared} {x C f : Addr} {ox : Obj} {od : Option Obj} {y : Value} {T id : String} {Q : Value → Shared → Prop} (hu : A.units < cLine) (X : K.In s.heap) (I : PySem.W.InstAt s.heap x ox C od) (hT : s.TypeIs y T) (hsub : PySem.W.subIn K (.ref C) (.type T) = some false)
    (slot : Slot T (cmpInfo .Eq).2.1 id) (hc : ∀ Q : Value → Shared → Prop, Q .notImplemented s → wpAny (model prog w) A (call (.builtin id) [y, .ref x]) Q E s) (hs : PySem.W.findIn K (.ref C) "__eq__" = some (some (.ref f))) (hf : PySem.W.isFn K (.ref f) = true)
    (h : wpAny (model prog w) A (call (.ref f) [.ref x, y]) (PySem.W.CmpBack Q) E s) : wpAny (model prog w) A (richCompare .Eq y (.ref x)) Q E s := by
  have one : wpAny (model prog w) A (tryCompare (.ref x) "__eq__" y) (fun r s' => ∃ v, r = some v ∧ Q v s') E s := by
    unfold tryCompare
    refine wpAny_bind (PySem.W.ifBound_K X I hs hf (wpAny_mono h (fun v s' hv => ?_) fun _ _ e => e))
    cases v <;> first | exact hv.elim | exact wpAny_pure ⟨_, rfl, hv⟩
  rcases hi : cmpInfo .Eq with ⟨sym, nf, nr⟩
  rw [hi] at slot
  have e1 : nr = "__eq__" := by
    have := congrArg (fun z => z.2.2) hi
    exact this.symm
  have ne : (Value.type T != Value.ref C) = true := by simp
  simp only [richCompare, hi, hT.oneThing_none]
  refine wpAny_holding ?_
  refine wpAny_bind (wpAny_cRoomFor hu ?_)
  refine wpAny_bind (wpAny_typeOf hT (wpAny_bind (I.type.here ?_)))
  simp only [ne, if_true]
  refine wpAny_bind ((PySem.W.looks_subIn X hsub).here ?_)
  simp only [Bool.false_eq_true, if_false, Bool.not_false, if_true]
  refine wpAny_bind (m := tryCompare y _ (.ref x)) (wpAny_tryCompare_declines hT slot (hc _ ⟨rfl, ?_⟩))
  refine wpAny_bind (m := tryCompare (.ref x) _ y) ?_
  rw [e1]
  refine wpAny_mono one (fun r s' z => ?_) fun _ _ e => e
  obtain ⟨v, rfl, hq⟩ := z
  exact wpAny_pure hq
end
/-- what isn't an instance -/
def OddT (H : Hp) (y : V) : Prop := y = .non ∨ (∃ b, y = .bl b) ∨ (∃ i, y = .int i) ∨ (∃ t, y = .str t) ∨ (∃ c xs, y = .ref c ∧ H c = some (.lst xs)) ∨ (∃ c xs, y = .ref c ∧ PTup H c xs) ∨ ∃ c kvs, y = .ref c ∧ H c = some (.dK kvs)
theorem OddT.ty {K : PySem.W.Frag} {H : Hp} {y : V} (h : OddT H y) : ∃ T, isT T ∧ TyX K H y (.type T) := by
  rcases h with rfl | ⟨b, rfl⟩ | ⟨i, rfl⟩ | ⟨t, rfl⟩ | ⟨c, xs, rfl, e⟩ | ⟨c, xs, rfl, ob, e, _⟩ | ⟨c, kvs, rfl, e⟩
  · exact ⟨_, .inl rfl, .base .non⟩
  · exact ⟨_, .inr (.inr (.inl rfl)), .base (.bl b)⟩
  · exact ⟨_, .inr (.inl rfl), .base (.int i)⟩
  · exact ⟨_, .inr (.inr (.inr (.inl rfl))), .base (.str t)⟩
  · exact ⟨_, .inr (.inr (.inr (.inr (.inr (.inl rfl))))), .base (.lst e)⟩
  · exact ⟨_, .inr (.inr (.inr (.inr (.inl rfl)))), .fTuple e⟩
  · exact ⟨_, .inr (.inr (.inr (.inr (.inr (.inr rfl))))), .base (.dK e)⟩
def rEqB (C : Addr) (sp : Sp) : R2 := fun y x H Q => ∃ (a dx : Addr) (fs : List (Str × V)), x = .ref a ∧ H a = some (.ins C dx fs) ∧ OddT H y ∧ sp [x, y] H (fun v H' => ∃ b, v = .bl b ∧ Q (.bl b) H') E0
theorem op_eqB {X : Cx} {k j : Nat} {C : Addr} {sp : Sp} (M : MetE X.prog X.w X.K X.mg X.base k C sp) (hr : Room j X.A) (hk : k ≤ j) : OpR X (compareOp .Eq) (rEqB C sp) := by
  intro pins s σ H y x u v Q I ry rx h
  show wpAny (model X.prog X.w) X.A (richCompare .Eq u v) (EP X pins σ Q) X.xe s
  obtain ⟨a, dx, fs, rfl, ha, od, hsp⟩ := h
  obtain ⟨f, fd, hs, hf, F, hb⟩ := M.ex
  cases rx
  have hob := (show ObjOk X.prog X.w H s.heap a (.ins C dx fs) from I.hok a _ ha).2.2.2.1
  obtain ⟨mA, J, _⟩ := ins_get I.hok ha
  obtain ⟨od', J, _⟩ := J.look
  have sb : Sub X k X.A := ⟨hr.mono hk, rfl⟩
  have fin : wpAny (model X.prog X.w) X.A (call (.ref f) [.ref a, u]) (PySem.W.CmpBack (EP X pins σ Q)) X.xe s := by
    refine wpAny_mono (run_fnO sb F hb I (vs := [.ref a, y]) (.cons rfl (.cons ry .nil)) hsp) (fun w s' z => ?_) (fun _ _ z => z)
    obtain ⟨z, H', I', rz, b, rfl, q⟩ := z
    cases rz
    exact ⟨.bl b, H', I', rfl, q⟩
  have un := sb.room.units0
  rcases od with rfl | ⟨b, rfl⟩ | ⟨i, rfl⟩ | ⟨t, rfl⟩ | ⟨c, xs, rfl, e⟩ | ⟨c, xs, rfl, ob, e, _⟩ | ⟨c, kvs, rfl, e⟩
  · cases ry
    exact cmp_backK un I.kIn J (T := "NoneType") rfl (M.sub' (.inl rfl)) PySem.F.slot_NoneType_eq (fun Q hq => call_meets PySem.F.slot_NoneType_eq rfl PySem.F.entry_NoneType_eq (PySem.F.args_NoneType_eq_2 _ _) (none_eq_ins a) hq) hs hf fin
  · cases ry
    exact cmp_backK un I.kIn J (T := "bool") rfl (M.sub' (.inr (.inr (.inl rfl)))) PySem.F.slot_bool_eq (fun Q hq => call_meets PySem.F.slot_bool_eq rfl PySem.F.entry_int_eq (PySem.F.args_int_eq_2 _ _) (int_eq_ins _ (.inl ⟨b, rfl⟩) a C dx) ⟨hob, hq⟩) hs hf fin
  · obtain ⟨tk, rfl⟩ := ry
    exact cmp_backK un I.kIn J (T := "int") rfl (M.sub' (.inr (.inl rfl))) PySem.F.slot_int_eq (fun Q hq => call_meets PySem.F.slot_int_eq rfl PySem.F.entry_int_eq (PySem.F.args_int_eq_2 _ _) (int_eq_ins _ (.inr ⟨i, tk, rfl⟩) a C dx) ⟨hob, hq⟩) hs hf fin
  · obtain ⟨tk, rfl⟩ := ry
    exact cmp_backK un I.kIn J (T := "str") rfl (M.sub' (.inr (.inr (.inr (.inl rfl))))) PySem.F.slot_str_eq (fun Q hq => call_meets PySem.F.slot_str_eq rfl PySem.F.entry_str_eq (PySem.F.args_str_eq_2 _ _) (str_eq_ins _ _ a C dx) ⟨hob, hq⟩) hs hf fin
  · cases ry
    obtain ⟨_, its, n, _, h1⟩ := (show ObjOk X.prog X.w H s.heap c (.lst xs) from I.hok c _ e)
    have hT : s.TypeIs (.ref c) "list" := ⟨_, h1, rfl⟩
    exact cmp_backK un I.kIn J hT (M.sub' (.inr (.inr (.inr (.inr (.inr (.inl rfl))))))) PySem.F.slot_list_eq (fun Q hq => call_meets PySem.F.slot_list_eq hT PySem.F.entry_list_eq (PySem.F.args_list_eq_2 _ _) (list_eq_ins (K := X.K) c a C dx (M.sub' (.inr (.inr (.inr (.inr (.inr (.inl rfl)))))))) ⟨I.kIn, hob, hq⟩) hs hf fin
  · cases ry
    obtain ⟨its, r, ⟨o, h1, h2, _⟩, _⟩ := I.tuple (PTup.sq (K := X.K) ⟨ob, e, by assumption⟩)
    have hT : s.TypeIs (.ref c) "tuple" := ⟨_, h1, h2⟩
    exact cmp_backK un I.kIn J hT (M.sub' (.inr (.inr (.inr (.inr (.inl rfl)))))) PySem.F.slot_tuple_eq (fun Q hq => call_meets PySem.F.slot_tuple_eq hT PySem.F.entry_tuple_eq (PySem.F.args_tuple_eq_2 _ _) (tuple_eq_ins (K := X.K) c a C dx (M.sub' (.inr (.inr (.inr (.inr (.inl rfl))))))) ⟨I.kIn, hob, hq⟩) hs hf fin
  · cases ry
    obtain ⟨_, _, vs, _, dd⟩ := dk_of I.hok e
    exact cmp_backK un I.kIn J dd.typeIs (M.sub' (.inr (.inr (.inr (.inr (.inr (.inr rfl))))))) PySem.F.slot_dict_eq (fun Q hq => call_meets PySem.F.slot_dict_eq dd.typeIs PySem.F.entry_dict_eq (PySem.F.args_dict_eq_2 _ _) (dict_eq_ins (K := X.K) c a C dx (M.sub' (.inr (.inr (.inr (.inr (.inr (.inr rfl)))))))) ⟨I.kIn, dd.typeIs, hob, hq⟩) hs hf fin
end Su
/-! ### EQ3: [x] == [y], by an own == of x -/
namespace Su
open PySem PySem.Spec PyProof.Rows L2
section
open PySem.SeqAt MeetsSeq MeetsSeq2 MeetsSeq3 SeqRoads2
variable {prog : Program} {w : World} {A : Around} {R : Result → Shared → Prop}
def ListOne (s : Shared) (l : Addr) (x : Value) : Prop := ∃ n : Nat, s.heap.get? l = some { cls := .type "list", data := .seq #[x] n }
theorem loop1_end (l b : Addr) {x y : Value} {s : Shared} (hl : ListOne s l x) (hb : ListOne s b y) (fin : R (.ok (.ret (.bool true))) s) :
    wpAny (model prog w) A.in1 (Builtin.«list.__eq__.loop» ⟨[.ref l, .ref b, rawInt ((1 : Nat) : Int), rawInt 2], []⟩) (GQ.FinOf prog w A R) (fun e s' => R (.error e) s') s := by
  obtain ⟨n, hl1⟩ := hl
  obtain ⟨n2, hb1⟩ := hb
  generalize hI : (#[x] : Array Value) = its at hl1
  generalize hI2 : (#[y] : Array Value) = its2 at hb1
  obtain ⟨hp, g, d, tk, os⟩ := s
  wp_walk using AutoSeq1.wpAny_loadPart' hl1, AutoSeq1.wpAny_loadPart' hb1
  have hi1 : its[((1 : Nat) : Int).toNat]? = none := by rw [← hI]; simp
  have hi2 : its2[((1 : Nat) : Int).toNat]? = none := by rw [← hI2]; simp
  rw [hi1, hi2]
  wp_walk using AutoSeq1.wpAny_loadPart' hl1, AutoSeq1.wpAny_loadPart' hb1
  show R (.ok (.ret (.bool (its.size == its2.size)))) _
  rw [← hI, ← hI2]
  exact fin
theorem loop1 (l b : Addr) {x y : Value} {s : Shared} (hl : ListOne s l x) (hb : ListOne s b y)
    (turn : wpAny (model prog w) A.in1 (eqBool x y) (fun r s' => ListOne s' l x ∧ ListOne s' b y ∧ R (.ok (.ret (.bool r))) s') (fun e s' => R (.error e) s') s) :
    wpAny (model prog w) A.in1 (Builtin.«list.__eq__.loop» ⟨[.ref l, .ref b, rawInt ((0 : Nat) : Int), rawInt 2], []⟩) (GQ.FinOf prog w A R) (fun e s' => R (.error e) s') s := by
  obtain ⟨n, hl1⟩ := hl
  obtain ⟨n2, hb1⟩ := hb
  generalize hI : (#[x] : Array Value) = its at hl1
  generalize hI2 : (#[y] : Array Value) = its2 at hb1
  obtain ⟨hp, g, d, tk, os⟩ := s
  wp_walk using AutoSeq1.wpAny_loadPart' hl1, AutoSeq1.wpAny_loadPart' hb1
  have hi1 : its[((0 : Nat) : Int).toNat]? = some x := by rw [← hI]; simp
  have hi2 : its2[((0 : Nat) : Int).toNat]? = some y := by rw [← hI2]; simp
  have hc : (((0 : Nat) : Int) + 1) = ((1 : Nat) : Int) := by omega
  rw [hi1, hi2]
  refine wpAny_bind (wpAny_mono turn (fun r s2 h2 => ?_) fun _ _ x => x)
  obtain ⟨hl2, hb2, fin⟩ := h2
  cases r with
  | true =>
    have hrec := loop1_end (prog := prog) (w := w) (A := A) l b hl2 hb2 fin
    obtain ⟨hp2, g2, d2, tk2, os2⟩ := s2
    wp_walk
    exact ⟨plainId_quiet plain_eq_loop _, codeAny_builtin entry_eq_loop (by
      rw [Around.under_plainId plain_eq_loop _]
      exact hrec)⟩
  | false =>
    obtain ⟨n, hl3⟩ := hl2
    obtain ⟨n2, hb3⟩ := hb2
    rw [hI] at hl3
    rw [hI2] at hb3
    obtain ⟨hp2, g2, d2, tk2, os2⟩ := s2
    wp_walk using AutoSeq1.wpAny_loadPart' hl3, AutoSeq1.wpAny_loadPart' hb3
    rw [hi1, hi2]
    wp_walk
    exact fin
theorem list1_eq (l b : Addr) {x y : Value} {s : Shared} (hl : ListOne s l x) (hb : ListOne s b y)
    (turn : wpAny (model prog w) A.in1 (eqBool x y) (fun r s' => ListOne s' l x ∧ ListOne s' b y ∧ R (.ok (.ret (.bool r))) s') (fun e s' => R (.error e) s') s) :
    wpAny (model prog w) A.in1 (Builtin.«list.__eq__» ⟨[.ref l, .ref b], []⟩) (GQ.FinOf prog w A R) (fun e s' => R (.error e) s') s := by
  have hrec := loop1 (prog := prog) (w := w) (A := A) l b hl hb turn
  obtain ⟨n, hl1⟩ := hl
  obtain ⟨n2, hb1⟩ := hb
  generalize hI : (#[x] : Array Value) = its at hl1
  generalize hI2 : (#[y] : Array Value) = its2 at hb1
  have hne : ¬ (its.size != its2.size) = true := by rw [← hI, ← hI2]; simp
  obtain ⟨hp, g, d, tk, os⟩ := s
  have f3 := AutoSeq1.sub_list_list
  wp_walk using AutoSeq1.wpAny_loadPart' hl1, AutoSeq1.wpAny_loadPart' hb1
  exact ⟨plainId_quiet plain_eq_loop _, codeAny_builtin entry_eq_loop (by
    rw [Around.under_plainId plain_eq_loop _]
    exact hrec)⟩
end
def rEqL1 (K : PySem.W.Frag) (C : Addr) (sp : Sp) : R2 := fun x y H Q => ∃ (l b p q dp dq : Addr) (fs gs : List (Str × V)), x = .ref l ∧ y = .ref b ∧ H l = some (.lst [.ref p]) ∧ H b = some (.lst [.ref q]) ∧ H p = some (.ins C dp fs) ∧ H q = some (.ins C dq gs) ∧ (p = q → Q (.bl true) H) ∧
  (p ≠ q → sp [.ref p, .ref q] H (fun v H' => ∃ r, v = .bl r ∧ H' l = some (.lst [.ref p]) ∧ H' b = some (.lst [.ref q]) ∧ Q (.bl r) H') E0)
theorem lone_of {X : Cx} {pins : List (Addr × Obj)} {σ : L2.St} {H : Hp} {s : Shared} (I : Inv X pins σ H s) {l p : Addr} (h : H l = some (.lst [.ref p])) : ListOne s l (.ref p) := by
  obtain ⟨_, its, n, r, h1⟩ := (show ObjOk X.prog X.w H s.heap l (.lst [.ref p]) from I.hok l _ h)
  rw [Vals.ref1 r] at h1
  exact ⟨n, h1⟩
theorem op_eqL1 {X : Cx} {k j : Nat} {C : Addr} {sp : Sp} (M : MetE X.prog X.w X.K X.mg X.base k C sp) (hr : Room j X.A) (hk : k + 1 ≤ j) : OpR X (compareOp .Eq) (rEqL1 X.K C sp) := by
  intro pins s σ H x y v u Q I rx ry h
  show wpAny (model X.prog X.w) X.A (richCompare .Eq v u) (EP X pins σ Q) X.xe s
  obtain ⟨l, b, p, q, dp, dq, fs, gs, rfl, rfl, hl, hb, hp, hq, same, other⟩ := h
  cases rx
  cases ry
  have sb : Sub X (k + 1) X.A := ⟨hr.mono hk, rfl⟩
  have hl1 := lone_of I hl
  have hb1 := lone_of I hb
  obtain ⟨n, gl⟩ := hl1
  obtain ⟨n2, gb⟩ := hb1
  refine wpAny_richCompare_same_room (op := .Eq) ⟨_, gl, rfl⟩ ⟨_, gb, rfl⟩ PySem.F.slot_list_eq (GQ.call_here PySem.F.slot_list_eq ⟨_, gl, rfl⟩ PySem.F.entry_list_eq (PySem.F.args_list_eq_2 _ _) ?_) sb.room.units0
  refine list1_eq (R := wants (fun v s' => v ≠ .notImplemented ∧ EP X pins σ Q v s') X.xe) l b ⟨n, gl⟩ ⟨n2, gb⟩ ?_
  by_cases e : p = q
  · subst e
    exact SeqAt.EqAt.same (A := X.A.in1) (s := s) (.ref p) X.prog X.w _ _ ⟨⟨n, gl⟩, ⟨n2, gb⟩, (fun x => nomatch x), .bl true, H, I, rfl, same rfl⟩
  · refine GQ.eqBool_refG e ?_
    refine wpAny_mono (rc_eqO (Q := fun v H' => H' l = some (.lst [.ref p]) ∧ H' b = some (.lst [.ref q]) ∧ Q v H') M sb.in1 I (x := .ref p) (y := .ref q) rfl rfl ⟨p, dp, fs, rfl, hp, .inl ⟨q, dq, gs, rfl, hq⟩, ?_⟩) (fun r s' z => ?_) (fun _ _ z => z)
    · have := other e
      exact this
    · obtain ⟨rb, rfl, H', I', g1, g2, qq⟩ := z
      exact ⟨rb, rfl, lone_of I' g1, lone_of I' g2, (fun x => nomatch x), .bl rb, H', I', rfl, qq⟩
end Su
/-! ### EO: written things, piece by piece: what an expression gives, as a thing -/
namespace Su
open PySem PySem.Spec PyProof.Rows L2
/-- whatever else was made since H0, te gives the thing g -/
def EOk (p : Addr) (H0 : Hp) (σ : L2.St) (te : TE) (g : G) : Prop := ∀ (H : Hp) (Q : VK), PoolAt H p → Same H0 H → (∀ v H', PoolAt H' p → Same H H' → Tg p H' v g → Q v H') → te σ H Q
def EsOk (p : Addr) (H0 : Hp) (σ : L2.St) (ta : TA) (gs : List G) : Prop := ∀ (H : Hp) (Q : List V → Hp → Prop), PoolAt H p → Same H0 H → (∀ vs H', PoolAt H' p → Same H H' → TgL p H' vs gs → Q vs H') → ta σ H Q
theorem TgL.drop {p : Addr} {H : Hp} : ∀ (n : Nat) {vs : List V} {gs : List G}, TgL p H vs gs → TgL p H (vs.drop n) (gs.drop n)
  | 0, _, _, h => h
  | _ + 1, _, _, .nil => .nil
  | n + 1, _, _, .cons _ t => t.drop n
theorem TgL.take {p : Addr} {H : Hp} : ∀ (n : Nat) {vs : List V} {gs : List G}, TgL p H vs gs → TgL p H (vs.take n) (gs.take n)
  | 0, _, _, _ => .nil
  | _ + 1, _, _, .nil => .nil
  | n + 1, _, _, .cons h t => .cons h (t.take n)
theorem TgL.rev {p : Addr} {H : Hp} : ∀ {vs : List V} {gs : List G}, TgL p H vs gs → TgL p H vs.reverse gs.reverse
  | _, _, .nil => .nil
  | _, _, .cons h t => by
    rw [List.reverse_cons, List.reverse_cons]
    exact t.rev.app (.cons h .nil)
theorem TgL.at {p : Addr} {H : Hp} : ∀ {vs : List V} {gs : List G}, TgL p H vs gs → ∀ {i : Nat} {g : G}, gs[i]? = some g → ∃ v, vs[i]? = some v ∧ Tg p H v g
  | _, _, .nil, i, g, e => by simp at e
  | _, _, .cons h t, 0, g, e => by
    obtain rfl := (by simpa using e : _ = g)
    exact ⟨_, rfl, h⟩
  | _, _, .cons h t, i + 1, g, e => t.at (i := i) (by simpa using e)
mutual
/-- no list, no dict in it -/
def noL : G → Bool
  | .tup l => noLs l
  | .lst _ => false
  | .dct => false
  | _ => true
def noLs : List G → Bool
  | [] => true
  | g :: gs => noL g && noLs gs
end
mutual
theorem Tg.keep2 {p : Addr} {H H' : Hp} (k : K2 H H') : ∀ {v : V} {g : G}, Tg p H v g → noL g = true → Tg p H' v g
  | _, _, .non, _ => .non
  | _, _, .bl b, _ => .bl b
  | _, _, .int i, _ => .int i
  | _, _, .str s, _ => .str s
  | _, _, .lst n e t, h => by simp [noL] at h
  | _, _, .tup e t, h => .tup (k _ _ e) (TgL.keep2 k t (by simpa [noL] using h))
  | _, _, .dct e, h => by simp [noL] at h
theorem TgL.keep2 {p : Addr} {H H' : Hp} (k : K2 H H') : ∀ {vs : List V} {gs : List G}, TgL p H vs gs → noLs gs = true → TgL p H' vs gs
  | _, _, .nil, _ => .nil
  | _, _, .cons h t, z => by
    simp only [noLs, Bool.and_eq_true] at z
    exact .cons (Tg.keep2 k h z.1) (TgL.keep2 k t z.2)
end
theorem noLs_all {gs : List G} (h : ∀ g ∈ gs, noL g = true) : noLs gs = true := by
  induction gs with
  | nil => simp [noLs]
  | cons g gs ih =>
    simp only [noLs, Bool.and_eq_true]
    exact ⟨h g List.mem_cons_self, ih fun x hx => h x (List.mem_cons_of_mem _ hx)⟩
theorem cut_toN {xs : List V} (k : Nat) : cutV xs none (some (k : Int)) = xs.take k := by
  have e0 : HT.sIx xs.length 0 (none : Option Int) = 0 := rfl
  have e1 : HT.sIx xs.length xs.length (some (k : Int)) = min k xs.length := HT.sIx_nat xs.length xs.length k
  unfold cutV
  rw [e0, e1, List.drop_zero, Nat.sub_zero]
  rcases Nat.le_total k xs.length with h | h
  · rw [Nat.min_eq_left h]
  · rw [Nat.min_eq_right h, List.take_of_length_le (Nat.le_refl _), List.take_of_length_le h]
section
variable {p : Addr} {H0 : Hp} {σ : L2.St} {K : PySem.W.Frag}
theorem EsOk.nil : EsOk p H0 σ tNil [] := fun H Q hp s q => q [] H hp (Same.refl H) .nil
theorem EsOk.cons {te : TE} {ta : TA} {g : G} {gs : List G} (h : EOk p H0 σ te g) (t : EsOk p H0 σ ta gs) : EsOk p H0 σ (tCons te ta) (g :: gs) :=
  fun H Q hp s q => h H _ hp s fun v H1 hp1 s1 tg => t H1 _ hp1 (s.trans s1) fun vs H2 hp2 s2 tgs => q (v :: vs) H2 hp2 (s1.trans s2) (.cons (tg.keep (Keeps.same s2)) tgs)
theorem EOk.const {v : V} {g : G} (h : ∀ H, Tg p H v g) : EOk p H0 σ (tC v) g := fun H Q hp s q => q v H hp (Same.refl H) (h H)
theorem EOk.int (i : Int) : EOk p H0 σ (tC (.int i)) (.int i) := EOk.const fun _ => .int i
theorem EOk.bl (b : Bool) : EOk p H0 σ (tC (.bl b)) (.bl b) := EOk.const fun _ => .bl b
theorem EOk.str (x : Str) : EOk p H0 σ (tC (.str x)) (.str x) := EOk.const fun _ => .str x
theorem EOk.non : EOk p H0 σ (tC .non) .non := EOk.const fun _ => .non
theorem EOk.neg (i : Int) : EOk p H0 σ (tUn (rU fun i => .int (-i)) (tC (.int i))) (.int (-i)) := fun H Q hp s q => ⟨i, rfl, q _ H hp (Same.refl H) (.int _)⟩
theorem EOk.var {i : Nat} {v : V} {g : G} (e : σ[i]? = some (some v)) (h : Tg p H0 v g) : EOk p H0 σ (tVar i) g := fun H Q hp s q => ⟨v, e, q v H hp (Same.refl H) (h.keep (Keeps.same s))⟩
theorem EOk.tup {ta : TA} {gs : List G} (h : EsOk p H0 σ ta gs) (l : gs.length ≤ 1000) : EOk p H0 σ (tTupF ta) (.tup gs) :=
  fun H Q hp s q => h H _ hp s fun vs H1 hp1 s1 t => ⟨by rw [t.len]; exact Nat.le_trans l (by decide), fun v H2 s2 nv pv => q _ H2 (hp1.same s2) (s1.trans s2) (.tup (.inl pv) (t.keep (Keeps.same s2)))⟩
theorem EOk.lst {ta : TA} {gs : List G} (h : EsOk p H0 σ ta gs) (l : gs.length ≤ 1000) : EOk p H0 σ (tLst ta) (.lst gs) :=
  fun H Q hp s q => h H _ hp s fun vs H1 hp1 s1 t => ⟨by rw [t.len]; exact Nat.le_trans l (by decide), fun a na => q _ _ (hp1.same (same_upd na)) (s1.trans (same_upd na)) (.lst (pool_ne hp1 na) upd_same (t.keep (Keeps.same (same_upd na))))⟩
theorem EOk.dct : EOk p H0 σ tDNewK .dct := fun H Q hp s q a na => q _ _ (hp.same (same_upd na)) (same_upd na) (.dct upd_same)
theorem lst_at {H : Hp} {v : V} {gs : List G} (h : Tg p H v (.lst gs)) : ∃ a vs, v = .ref a ∧ a ≠ p ∧ H a = some (.lst vs) ∧ TgL p H vs gs := by
  cases h with
  | lst n e t => exact ⟨_, _, rfl, n, e, t⟩
theorem tupG_at {H : Hp} {v : V} {gs : List G} (h : Tg p H v (.tup gs)) : ∃ a vs, v = .ref a ∧ T2 H a vs ∧ TgL p H vs gs := by
  cases h with
  | tup e t => exact ⟨_, _, rfl, e, t⟩
theorem EOk.cat {ta tb : TE} {gs hs : List G} (ha : EOk p H0 σ ta (.lst gs)) (hb : EOk p H0 σ tb (.lst hs)) (l : gs.length + hs.length ≤ 1000) : EOk p H0 σ (tOp rCat ta tb) (.lst (gs ++ hs)) :=
  fun H Q hp s q => ha H _ hp s fun v H1 hp1 s1 t1 => hb H1 _ hp1 (s.trans s1) fun u H2 hp2 s2 t2 => by
    obtain ⟨a, vs, rfl, na, ea, ta⟩ := lst_at (t1.keep (Keeps.same s2))
    obtain ⟨b, us, rfl, nb, eb, tb⟩ := lst_at t2
    refine ⟨a, b, vs, us, rfl, rfl, ea, eb, ?_, fun c nc => ?_⟩
    · rw [ta.len, tb.len]
      exact Nat.le_trans l (by decide)
    · exact q _ _ (hp2.same (same_upd nc)) ((s1.trans s2).trans (same_upd nc)) (.lst (pool_ne hp2 nc) upd_same ((ta.app tb).keep (Keeps.same (same_upd nc))))
/-- the same, with the list's own place told -/
theorem EOk.catN {ta tb : TE} {gs hs : List G} (ha : EOk p H0 σ ta (.lst gs)) (hb : EOk p H0 σ tb (.lst hs)) (l : gs.length + hs.length ≤ 1000) {H : Hp} {Q : VK} (hp : PoolAt H p) (s : Same H0 H)
    (q : ∀ c vs H2, PoolAt H2 p → Same H H2 → H2 c = none → c ≠ p → TgL p H2 vs (gs ++ hs) → Q (.ref c) (upd H2 c (.lst vs))) : tOp rCat ta tb σ H Q :=
  ha H _ hp s fun v H1 hp1 s1 t1 => hb H1 _ hp1 (s.trans s1) fun u H2 hp2 s2 t2 => by
    obtain ⟨a, vs, rfl, na, ea, ta⟩ := lst_at (t1.keep (Keeps.same s2))
    obtain ⟨b, us, rfl, nb, eb, tb⟩ := lst_at t2
    refine ⟨a, b, vs, us, rfl, rfl, ea, eb, ?_, fun c nc => ?_⟩
    · rw [ta.len, tb.len]
      exact Nat.le_trans l (by decide)
    · exact q c _ H2 hp2 (s1.trans s2) nc (pool_ne hp2 nc) (ta.app tb)
theorem EOk.from1 {te : TE} {gs : List G} (h : EOk p H0 σ te (.lst gs)) : EOk p H0 σ (tSl (rSlL K) te (tPart (tC (.int 1))) tNoPart) (.lst (gs.drop 1)) :=
  fun H Q hp s q => h H _ hp s fun v H1 hp1 s1 t1 => by
    obtain ⟨a, vs, rfl, na, ea, ta⟩ := lst_at t1
    refine ⟨1, rfl, a, vs, rfl, SqL.of ea, fun c nc => ?_⟩
    rw [cut_tail]
    exact q _ _ (hp1.same (same_upd nc)) (s1.trans (same_upd nc)) (.lst (pool_ne hp1 nc) upd_same ((ta.drop 1).keep (Keeps.same (same_upd nc))))
theorem EOk.to1 {te : TE} {gs : List G} (h : EOk p H0 σ te (.lst gs)) : EOk p H0 σ (tSl (rSlL K) te tNoPart (tPart (tC (.int 1)))) (.lst (gs.take 1)) :=
  fun H Q hp s q => h H _ hp s fun v H1 hp1 s1 t1 => by
    obtain ⟨a, vs, rfl, na, ea, ta⟩ := lst_at t1
    refine ⟨1, rfl, a, vs, rfl, SqL.of ea, fun c nc => ?_⟩
    rw [show cutV vs none (some (1 : Int)) = vs.take 1 from cut_toN 1]
    exact q _ _ (hp1.same (same_upd nc)) (s1.trans (same_upd nc)) (.lst (pool_ne hp1 nc) upd_same ((ta.take 1).keep (Keeps.same (same_upd nc))))
theorem EOk.toEnd {te : TE} {gs : List G} (h : EOk p H0 σ te (.lst gs)) : EOk p H0 σ (tSl (rSlL K) te tNoPart (tPart (tUn (rU fun i => .int (-i)) (tC (.int 1))))) (.lst (gs.take (gs.length - 1))) :=
  fun H Q hp s q => h H _ hp s fun v H1 hp1 s1 t1 => by
    obtain ⟨a, vs, rfl, na, ea, ta⟩ := lst_at t1
    refine ⟨1, rfl, -1, rfl, a, vs, rfl, SqL.of ea, fun c nc => ?_⟩
    have e0 : HT.sIx vs.length 0 (none : Option Int) = 0 := rfl
    have e1 : HT.sIx vs.length vs.length (some (-1 : Int)) = gs.length - 1 := by
      show (if (-1 : Int) < 0 then ((-1 : Int) + (vs.length : Int)).toNat else min (-1 : Int).toNat vs.length) = _
      rw [if_pos (by decide), ta.len]
      omega
    have e2 : cutV vs none (some (-1 : Int)) = vs.take (gs.length - 1) := by
      unfold cutV
      rw [e0, e1, List.drop_zero, Nat.sub_zero]
    rw [e2]
    exact q _ _ (hp1.same (same_upd nc)) (s1.trans (same_upd nc)) (.lst (pool_ne hp1 nc) upd_same ((ta.take _).keep (Keeps.same (same_upd nc))))
theorem EOk.rev {te : TE} {gs : List G} (h : EOk p H0 σ te (.lst gs)) : EOk p H0 σ (tRevL K te) (.lst gs.reverse) :=
  fun H Q hp s q => h H _ hp s fun v H1 hp1 s1 t1 => by
    obtain ⟨a, vs, rfl, na, ea, ta⟩ := lst_at t1
    exact ⟨a, vs, rfl, SqL.of ea, fun c nc => q _ _ (hp1.same (same_upd nc)) (s1.trans (same_upd nc)) (.lst (pool_ne hp1 nc) upd_same (ta.rev.keep (Keeps.same (same_upd nc))))⟩
theorem EOk.tupOf {te : TE} {gs : List G} (h : EOk p H0 σ te (.lst gs)) : EOk p H0 σ (tCB (rTupL K) (tCons te tNil)) (.tup gs) :=
  fun H Q hp s q => h H _ hp s fun v H1 hp1 s1 t1 => by
    obtain ⟨a, vs, rfl, na, ea, ta⟩ := lst_at t1
    exact ⟨a, vs, rfl, SqL.of ea, fun c H2 s2 nc pc => q _ H2 (hp1.same s2) (s1.trans s2) (.tup (.inl pc) (ta.keep (Keeps.same s2)))⟩
theorem EOk.ixL {te : TE} {gs : List G} {i : Nat} {g : G} (h : EOk p H0 σ te (.lst gs)) (e : gs[i]? = some g) : EOk p H0 σ (tOp (rIxL K) te (tC (.int (i : Nat)))) g :=
  fun H Q hp s q => h H _ hp s fun v H1 hp1 s1 t1 => by
    obtain ⟨a, vs, rfl, na, ea, ta⟩ := lst_at t1
    obtain ⟨v, ev, tv⟩ := ta.at e
    exact ⟨a, vs, _, v, rfl, rfl, SqL.of ea, atI_nat ev, q _ H1 hp1 s1 tv⟩
theorem EOk.ixT {te : TE} {gs : List G} {i : Nat} {g : G} (h : EOk p H0 σ te (.tup gs)) (e : gs[i]? = some g) : EOk p H0 σ (tOp (rIxT K) te (tC (.int (i : Nat)))) g :=
  fun H Q hp s q => h H _ hp s fun v H1 hp1 s1 t1 => by
    obtain ⟨a, vs, rfl, ea, ta⟩ := tupG_at t1
    obtain ⟨v, ev, tv⟩ := ta.at e
    exact ⟨a, vs, _, v, rfl, rfl, ea.sq, atI_nat ev, q _ H1 hp1 s1 tv⟩
end
end Su
/-! ### ST: the table of a set, of any size -/
namespace Su
open PySem L2
/-- a mask: all ones -/
def PM (m : Nat) : Prop := ∃ j, 3 ≤ j ∧ m + 1 = 2 ^ j
theorem pm_odd {m : Nat} (h : PM m) : m % 2 = 1 := by
  obtain ⟨j, j3, e⟩ := h
  obtain ⟨i, rfl⟩ : ∃ i, j = i + 1 := ⟨j - 1, by omega⟩
  rw [Nat.pow_succ] at e
  omega
/-- 1 + 5 + .. + 5 ^ (d - 1) -/
def gs : Nat → Nat
  | 0 => 0
  | d + 1 => 5 * gs d + 1
theorem gs_pow : ∀ d, 5 ^ d = 4 * gs d + 1
  | 0 => rfl
  | d + 1 => by
    rw [Nat.pow_succ, gs_pow d]
    show _ = 4 * (5 * gs d + 1) + 1
    omega
theorem gs_add (a : Nat) : ∀ d, gs (a + d) = gs a + 5 ^ a * gs d
  | 0 => by
    show gs a = gs a + 5 ^ a * 0
    rw [Nat.mul_zero, Nat.add_zero]
  | d + 1 => by
    show 5 * gs (a + d) + 1 = gs a + 5 ^ a * (5 * gs d + 1)
    rw [gs_add a d, Nat.mul_add, Nat.mul_add, Nat.mul_one, Nat.mul_left_comm, gs_pow a]
    omega
theorem gs_two (c : Nat) : gs (c + c) = 2 * (gs c * (2 * gs c + 1)) := by
  rw [gs_add, gs_pow, Nat.add_mul, Nat.mul_add, Nat.mul_add, Nat.mul_assoc, Nat.mul_left_comm (gs c) 2]
  omega
theorem gs_even (c : Nat) : gs (c + c) % 2 = 0 := by
  rw [gs_two]
  omega
theorem odd_dvd {q : Nat} (hq : q % 2 = 1) : ∀ (e x : Nat), 2 ^ e ∣ x * q → 2 ^ e ∣ x
  | 0, x, _ => Nat.one_dvd x
  | e + 1, x, h => by
    have h2 : 2 ∣ x * q := Nat.dvd_trans ⟨2 ^ e, by rw [Nat.pow_succ, Nat.mul_comm]⟩ h
    have hx : x % 2 = 0 := by
      have := Nat.mod_eq_zero_of_dvd h2
      rw [Nat.mul_mod, hq, Nat.mul_one, Nat.mod_mod] at this
      exact this
    obtain ⟨y, rfl⟩ : ∃ y, x = 2 * y := ⟨x / 2, by omega⟩
    rw [Nat.pow_succ, Nat.mul_comm (2 ^ e) 2, Nat.mul_assoc] at h
    have ih := odd_dvd hq e y (Nat.dvd_of_mul_dvd_mul_left (by decide) h)
    rw [Nat.pow_succ, Nat.mul_comm (2 ^ e) 2]
    exact Nat.mul_dvd_mul_left 2 ih
theorem gs_dvd : ∀ (e d : Nat), 2 ^ e ∣ gs d → 2 ^ e ∣ d
  | 0, d, _ => Nat.one_dvd d
  | e + 1, d, h => by
    have h2 : gs d % 2 = 0 := Nat.mod_eq_zero_of_dvd (Nat.dvd_trans ⟨2 ^ e, by rw [Nat.pow_succ, Nat.mul_comm]⟩ h)
    have hd : d % 2 = 0 := by
      rcases Nat.mod_two_eq_zero_or_one d with z | z
      · exact z
      · obtain ⟨c, rfl⟩ : ∃ c, d = (c + c) + 1 := ⟨d / 2, by omega⟩
        have q : gs (c + c + 1) = 5 * gs (c + c) + 1 := rfl
        have := gs_even c
        omega
    obtain ⟨c, rfl⟩ : ∃ c, d = c + c := ⟨d / 2, by omega⟩
    rw [gs_two, Nat.pow_succ, Nat.mul_comm (2 ^ e) 2] at h
    have h3 := odd_dvd (q := 2 * gs c + 1) (by omega) e (gs c) (Nat.dvd_of_mul_dvd_mul_left (by decide) h)
    have ih := gs_dvd e c h3
    have e2 : c + c = 2 * c := by omega
    rw [e2, Nat.pow_succ, Nat.mul_comm (2 ^ e) 2]
    exact Nat.mul_dvd_mul_left 2 ih
theorem lcgI_mod (m i : Nat) : ∀ k, lcgI m i k % (m + 1) = (i + gs k * (4 * i + 1)) % (m + 1)
  | 0 => by
    show i % (m + 1) = (i + 0 * (4 * i + 1)) % (m + 1)
    rw [Nat.zero_mul]
    rfl
  | k + 1 => by
    show ((lcgI m i k * 5 + 1) % (m + 1)) % (m + 1) = (i + (5 * gs k + 1) * (4 * i + 1)) % (m + 1)
    have ih := lcgI_mod m i k
    rw [Nat.mod_mod, Nat.add_mod, Nat.mul_mod, ih, ← Nat.mul_mod, ← Nat.add_mod]
    congr 1
    have e1 : (5 * gs k + 1) * (4 * i + 1) = 5 * (gs k * (4 * i + 1)) + (4 * i + 1) := by rw [Nat.add_mul, Nat.mul_assoc, Nat.one_mul]
    rw [e1]
    omega
theorem lcgI_in {m i : Nat} (hi : i ≤ m) : ∀ k, lcgI m i k ≤ m
  | 0 => hi
  | k + 1 => Nat.lt_succ_iff.mp (Nat.mod_lt _ (Nat.succ_pos m))
theorem starts_ne {m i a b : Nat} (hm : PM m) (hi : i ≤ m) (ab : a < b) (bm : b ≤ a + m) : lcgI m i a ≠ lcgI m i b := by
  intro e
  obtain ⟨j, _, hj⟩ := hm
  obtain ⟨d, rfl⟩ : ∃ d, b = a + d := ⟨b - a, by omega⟩
  have h1 : (i + gs a * (4 * i + 1)) % (m + 1) = (i + gs (a + d) * (4 * i + 1)) % (m + 1) := by rw [← lcgI_mod, ← lcgI_mod, e]
  have h2 : (i + gs (a + d) * (4 * i + 1)) = (i + gs a * (4 * i + 1)) + gs d * ((4 * i + 1) * 5 ^ a) := by
    rw [gs_add, Nat.add_mul, Nat.mul_comm (5 ^ a) (gs d), Nat.mul_assoc, Nat.mul_comm (5 ^ a) (4 * i + 1)]
    omega
  rw [h2] at h1
  have h3 : (m + 1) ∣ gs d * ((4 * i + 1) * 5 ^ a) := by
    have := Nat.sub_mod_eq_zero_of_mod_eq h1.symm
    rw [Nat.add_sub_cancel_left] at this
    exact Nat.dvd_of_mod_eq_zero this
  rw [hj] at h3
  have o : ((4 * i + 1) * 5 ^ a) % 2 = 1 := by
    rw [gs_pow, Nat.mul_mod]
    have q1 : (4 * i + 1) % 2 = 1 := by omega
    have q2 : (4 * gs a + 1) % 2 = 1 := by omega
    rw [q1, q2]
  have h4 := gs_dvd j d (odd_dvd o j (gs d) h3)
  have h5 := Nat.le_of_dvd (by omega) h4
  omega
/-- some start of a run is free -/
theorem start_free {m : Nat} (hm : PM m) (h : Int) (occ : List Nat) (ho : occ.length ≤ m) : ∃ n, n ≤ occ.length + 12 ∧ runI m (SetTable.bits h) n ∉ occ := by
  rcases Classical.em (∃ n, n ≤ occ.length + 12 ∧ runI m (SetTable.bits h) n ∉ occ) with c | c
  · exact c
  · exfalso
    have hi := runI_le m (SetTable.bits h) 12
    have all : ∀ k, k ≤ occ.length → lcgI m (runI m (SetTable.bits h) 12) k ∈ occ := fun k hk => by
      rcases Classical.em (lcgI m (runI m (SetTable.bits h) 12) k ∈ occ) with z | z
      · exact z
      · refine absurd ⟨12 + k, by omega, ?_⟩ c
        rw [runI_tail (bits_lt h)]
        exact z
    have nd : ((List.range (occ.length + 1)).map (lcgI m (runI m (SetTable.bits h) 12))).Nodup := by
      refine List.pairwise_map.mpr (List.Pairwise.imp_of_mem (fun {a b} ha hb hab => ?_) (List.pairwise_lt_range (n := occ.length + 1)))
      have hb := List.mem_range.mp hb
      exact starts_ne hm hi hab (by omega)
    have q := nat_nodup_len _ occ nd fun x hx => by
      obtain ⟨k, hk, rfl⟩ := List.mem_map.mp hx
      have hk := List.mem_range.mp hk
      exact all k (by omega)
    rw [List.length_map, List.length_range] at q
    omega
/-- the first free place of the way -/
theorem way_first {m : Nat} (hm : PM m) (h : Int) (occ : List Nat) (ho : occ.length ≤ m) : ∃ K, K ≤ 10 * (occ.length + 12) ∧ way m h K ∉ occ ∧ ∀ k, k < K → way m h k ∈ occ := by
  obtain ⟨n, hn, hf⟩ := start_free hm h occ ho
  obtain ⟨k, hk, e⟩ := run_nth m (SetTable.bits h) n
  have hw : way m h k = runI m (SetTable.bits h) n := congrArg SetTable.Probe.j e
  obtain ⟨K, h1, h2, h3⟩ := st_least (p := fun k => way m h k ∉ occ) k (by rw [show way m h k = _ from hw]; exact hf)
  refine ⟨K, by omega, h2, fun k' hk' => ?_⟩
  exact Classical.byContradiction fun z => h3 k' hk' z
theorem way_in {m : Nat} {h : Int} {k : Nat} : way m h k ≤ m := by
  have hi : SetTable.bits h % (m + 1) ≤ m := Nat.lt_succ_iff.mp (Nat.mod_lt _ (Nat.succ_pos m))
  have r := runEnd_bd hi
  have q : (nth m (runAt m (SetTable.bits h % (m + 1)) (SetTable.bits h)) k).j + (nth m (runAt m (SetTable.bits h % (m + 1)) (SetTable.bits h)) k).more ≤ m := nth_in k _ (by
    show _ % (m + 1) + (_ - _ % (m + 1)) ≤ m
    omega)
  show (nth m (runAt m (SetTable.bits h % (m + 1)) (SetTable.bits h)) k).j ≤ m
  omega
/-- a table without gaps on the ways of its hashes -/
structure TabN (t : SetTable) (hs : List Int) : Prop where
  rs : L2.Ris t.place.toList
  dn : t.dummies = #[]
  ln : t.place.size = hs.length
  pm : PM t.mask
  le : ∀ x ∈ t.place.toList, x ≤ t.mask
  on : ∀ (i : Nat) (h : Int) (j : Nat), hs[i]? = some h → t.place.toList[i]? = some j → ∃ k, way t.mask h k = j ∧ ∀ k', k' < k → way t.mask h k' ∈ t.place.toList
theorem TabN.ahead {t : SetTable} {hs : List Int} (T : TabN t hs) {h : Int} {K i j : Nat} (hK : way t.mask h K ∉ t.place.toList) (hi : hs[i]? = some h) (hj : t.place.toList[i]? = some j) : ∃ k, k < K ∧ way t.mask h k = j := by
  obtain ⟨k, e, hb⟩ := T.on i h j hi hj
  refine ⟨k, Nat.lt_of_not_le fun z => ?_, e⟩
  rcases Nat.lt_or_eq_of_le z with z | z
  · exact hK (hb K z)
  · rw [z, e] at hK
    exact hK (List.mem_of_getElem? hj)
theorem TabN.put {t : SetTable} {hs : List Int} (T : TabN t hs) {h : Int} {K j p : Nat} (ej : way t.mask h K = j) (ep : SetTable.below t.place j = p) (hK : j ∉ t.place.toList) (hb : ∀ k, k < K → way t.mask h k ∈ t.place.toList) :
    (t.put j).2 = p ∧ p ≤ hs.length ∧ TabN (t.put j).1 (hs.take p ++ h :: hs.drop p) ∧ (t.put j).1.mask = t.mask ∧ (t.put j).1.led = t.led ∧ (t.put j).1.fill = hs.length + 1 := by
  have c1 := (below_cut T.rs j).1
  rw [ep] at c1
  have l0 : t.place.toList.length = hs.length := by rw [Array.length_toList]; exact T.ln
  have p1 : p ≤ t.place.toList.length := by rw [Array.length_toList]; exact c1
  have p2 : p ≤ hs.length := by omega
  have pl : (t.put j).1.place.toList = t.place.toList.take p ++ j :: t.place.toList.drop p := by rw [← ep]; exact put_place t j
  have dm : (t.put j).1.dummies = #[] := put_dm T.dn j
  have sz : (t.put j).1.place.size = hs.length + 1 := by rw [← Array.length_toList, pl, len_ins _ p1, l0]
  have np : t.place[SetTable.below t.place j]? ≠ some j := fun e => hK (List.mem_of_getElem? (by rw [Array.getElem?_toList]; exact e))
  have more : ∀ {x : Nat}, x ∈ t.place.toList → x ∈ (t.put j).1.place.toList := fun hx => by
    rw [pl]
    exact mem_ins.2 (.inr hx)
  refine ⟨ep, p2, ⟨ris_insert T.rs np, dm, by rw [len_ins _ p2]; exact sz, T.pm, fun x hx => ?_, fun i h' j' h1 h2 => ?_⟩, rfl, rfl, ?_⟩
  · rw [pl] at hx
    rcases mem_ins.1 hx with rfl | z
    · rw [← ej]
      exact way_in
    · exact T.le x z
  · rw [tins_get hs p2] at h1
    rw [pl, tins_get _ p1] at h2
    have old : ∀ i0, hs[i0]? = some h' → t.place.toList[i0]? = some j' → ∃ k, way t.mask h' k = j' ∧ ∀ k', k' < k → way t.mask h' k' ∈ (t.put j).1.place.toList := fun i0 a1 a2 => by
      obtain ⟨k, e, z⟩ := T.on i0 h' j' a1 a2
      exact ⟨k, e, fun k' hk' => more (z k' hk')⟩
    split at h1
    · rename_i c
      rw [if_pos c] at h2
      exact old i h1 h2
    · rename_i c
      rw [if_neg c] at h2
      split at h1
      · rename_i d
        rw [if_pos d] at h2
        cases h1
        cases h2
        exact ⟨K, ej, fun k' hk' => more (hb k' hk')⟩
      · rename_i d
        rw [if_neg d] at h2
        exact old (i - 1) h1 h2
  · show (t.put j).1.place.size + (t.put j).1.dummies.size = _
    rw [sz, dm]
    rfl
/-! laid anew -/
theorem free_way {m : Nat} (hm : PM m) (owner : Array (Option Nat)) (h : Int) (occ : List Nat) (ho : occ.length ≤ m) (cov : ∀ j, j ≤ m → oAt owner j ≠ none → j ∈ occ) :
    ∃ K, SetTable.layClean.free m owner (SetTable.turns m) (SetTable.bits h % (m + 1)) (SetTable.bits h) = some (way m h K) ∧ oAt owner (way m h K) = none ∧ ∀ k, k < K → oAt owner (way m h k) ≠ none := by
  obtain ⟨n, hn, hf⟩ := start_free hm h occ ho
  have hw : way m h (off m (SetTable.bits h % (m + 1)) (SetTable.bits h) n) = runI m (SetTable.bits h) n := by
    show (nth m (runAt m (SetTable.bits h % (m + 1)) (SetTable.bits h)) (off m (SetTable.bits h % (m + 1)) (SetTable.bits h) n)).j = _
    rw [nth_off, itL_run]
    rfl
  have h0 : oAt owner (way m h (off m (SetTable.bits h % (m + 1)) (SetTable.bits h) n)) = none := by
    rw [hw]
    cases z : oAt owner (runI m (SetTable.bits h) n) with
    | none => rfl
    | some x => exact absurd (cov _ (runI_le _ _ _) (by rw [z]; exact fun q => nomatch q)) hf
  obtain ⟨K, k1, k2, k3⟩ := st_least (p := fun k => oAt owner (way m h k) = none) _ h0
  refine ⟨K, free_spec m owner (SetTable.turns m) n _ _ K (by unfold SetTable.turns; omega) k1 (fun k hk => ?_) ?_, k2, k3⟩
  · have q := k3 k hk
    cases z : oAt owner (nth m (runAt m (SetTable.bits h % (m + 1)) (SetTable.bits h)) k).j with
    | none => exact absurd z q
    | some _ => rfl
  · rw [show oAt owner (nth m (runAt m (SetTable.bits h % (m + 1)) (SetTable.bits h)) K).j = none from k2]
    rfl
theorem own_next {m : Nat} (hm : PM m) {done : List Int} {owner : Array (Option Nat)} (W : Own m done owner) (hl : done.length ≤ m) (h : Int) :
    ∃ j, SetTable.layClean.free m owner (SetTable.turns m) (SetTable.bits h % (m + 1)) (SetTable.bits h) = some j ∧ Own m (done ++ [h]) (owner.setIfInBounds j (some done.length)) := by
  obtain ⟨ps, hps, hin⟩ := W.ps
  obtain ⟨K, e1, e2, e3⟩ := free_way hm owner h ps (by omega) hin
  have jm : way m h K ≤ m := way_in
  have js : way m h K < owner.size := by
    have := W.sz
    omega
  generalize ej : way m h K = j at e1 e2 jm js
  have self := oAt_set_self (some done.length) js
  have up : ∀ {i : Nat}, oAt owner i ≠ none → oAt (owner.setIfInBounds j (some done.length)) i ≠ none := fun {i} hi => by
    by_cases c : i = j
    · subst c
      rw [self]
      exact fun q => nomatch q
    · rw [oAt_set_ne _ c]
      exact hi
  refine ⟨j, e1, by rw [Array.size_setIfInBounds]; exact W.sz, fun i k hi e => ?_, fun k hk => ?_, ⟨j :: ps, by simp [hps], fun i hi e => ?_⟩⟩
  · by_cases c : i = j
    · subst c
      rw [self] at e
      cases e
      exact ⟨h, K, by simp, ej, fun k' hk' => up (e3 k' hk')⟩
    · rw [oAt_set_ne _ c] at e
      obtain ⟨h', K', a1, a2, a3⟩ := W.at_ i k hi e
      refine ⟨h', K', ?_, a2, fun k' hk' => up (a3 k' hk')⟩
      rw [List.getElem?_append_left (List.getElem?_eq_some_iff.mp a1).1]
      exact a1
  · by_cases c : k < done.length
    · obtain ⟨i, hi, e⟩ := W.all k c
      refine ⟨i, hi, ?_⟩
      rw [oAt_set_ne _ (fun z => by rw [z, e2] at e; cases e)]
      exact e
    · rw [List.length_append, List.length_singleton] at hk
      have ek : k = done.length := by omega
      subst ek
      exact ⟨j, jm, self⟩
  · by_cases c : i = j
    · subst c
      exact List.mem_cons_self
    · rw [oAt_set_ne _ c] at e
      exact List.mem_cons_of_mem _ (hin i hi e)
theorem lay_fold {m : Nat} (hm : PM m) : ∀ (rest done : List Int) (owner : Array (Option Nat)), Own m done owner → done.length + rest.length ≤ m →
    ∃ owner', rest.foldl (stepF m) (some (owner, done.length)) = some (owner', (done ++ rest).length) ∧ Own m (done ++ rest) owner'
  | [], done, owner, W, _ => ⟨owner, by simp, by simpa using W⟩
  | h :: rest, done, owner, W, hl => by
    have hl : done.length + (rest.length + 1) ≤ m := hl
    obtain ⟨j, e, W'⟩ := own_next hm W (by omega) h
    have l1 : (done ++ [h]).length = done.length + 1 := by simp
    obtain ⟨owner', f, W2⟩ := lay_fold hm rest (done ++ [h]) _ W' (by omega)
    have ea : done ++ [h] ++ rest = done ++ h :: rest := by simp
    rw [ea, l1] at f
    rw [ea] at W2
    refine ⟨owner', ?_, W2⟩
    rw [List.foldl_cons, stepF_some e]
    exact f
theorem lay_ok {m : Nat} (hm : PM m) {hs : Array Int} (hn : hs.size ≤ m) : ∃ owner, SetTable.layClean m hs = some owner ∧ Own m hs.toList owner := by
  obtain ⟨owner, f, W⟩ := lay_fold hm hs.toList [] _ (Own.init m) (by simpa using hn)
  rw [List.nil_append] at W
  refine ⟨owner, ?_, W⟩
  rw [layClean_eq, show hs.toList.foldl (stepF m) (some (Array.replicate (m + 1) none, 0)) = some (owner, ([] ++ hs.toList).length) from f]
  rfl
theorem relaid_n (t : SetTable) {hs : Array Int} {wanted M : Nat} (hw : SetTable.sizeAbove wanted - 1 = M) (hM : PM M) (hn : hs.size ≤ M) :
    ∃ t' order, t.relaid hs wanted = some (t', order) ∧ order.toList.Perm (List.range hs.size) ∧ TabN t' (order.toList.map fun i => hs.getD i 0) ∧ t'.mask = M ∧ t'.led = t.led ∧ t'.dummies = #[] := by
  obtain ⟨owner, e, W⟩ := lay_ok hM hn
  have hr : t.relaid hs wanted = some (tabOf t M owner, ((liveOf M owner).map (·.2)).toArray) := by
    rw [relaid_eq, hw, e]
    rfl
  obtain ⟨r1, r2⟩ := ris_live (fun j => owner.getD j none) (List.range (M + 1)) (by
    unfold L2.Ris
    first | exact List.pairwise_lt_range | exact List.pairwise_lt_range _)
  have r1 : L2.Ris ((liveOf M owner).map (·.1)) := r1
  have r2 : ∀ x ∈ (liveOf M owner).map (·.1), x ∈ List.range (M + 1) := r2
  have nd : ((liveOf M owner).map (·.1)).Nodup := List.Pairwise.imp (fun h => Nat.ne_of_lt h) r1
  have lv : ∀ {j k : Nat}, (j, k) ∈ liveOf M owner ↔ j ≤ M ∧ oAt owner j = some k := mem_live W.sz
  have len : (liveOf M owner).length = hs.size := by
    obtain ⟨ps, p1, p2⟩ := W.ps
    have a := nat_nodup_len _ ps nd fun x hx => by
      obtain ⟨⟨y, k⟩, hq, rfl⟩ := List.mem_map.mp hx
      obtain ⟨b1, b2⟩ := lv.1 hq
      exact p2 y b1 (by rw [b2]; exact fun z => nomatch z)
    have b := nat_nodup_len (List.range hs.size) ((liveOf M owner).map (·.2)) List.nodup_range fun k hk => by
      obtain ⟨j, b1, b2⟩ := W.all k (by rw [Array.length_toList]; exact List.mem_range.mp hk)
      exact List.mem_map.mpr ⟨(j, k), lv.2 ⟨b1, b2⟩, rfl⟩
    rw [List.length_map, p1] at a
    rw [List.length_map, List.length_range] at b
    exact Nat.le_antisymm a b
  refine ⟨_, _, hr, ?_, ⟨r1, rfl, ?_, hM, fun x hx => Nat.lt_succ_iff.mp (List.mem_range.mp (r2 x hx)), fun i h j h1 h2 => ?_⟩, rfl, rfl, rfl⟩
  · refine perm_range hs.size _ (by simpa using len) fun k hk => ?_
    obtain ⟨j, b1, b2⟩ := W.all k (by rw [Array.length_toList]; exact hk)
    exact List.mem_map.mpr ⟨(j, k), lv.2 ⟨b1, b2⟩, rfl⟩
  · show ((liveOf M owner).map (·.1)).toArray.size = (((liveOf M owner).map (·.2)).map fun i => hs.getD i 0).length
    simp
  · have h1 : (((liveOf M owner).map (·.2)).map fun i => hs.getD i 0)[i]? = some h := h1
    have h2 : ((liveOf M owner).map (·.1))[i]? = some j := h2
    rw [List.getElem?_map, List.getElem?_map] at h1
    rw [List.getElem?_map] at h2
    obtain ⟨⟨y, k⟩, hq, ey⟩ := Option.map_eq_some_iff.mp h2
    rw [hq] at h1
    have ey : y = j := ey
    subst ey
    have eh : hs.getD k 0 = h := Option.some.inj h1
    obtain ⟨b1, b2⟩ := lv.1 (List.mem_of_getElem? hq)
    obtain ⟨h0, K, a1, a2, a3⟩ := W.at_ y k b1 b2
    have e0 : h0 = h := by
      rw [← eh, Array.getD_eq_getD_getElem?, ← Array.getElem?_toList, a1]
      rfl
    subst e0
    refine ⟨K, a2, fun k' hk' => ?_⟩
    show way M h0 k' ∈ (liveOf M owner).map (·.1)
    cases z : oAt owner (way M h0 k') with
    | none => exact absurd z (a3 k' hk')
    | some k2 => exact List.mem_map.mpr ⟨(way M h0 k', k2), lv.2 ⟨way_in, z⟩, rfl⟩
/-- how great a table is laid anew -/
theorem above_go (n : Nat) : ∀ (f j : Nat), 3 ≤ j → n < 2 ^ (j + f) → (2 ^ j ≤ 8 ∨ 2 ^ j ≤ 2 * n) → ∃ i, 3 ≤ i ∧ SetTable.sizeAbove.go n f (2 ^ j) = 2 ^ i ∧ n < 2 ^ i ∧ (2 ^ i ≤ 8 ∨ 2 ^ i ≤ 2 * n)
  | 0, j, hj, h, b => ⟨j, hj, rfl, h, b⟩
  | f + 1, j, hj, h, b => by
    unfold SetTable.sizeAbove.go
    by_cases c : 2 ^ j ≤ n
    · rw [if_pos c, show 2 ^ j * 2 = 2 ^ (j + 1) from (Nat.pow_succ ..).symm]
      refine above_go n f (j + 1) (by omega) (by rw [show j + 1 + f = j + (f + 1) by omega]; exact h) (.inr ?_)
      rw [Nat.pow_succ]
      omega
    · rw [if_neg c]
      exact ⟨j, hj, rfl, by omega, b⟩
theorem above_ok {n : Nat} (hn : n < 2 ^ 67) : PM (SetTable.sizeAbove n - 1) ∧ n ≤ SetTable.sizeAbove n - 1 ∧ SetTable.sizeAbove n ≤ 8 + 2 * n := by
  obtain ⟨i, h1, h2, h3, h4⟩ := above_go n 64 3 (Nat.le_refl _) hn (.inl (by decide))
  have e : SetTable.sizeAbove n = 2 ^ i := h2
  rw [e]
  refine ⟨⟨i, h1, by omega⟩, by omega, by omega⟩
end Su
/-! ### SV: how soon a search among at most 20000 finds a free slot -/
namespace Su
open PySem L2
/-- the p-th start of a run, of 2 ^ 15 -/
def stp (p : Nat) : Nat := (5 ^ p - 1) / 4 % 32768
def leafC (p : Nat) : Nat := (if stp p + 9 ≤ 32767 then 1023 else 1) <<< stp p
def treeC : Nat → Nat → Nat
  | 0, p => leafC p
  | k + 1, p => treeC k p ||| treeC k (p + 2 ^ k)
def pcC : Nat → Nat → Nat
  | 0, x => x % 2
  | k + 1, x => pcC k (x % 2 ^ 2 ^ k) + pcC k (x / 2 ^ 2 ^ k)
def covB (b : Nat) : Bool := Nat.ble 20001 (pcC 15 (treeC 12 (4096 * b)))
theorem covA : (List.range 8).all covB = true := by decide +kernel
theorem cov8 {b : Nat} (hb : b < 8) : 20001 ≤ pcC 15 (treeC 12 (4096 * b)) :=
  Nat.le_of_ble_eq_true (List.all_eq_true.mp covA b (List.mem_range.mpr hb))
def f5 (p : Nat) : Nat := 5 ^ p % 32768
theorem per0 : stp 32768 = 0 := by decide +kernel
theorem per1 : f5 32768 = 1 := by decide +kernel
theorem stp_gs (p : Nat) : stp p = gs p % 32768 := by
  unfold stp
  have := gs_pow p
  congr 1
  omega
theorem leaf_bit {p j : Nat} (h : (leafC p).testBit j = true) : ∃ d, j = stp p + d ∧ d ≤ SetTable.runEnd 32767 (stp p) - stp p := by
  unfold leafC at h
  rw [Nat.testBit_shiftLeft, Bool.and_eq_true, decide_eq_true_eq] at h
  obtain ⟨h1, h2⟩ := h
  refine ⟨j - stp p, by omega, ?_⟩
  unfold SetTable.runEnd
  split
  · rename_i c
    rw [if_pos c, show (1023 : Nat) = 2 ^ 10 - 1 by decide, Nat.testBit_two_pow_sub_one, decide_eq_true_eq] at h2
    omega
  · rename_i c
    rw [if_neg c, show (1 : Nat) = 2 ^ 1 - 1 by decide, Nat.testBit_two_pow_sub_one, decide_eq_true_eq] at h2
    omega
theorem tree_bit : ∀ {k p j : Nat}, (treeC k p).testBit j = true → ∃ t, t < 2 ^ k ∧ (leafC (p + t)).testBit j = true
  | 0, p, j, h => ⟨0, by decide, h⟩
  | k + 1, p, j, h => by
    rw [treeC, Nat.testBit_or, Bool.or_eq_true] at h
    rcases h with h | h
    · obtain ⟨t, h1, h2⟩ := tree_bit h
      exact ⟨t, by rw [Nat.pow_succ]; omega, h2⟩
    · obtain ⟨t, h1, h2⟩ := tree_bit h
      exact ⟨2 ^ k + t, by rw [Nat.pow_succ]; omega, by rw [← Nat.add_assoc]; exact h2⟩
theorem filter_two (lo a : Nat) : ∀ occ : List Nat, (occ.filter fun y => decide (lo ≤ y ∧ y < lo + a)).length + (occ.filter fun y => decide (lo + a ≤ y ∧ y < lo + a + a)).length ≤ (occ.filter fun y => decide (lo ≤ y ∧ y < lo + (a + a))).length
  | [] => Nat.le_refl _
  | x :: occ => by
    have ih := filter_two lo a occ
    simp only [List.filter_cons]
    split <;> split <;> split <;> simp_all <;> omega
theorem pc_le : ∀ (k x lo : Nat) (occ : List Nat), (∀ j, j < 2 ^ k → x.testBit j = true → lo + j ∈ occ) → pcC k x ≤ (occ.filter fun y => decide (lo ≤ y ∧ y < lo + 2 ^ k)).length
  | 0, x, lo, occ, h => by
    show x % 2 ≤ _
    rcases Nat.mod_two_eq_zero_or_one x with z | z
    · rw [z]
      exact Nat.zero_le _
    · have q := h 0 (by decide) (by rw [Nat.testBit_zero, z]; rfl)
      rw [z]
      exact List.length_pos_of_mem (List.mem_filter.mpr ⟨q, by simp⟩)
  | k + 1, x, lo, occ, h => by
    have e : 2 ^ (k + 1) = 2 ^ k + 2 ^ k := by rw [Nat.pow_succ]; omega
    have a := pc_le k (x % 2 ^ 2 ^ k) lo occ fun j hj hx => by
      rw [Nat.testBit_mod_two_pow, Bool.and_eq_true] at hx
      exact h j (by omega) hx.2
    have b := pc_le k (x / 2 ^ 2 ^ k) (lo + 2 ^ k) occ fun j hj hx => by
      rw [Nat.testBit_div_two_pow] at hx
      rw [Nat.add_assoc]
      exact h (2 ^ k + j) (by omega) (by rw [Nat.add_comm]; exact hx)
    have c := filter_two lo (2 ^ k) occ
    rw [e]
    show pcC k _ + pcC k _ ≤ _
    omega
/-- the runs of a block cover more than 20000 slots -/
theorem covered {b : Nat} (hb : b < 8) (occ : List Nat) (h : ∀ t, t < 4096 → ∀ d, d ≤ SetTable.runEnd 32767 (stp (4096 * b + t)) - stp (4096 * b + t) → stp (4096 * b + t) + d ∈ occ) : 20001 ≤ occ.length := by
  have a := pc_le 15 (treeC 12 (4096 * b)) 0 occ fun j _ hx => by
    obtain ⟨t, ht, hl⟩ := tree_bit hx
    obtain ⟨d, rfl, hd⟩ := leaf_bit hl
    rw [Nat.zero_add]
    exact h t ht d hd
  exact Nat.le_trans (cov8 hb) (Nat.le_trans a (List.length_filter_le _ _))
theorem pm15 : PM 32767 := ⟨15, by decide, by decide⟩
theorem stp_ne {a b : Nat} (h : a < b) (hb : b < 32768) : stp a ≠ stp b := by
  have q := starts_ne (i := 0) pm15 (Nat.zero_le _) h (by omega)
  intro e
  have l : ∀ k, lcgI 32767 0 k = stp k := fun k => by
    have m := lcgI_mod 32767 0 k
    have i := lcgI_in (m := 32767) (i := 0) (Nat.zero_le _) k
    rw [Nat.mod_eq_of_lt (by omega)] at m
    rw [m, stp_gs, Nat.zero_add, Nat.mul_zero, Nat.zero_add, Nat.mul_one]
  rw [l, l] at q
  exact q e
theorem stp_all {i : Nat} (hi : i < 32768) : ∃ p, p < 32768 ∧ stp p = i := by
  rcases Classical.em (∃ p, p < 32768 ∧ stp p = i) with c | c
  · exact c
  · exfalso
    have nd : ((List.range 32768).map stp).Nodup := by
      refine List.pairwise_map.mpr (List.Pairwise.imp_of_mem (fun {a b} _ hb hab => ?_) (List.pairwise_lt_range (n := 32768)))
      exact stp_ne hab (List.mem_range.mp hb)
    have nd2 : (i :: (List.range 32768).map stp).Nodup := List.nodup_cons.mpr ⟨fun hm => by
      obtain ⟨p, hp, e⟩ := List.mem_map.mp hm
      exact c ⟨p, List.mem_range.mp hp, e⟩, nd⟩
    have q := nat_nodup_len _ (List.range 32768) nd2 fun x hx => by
      refine List.mem_range.mpr ?_
      rcases List.mem_cons.mp hx with rfl | hx
      · exact hi
      · obtain ⟨p, _, rfl⟩ := List.mem_map.mp hx
        rw [stp_gs]
        exact Nat.mod_lt _ (by decide)
    rw [List.length_cons, List.length_map, List.length_range] at q
    exact absurd q (by decide)
theorem stp_add (a p : Nat) : stp (a + p) = (stp a + f5 a * stp p) % 32768 := by
  rw [stp_gs, stp_gs, stp_gs, gs_add]
  unfold f5
  rw [Nat.add_mod (gs a), Nat.mul_mod (5 ^ a)]
  simp only [Nat.mod_mod, Nat.add_mod_mod]
theorem stp_per (p : Nat) : stp (32768 + p) = stp p := by
  rw [stp_add, per0, per1, Nat.one_mul, Nat.zero_add, stp_gs, Nat.mod_mod]
/-- the starts of a great table, told within 2 ^ 15 -/
theorem lcgI_proj {m i p : Nat} (hm : 32768 ∣ m + 1) (e : i % 32768 = stp p) (k : Nat) : lcgI m i k % 32768 = stp (p + k) := by
  have h1 := lcgI_mod m i k
  have h2 : lcgI m i k % 32768 = (i + gs k * (4 * i + 1)) % 32768 := by
    rw [← Nat.mod_mod_of_dvd (lcgI m i k) hm, h1, Nat.mod_mod_of_dvd _ hm]
  rw [h2, stp_gs, gs_add, gs_pow]
  rw [stp_gs] at e
  rw [Nat.add_mod, Nat.mul_mod, Nat.add_mod (4 * i) 1, Nat.mul_mod 4 i, e, ← Nat.mul_mod 4, ← Nat.add_mod (4 * gs p) 1, ← Nat.mul_mod, ← Nat.add_mod, Nat.mul_comm (gs k)]
/-- each slot of a run is met -/
theorem run_slot (m : Nat) (h : Int) (n d : Nat) (hd : d ≤ SetTable.runEnd m (runI m (SetTable.bits h) n) - runI m (SetTable.bits h) n) : ∃ k, k ≤ 10 * n + d ∧ way m h k = runI m (SetTable.bits h) n + d := by
  obtain ⟨k, hk, e⟩ := run_nth m (SetTable.bits h) n
  refine ⟨k + d, by omega, ?_⟩
  show (nth m (runAt m (SetTable.bits h % (m + 1)) (SetTable.bits h)) (k + d)).j = _
  rw [nth_add, e, nth_run _ _ _ _ hd]
theorem way_great {m : Nat} (hm : 32768 ∣ m + 1) (h : Int) (occ : List Nat) (few : occ.length ≤ 20000) : ∃ K, K ≤ 82100 ∧ way m h K ∉ occ := by
  rcases Classical.em (∃ K, K ≤ 82100 ∧ way m h K ∉ occ) with c | c
  · exact c
  · exfalso
    have all : ∀ k, k ≤ 82100 → way m h k ∈ occ := fun k hk => Classical.byContradiction fun z => c ⟨k, hk, z⟩
    obtain ⟨p0, hp0, e0⟩ := stp_all (i := runI m (SetTable.bits h) 12 % 32768) (Nat.mod_lt _ (by decide))
    have slot : ∀ k, k ≤ 8191 → ∀ d, d ≤ SetTable.runEnd 32767 (stp (p0 + k)) - stp (p0 + k) → stp (p0 + k) + d ∈ occ.map (· % 32768) := fun k hk d hd => by
      have e1 := lcgI_proj hm e0.symm k
      have e2 := runI_tail (m := m) (bits_lt h) k
      have lt : stp (p0 + k) < 32768 := by rw [stp_gs]; exact Nat.mod_lt _ (by decide)
      have hS := runI_le m (SetTable.bits h) (12 + k)
      rw [← e2] at e1
      obtain ⟨q, hq⟩ := hm
      have d9 : stp (p0 + k) + d < 32768 ∧ d ≤ SetTable.runEnd m (runI m (SetTable.bits h) (12 + k)) - runI m (SetTable.bits h) (12 + k) := by
        unfold SetTable.runEnd at hd ⊢
        split at hd <;> split <;> omega
      obtain ⟨j, hj, ej⟩ := run_slot m h (12 + k) d d9.2
      have mem := all j (by
        have : d ≤ 9 := by
          unfold SetTable.runEnd at hd
          split at hd <;> omega
        omega)
      rw [ej] at mem
      refine List.mem_map.mpr ⟨_, mem, ?_⟩
      rw [Nat.add_mod, e1, Nat.mod_eq_of_lt (a := d) (by omega), Nat.mod_eq_of_lt d9.1]
    obtain ⟨b, cc, hb, hc1, hc2, hc3⟩ : ∃ b cc, b < 8 ∧ p0 ≤ 4096 * cc ∧ 4096 * cc ≤ p0 + 4095 ∧ ∀ t, stp (4096 * b + t) = stp (4096 * cc + t) := by
      by_cases z : (p0 + 4095) / 4096 < 8
      · exact ⟨_, _, z, by omega, by omega, fun t => rfl⟩
      · have e8 : (p0 + 4095) / 4096 = 8 := by omega
        exact ⟨0, 8, by decide, by omega, by omega, fun t => by
          rw [show 4096 * 8 + t = 32768 + (4096 * 0 + t) by omega, stp_per]⟩
    have q := covered hb (occ.map (· % 32768)) fun t ht d hd => by
      rw [hc3] at hd ⊢
      have e : 4096 * cc + t = p0 + (4096 * cc + t - p0) := by omega
      rw [e] at hd ⊢
      exact slot _ (by omega) d hd
    rw [List.length_map] at q
    omega
/-- the first free place of the way, and how soon it comes -/
theorem way_soon {m : Nat} (hm : PM m) (h : Int) (occ : List Nat) (room : occ.length * 5 < m * 3) (few : occ.length ≤ 20000) : ∃ K, K < 10 * SetTable.turns m ∧ K < 99000 ∧ way m h K ∉ occ ∧ ∀ k, k < K → way m h k ∈ occ := by
  obtain ⟨K, k1, k2, k3⟩ := way_first hm h occ (by omega)
  refine ⟨K, by unfold SetTable.turns; omega, ?_, k2, k3⟩
  obtain ⟨j, _, hj⟩ := hm
  by_cases c : j < 15
  · have : 2 ^ j ≤ 2 ^ 14 := Nat.pow_le_pow_right (by decide) (by omega)
    have e : (2 : Nat) ^ 14 = 16384 := by decide
    omega
  · have dv : 32768 ∣ m + 1 := by
      rw [hj]
      exact Nat.pow_dvd_pow 2 (m := 15) (by omega)
    obtain ⟨K2, q1, q2⟩ := way_great dv h occ few
    rcases Nat.lt_or_ge K2 K with z | z
    · exact absurd (k3 K2 z) q2
    · omega
end Su
/-! ### ND: dicts whose keys are tuples of any depth -/
namespace Su
open PySem PySem.Spec PyProof.Rows L2
mutual
/-- the value is such a key -/
inductive KeyV (H : Hp) : NestedKey → V → Prop
  | non : KeyV H .none .non
  | bl (b : Bool) : KeyV H (.num (if b = true then 1 else 0)) (.bl b)
  | int (i : Int) : KeyV H (.num i) (.int i)
  | str (x : Str) : KeyV H (.text x) (.str x)
  | tup {a : Addr} {xs : List V} {ks : List NestedKey} (e : T2 H a xs) (t : KeyVs H ks xs) : KeyV H (.tup ks) (.ref a)
inductive KeyVs (H : Hp) : List NestedKey → List V → Prop
  | nil : KeyVs H [] []
  | cons {k : NestedKey} {v : V} {ks : List NestedKey} {vs : List V} (h : KeyV H k v) (t : KeyVs H ks vs) : KeyVs H (k :: ks) (v :: vs)
end
mutual
theorem KeyV.keep {H H' : Hp} (k2 : K2 H H') : ∀ {k : NestedKey} {v : V}, KeyV H k v → KeyV H' k v
  | _, _, .non => .non
  | _, _, .bl b => .bl b
  | _, _, .int i => .int i
  | _, _, .str x => .str x
  | _, _, .tup e t => .tup (k2 _ _ e) (KeyVs.keep k2 t)
theorem KeyVs.keep {H H' : Hp} (k2 : K2 H H') : ∀ {ks : List NestedKey} {vs : List V}, KeyVs H ks vs → KeyVs H' ks vs
  | _, _, .nil => .nil
  | _, _, .cons h t => .cons (KeyV.keep k2 h) (KeyVs.keep k2 t)
end
theorem KeyVs.ints {H : Hp} : ∀ ns : List Int, KeyVs H (ns.map NestedKey.num) (ns.map V.int)
  | [] => .nil
  | n :: ns => .cons (.int n) (KeyVs.ints ns)
/-- what a tuple is in the heap -/
theorem t2_obj {P : Program} {w : World} {H : Hp} {h : Heap} {a : Addr} {xs : List V} (ok : HOk P w H h) (e : T2 H a xs) : ∃ (o : Obj) (its : List Value) (n : Nat), Vals xs its ∧ h.get? a = some o ∧ o.cls = .type "tuple" ∧ o.data = .seq its.toArray n := by
  rcases e with ⟨ob, e, _⟩ | e
  · obtain ⟨_, z⟩ := (show ObjOk P w H h a (.frz ob (.tup xs)) from ok a _ e)
    obtain ⟨_, its, r, o, h1, h2, n, h3⟩ := (show ObjOk P w H h a (.tup xs) from z)
    exact ⟨o, its, n, r, h1, h2, h3⟩
  · obtain ⟨_, its, r, o, h1, h2, n, h3⟩ := (show ObjOk P w H h a (.tup xs) from ok a _ e)
    exact ⟨o, its, n, r, h1, h2, h3⟩
mutual
theorem KeyV.is {P : Program} {w : World} {H : Hp} {h : Heap} (ok : HOk P w H h) : ∀ {k : NestedKey} {v : V} {u : Value}, KeyV H k v → RelV v u → NestedIs h k u
  | _, _, _, .non, r => by cases r; exact .none
  | _, _, _, .bl b, r => by cases r; exact .bool rfl
  | _, _, _, .int i, r => by obtain ⟨t, rfl⟩ := r; exact .int i t
  | _, _, _, .str x, r => by obtain ⟨t, rfl⟩ := r; exact .text x t
  | _, _, u, .tup (a := a) e t, r => by
    obtain rfl : u = Value.ref a := r
    obtain ⟨o, its, n, rr, h1, h2, h3⟩ := t2_obj ok e
    exact .tup h1 h2 h3 (by simpa using KeyVs.is ok t rr)
theorem KeyVs.is {P : Program} {w : World} {H : Hp} {h : Heap} (ok : HOk P w H h) : ∀ {ks : List NestedKey} {vs : List V} {us : List Value}, KeyVs H ks vs → Vals vs us → NestedAll h ks us
  | _, _, _, .nil, r => by cases r; exact .nil
  | _, _, _, .cons hk t, r => by
    cases r with
    | cons r1 r2 => exact .cons (KeyV.is ok hk r1) (KeyVs.is ok t r2)
end
/-- an entry: the key, the tuple that it is, the value -/
abbrev NEnt := NestedKey × Addr × V
abbrev NRel : List NEnt → List (NestedKey × Addr × Value) → Prop := Paired fun p q => p.1 = q.1 ∧ p.2.1 = q.2.1 ∧ RelV p.2.2 q.2.2
def ndO (w : World) (a : Addr) (kvs : List NEnt) : HO := .ext fun h => ∃ (xs : List (NestedKey × Addr × Value)) (o : Obj) (es : Array DictEntry) (ep : Nat), NRel kvs xs ∧ h.get? a = some o ∧ o.ExactDict ∧ o.data = .dict es ep ∧ es.toList = xs.map (fun x => (⟨x.1.hash w, .ref x.2.1, x.2.2⟩ : DictEntry))
/-- a dict with such keys, none twice -/
structure ND (w : World) (H : Hp) (a : Addr) (kvs : List NEnt) : Prop where
  at_ : H a = some (ndO w a kvs) ∨ (kvs = [] ∧ H a = some (.dK []))
  low : (a == sysModules) = false
  few : kvs.length ≤ sizeLine
  keys : ∀ e ∈ kvs, KeyV H e.1 (.ref e.2.1) ∧ e.1.depth ≤ 8
  one : (kvs.map (·.1)).Nodup
/-- the value at a key -/
def nGet (kvs : List NEnt) (k : NestedKey) : Option V := (kvs.find? fun e => decide (e.1 = k)).map (·.2.2)
def nPut (kvs : List NEnt) (k : NestedKey) (b : Addr) (v : V) : List NEnt := if (nGet kvs k).isSome = true then kvs.map (fun e => if e.1 = k then (e.1, e.2.1, v) else e) else kvs ++ [(k, b, v)]
theorem NRel.get {kvs : List NEnt} {xs : List (NestedKey × Addr × Value)} (r : NRel kvs xs) (k : NestedKey) : RelO (nGet kvs k) ((atKey xs k).map (·.2)) := by
  induction r with
  | nil => exact True.intro
  | @cons p q ps qs h t ih =>
    obtain ⟨h1, _, h3⟩ := h
    by_cases e : p.1 = k
    · have e' : q.1 = k := h1.symm.trans e
      have a1 : nGet (p :: ps) k = some p.2.2 := by simp [nGet, List.find?_cons, e]
      have a2 : atKey (q :: qs) k = some q.2 := by simp [atKey, List.find?_cons, e']
      rw [a1, a2]
      exact h3
    · have e' : ¬ q.1 = k := fun z => e (h1.trans z)
      have a1 : nGet (p :: ps) k = nGet ps k := by simp [nGet, List.find?_cons, e]
      have a2 : atKey (q :: qs) k = atKey qs k := by simp [atKey, List.find?_cons, e']
      rw [a1, a2]
      exact ih
theorem NRel.repl {kvs : List NEnt} {xs : List (NestedKey × Addr × Value)} (r : NRel kvs xs) (k : NestedKey) {v : V} {u : Value} (rv : RelV v u) : NRel (kvs.map fun e => if e.1 = k then (e.1, e.2.1, v) else e) (xs.map (putAt k u)) := by
  induction r with
  | nil => exact .nil
  | @cons p q ps qs h t ih =>
    rw [List.map_cons, List.map_cons]
    refine .cons ?_ ih
    obtain ⟨h1, h2, h3⟩ := h
    unfold putAt
    by_cases e : p.1 = k
    · rw [if_pos e, if_pos (h1.symm.trans e)]
      exact ⟨h1, h2, rv⟩
    · rw [if_neg e, if_neg (fun z => e (h1.trans z))]
      exact ⟨h1, h2, h3⟩
theorem NRel.put {kvs : List NEnt} {xs : List (NestedKey × Addr × Value)} (r : NRel kvs xs) (k : NestedKey) (b : Addr) {v : V} {u : Value} (rv : RelV v u) : NRel (nPut kvs k b v) (storedH xs k b u) := by
  have e : (nGet kvs k).isSome = (atKey xs k).isSome := by
    rw [(r.get k).isSome_eq, Option.isSome_map]
  unfold nPut storedH
  rw [e]
  by_cases q : (atKey xs k).isSome = true
  · rw [if_pos q, if_pos q]
    exact r.repl k rv
  · rw [if_neg q, if_neg q]
    exact Paired.snoc r ⟨rfl, rfl, rv⟩
theorem nPut_len (kvs : List NEnt) (k : NestedKey) (b : Addr) (v : V) : (nPut kvs k b v).length ≤ kvs.length + 1 := by
  unfold nPut
  split
  · rw [List.length_map]
    omega
  · rw [List.length_append]
    exact Nat.le_refl _
theorem nGet_none {kvs : List NEnt} {k : NestedKey} (h : nGet kvs k = none) : k ∉ kvs.map (·.1) := by
  intro hm
  obtain ⟨e, he, rfl⟩ := List.mem_map.mp hm
  unfold nGet at h
  rw [Option.map_eq_none_iff, List.find?_eq_none] at h
  exact h e he (by simp)
theorem nPut_keys (kvs : List NEnt) (k : NestedKey) (b : Addr) (v : V) : (nPut kvs k b v).map (·.1) = if (nGet kvs k).isSome = true then kvs.map (·.1) else kvs.map (·.1) ++ [k] := by
  unfold nPut
  split
  · rw [List.map_map]
    refine List.map_congr_left fun e _ => ?_
    show (if e.1 = k then (e.1, e.2.1, v) else e).1 = e.1
    split <;> rfl
  · rw [List.map_append]
    rfl
theorem nPut_mem {kvs : List NEnt} {k : NestedKey} {b : Addr} {v : V} {e : NEnt} (h : e ∈ nPut kvs k b v) : (∃ e' ∈ kvs, e.1 = e'.1 ∧ e.2.1 = e'.2.1) ∨ (e.1 = k ∧ e.2.1 = b) := by
  unfold nPut at h
  split at h
  · obtain ⟨e', he, rfl⟩ := List.mem_map.mp h
    refine .inl ⟨e', he, ?_⟩
    split <;> exact ⟨rfl, rfl⟩
  · rcases List.mem_append.mp h with h | h
    · exact .inl ⟨e, h, rfl, rfl⟩
    · rw [List.mem_singleton.mp h]
      exact .inr ⟨rfl, rfl⟩
/-! in the heap of the machine -/
section
variable {P : Program} {w : World} {H : Hp} {h : Heap} {a : Addr} {kvs : List NEnt}
theorem ND.of (ok : HOk P w H h) (d : ND w H a kvs) : ∃ xs, NRel kvs xs ∧ h.DictOfH (nestedKind P w) a xs := by
  have keys : ∀ {l : List NEnt} {m : List (NestedKey × Addr × Value)}, NRel l m → (∀ e ∈ l, KeyV H e.1 (.ref e.2.1) ∧ e.1.depth ≤ 8) → (∀ x ∈ m, (nestedKind P w).is h x.1 x.2.1) ∧ m.map (·.1) = l.map (·.1) := by
    intro l m q
    induction q with
    | nil => exact fun _ => ⟨(fun x hx => nomatch hx), rfl⟩
    | @cons p q ps qs hq t ih =>
      intro hk
      obtain ⟨i1, i2⟩ := ih fun e he => hk e (List.mem_cons_of_mem _ he)
      obtain ⟨h1, h2, h3⟩ := hq
      refine ⟨fun x hx => ?_, by rw [List.map_cons, List.map_cons, i2, h1]⟩
      rcases List.mem_cons.mp hx with e | hx
      · subst e
        have z := hk p List.mem_cons_self
        rw [h1, h2] at z
        exact ⟨z.1.is ok rfl, z.2⟩
      · exact i1 x hx
  rcases d.at_ with e | ⟨rfl, e⟩
  · obtain ⟨⟨xs, o, es, ep, r, h1, h2, h3, h4⟩, _⟩ := (show ObjOk P w H h a (ndO w a kvs) from ok a _ e)
    obtain ⟨k1, k2⟩ := keys r d.keys
    exact ⟨xs, r, o, es, ep, h1, h2, h3, h4, k1, by rw [k2]; exact d.one⟩
  · obtain ⟨_, _, vs, rel, o, es, ep, h1, h2, h3, h4⟩ := (show ObjOk P w H h a (.dK []) from ok a _ e)
    cases rel
    have z : es.toList = [] := by
      have := h4.2.1
      cases hh : es.toList with
      | nil => rfl
      | cons x l =>
        rw [hh] at this
        cases this
    exact ⟨[], .nil, o, es, ep, h1, h2, h3, z, (fun x hx => nomatch hx), List.nodup_nil⟩
theorem nd_obj {H' : Hp} {h' : Heap} {xs : List (NestedKey × Addr × Value)} (r : NRel kvs xs) (d : h'.DictOfH (nestedKind P w) a xs) : ObjOk P w H' h' a (ndO w a kvs) := by
  obtain ⟨o, es, ep, h1, h2, h3, h4, _, _⟩ := d
  refine ⟨⟨xs, o, es, ep, r, h1, h2, h3, h4⟩, ⟨o, h1⟩, fun g1 g2 ⟨ys, o2, es2, ep2, r2, z1, z2, z3, z4⟩ k => ⟨ys, o2, es2, ep2, r2, k _ z1, z2, z3, z4⟩⟩
end
theorem ND.k2 {w : World} {H : Hp} {a : Addr} {kvs : List NEnt} (d : ND w H a kvs) (u : HO) : K2 H (L2.upd H a u) := by
  rcases d.at_ with e | ⟨_, e⟩
  · exact K2.upd e (fun _ z => nomatch z) (fun _ _ z => nomatch z)
  · exact K2.upd e (fun _ z => nomatch z) (fun _ _ z => nomatch z)
theorem ND.put {w : World} {H : Hp} {a b : Addr} {kvs : List NEnt} {k : NestedKey} {v : V} (d : ND w H a kvs) (hk : KeyV H k (.ref b)) (hd : k.depth ≤ 8) (hl : kvs.length < sizeLine) : ND w (L2.upd H a (ndO w a (nPut kvs k b v))) a (nPut kvs k b v) := by
  have k2 := d.k2 (ndO w a (nPut kvs k b v))
  refine ⟨.inl upd_same, d.low, Nat.le_trans (nPut_len kvs k b v) hl, fun e he => ?_, ?_⟩
  · rcases nPut_mem he with ⟨e', he', e1, e2⟩ | ⟨e1, e2⟩
    · obtain ⟨z1, z2⟩ := d.keys e' he'
      rw [e1, e2]
      exact ⟨z1.keep k2, z2⟩
    · rw [e1, e2]
      exact ⟨hk.keep k2, hd⟩
  · rw [nPut_keys]
    split
    · exact d.one
    · rename_i hn
      have hn2 : nGet kvs k = none := by
        cases z : nGet kvs k with
        | none => rfl
        | some x =>
          rw [z] at hn
          exact absurd rfl hn
      rw [List.nodup_append]
      refine ⟨d.one, (List.nodup_cons.mpr ⟨List.not_mem_nil, List.nodup_nil⟩), fun x hx y hy => ?_⟩
      rw [List.mem_singleton.mp hy]
      exact fun z => nGet_none hn2 (z ▸ hx)
theorem ND.keep {w : World} {H H' : Hp} {a : Addr} {kvs : List NEnt} (d : ND w H a kvs) (k2 : K2 H H') (e : H' a = H a) : ND w H' a kvs :=
  ⟨by rw [e]; exact d.at_, d.low, d.few, fun x hx => ⟨(d.keys x hx).1.keep k2, (d.keys x hx).2⟩, d.one⟩
theorem ND.same {w : World} {H H' : Hp} {a : Addr} {kvs : List NEnt} (d : ND w H a kvs) (s : Same H H') : ND w H' a kvs := by
  refine d.keep (K2.same s) ?_
  rcases d.at_ with e | ⟨_, e⟩
  · rw [e, s _ _ e]
  · rw [e, s _ _ e]
theorem ND.new {w : World} {H : Hp} {a : Addr} (e : H a = some (.dK [])) (low : (a == sysModules) = false) : ND w H a [] := ⟨.inr ⟨rfl, e⟩, low, Nat.zero_le _, (fun e he => nomatch he), List.nodup_nil⟩
/-! the rules -/
section
variable {X : Cx} {pins : List (Addr × Obj)} {σ : L2.St} {H : Hp} {s : Shared} {a b : Addr} {kvs : List NEnt} {k : NestedKey} {A : Around} {E : Value → Shared → Prop}
theorem n_room {A : Around} (hu : A.units + 9 < cLine) {P : Program} {w : World} : (nestedKind P w).room A.in1 := by
  show A.in1.units + 8 < cLine
  have : A.in1.units = A.units + 1 := rfl
  omega
/-- d[y], there -/
theorem n_getItem {v : V} {Q : Value → Shared → Prop} (hu : A.units + 9 < cLine) (I : Inv X pins σ H s) (d : ND X.w H a kvs) (hk : KeyV H k (.ref b)) (hd : k.depth ≤ 8) (g : nGet kvs k = some v) (h : ∀ w' s', Inv X pins σ H s' → RelV v w' → Q w' s') :
    wpAny (model X.prog X.w) A (getItem (.ref a) (.ref b)) Q E s := by
  obtain ⟨xs, r, dd⟩ := d.of I.hok
  obtain ⟨w', hw, rw'⟩ := RelO.some_of (v := v) (o := (atKey xs k).map (·.2)) (by rw [← g]; exact r.get k)
  obtain ⟨p, hp, hp2⟩ := Option.map_eq_some_iff.mp hw
  refine wpAny_getItem_heap (n_room hu) ⟨hk.is I.hok rfl, hd⟩ dd hp ?_
  rw [hp2]
  exact h w' _ (I.tok _) rw'
theorem n_in {Q : Value → Shared → Prop} (hu : A.units + 9 < cLine) (I : Inv X pins σ H s) (d : ND X.w H a kvs) (hk : KeyV H k (.ref b)) (hd : k.depth ≤ 8) (h : ∀ s', Inv X pins σ H s' → Q (.bool (nGet kvs k).isSome) s') :
    wpAny (model X.prog X.w) A (compareOp .In (.ref b) (.ref a)) Q E s := by
  obtain ⟨xs, r, dd⟩ := d.of I.hok
  refine wpAny_in_heap (n_room hu) ⟨hk.is I.hok rfl, hd⟩ d.low dd ?_
  have q := (r.get k).isSome_eq
  rw [Option.isSome_map] at q
  rw [← q]
  exact h _ (I.tok _)
theorem n_notIn {Q : Value → Shared → Prop} (hu : A.units + 9 < cLine) (I : Inv X pins σ H s) (d : ND X.w H a kvs) (hk : KeyV H k (.ref b)) (hd : k.depth ≤ 8) (h : ∀ s', Inv X pins σ H s' → Q (.bool (!(nGet kvs k).isSome)) s') :
    wpAny (model X.prog X.w) A (compareOp .NotIn (.ref b) (.ref a)) Q E s := by
  obtain ⟨xs, r, dd⟩ := d.of I.hok
  refine wpAny_notIn_heap (n_room hu) ⟨hk.is I.hok rfl, hd⟩ d.low dd ?_
  have q := (r.get k).isSome_eq
  rw [Option.isSome_map] at q
  rw [← q]
  exact h _ (I.tok _)
theorem n_setItem {v : V} {u : Value} {Q : Unit → Shared → Prop} (hu : A.units + 9 < cLine) (I : Inv X pins σ H s) (d : ND X.w H a kvs) (hk : KeyV H k (.ref b)) (hd : k.depth ≤ 8) (hl : kvs.length < sizeLine) (rv : RelV v u)
    (h : ∀ s', Inv X pins σ (L2.upd H a (ndO X.w a (nPut kvs k b v))) s' → Q () s') : wpAny (model X.prog X.w) A (setItem (.ref a) (.ref b) u) Q E s := by
  obtain ⟨xs, r, dd⟩ := d.of I.hok
  have hz : xs.length ≤ sizeLine := by
    rw [← Paired.length r]
    exact d.few
  refine wpAny_setItem_heap (hsz := hz) (n_room hu) ⟨hk.is I.hok rfl, hd⟩ dd fun h' dd' hs => h _ ?_
  have he : ∃ q, h'.get? a = some q := let ⟨q, _, _, hq, _⟩ := dd'; ⟨q, hq⟩
  have mu : Mut (H a) := by
    rcases d.at_ with e | ⟨_, e⟩
    · rw [e]; exact True.intro
    · rw [e]; exact True.intro
  exact d_write I mu hs he (nd_obj (r.put k b rv) dd')
end
end Su
/-! ### SN: sets of tuples of any depth, in the heap -/
namespace Su
open PySem PySem.Spec PyProof.Rows L2
/-- the tuple at b is this key -/
abbrev IsN (h : Heap) (k : NestedKey) (b : Addr) : Prop := NestedIs h k (.ref b) ∧ k.depth ≤ 8
section
variable {P : Program} {w : World}
def NoCls (P : Program) (w : World) (n : Nat) (s : Shared) (v : Value) : Prop := ∀ (A : Around) (E : Value → Shared → Prop) (Q : Bool → Shared → Prop), Q false s → wpAny (model P w) A (ofAClassStatement n v) Q E s
def ByVal (P : Program) (w : World) (n : Nat) (s : Shared) (v : Value) : Prop := ∀ (A : Around) (E : Value → Shared → Prop) (Q : Bool → Shared → Prop), (∀ b, Q b s) → wpAny (model P w) A (hashByValue n v) Q E s
theorem NoCls.plain {n : Nat} {s : Shared} {v : Value} (h : ofAClassStatement n v = pure false) : NoCls P w n s v := fun A E Q q => by
  rw [h]
  exact wpAny_pure q
theorem ByVal.plain {n : Nat} {s : Shared} {v : Value} {b : Bool} (h : hashByValue n v = pure b) : ByVal P w n s v := fun A E Q q => by
  rw [h]
  exact wpAny_pure (q b)
theorem NoCls.tup {n : Nat} {s : Shared} {a : Addr} {o : Obj} {vs : Array Value} {m : Nat} (ho : s.heap.get? a = some o) (hc : o.cls = .type "tuple") (hd : o.data = .seq vs m) (hq : ∀ v ∈ vs.toList, NoCls P w n s v) : NoCls P w (n + 1) s (.ref a) := fun A E Q h => by
  have tT : s.TypeIs (.ref a) "tuple" := ⟨o, ho, hc⟩
  unfold ofAClassStatement
  refine wpAny_bind (wpAny_typeOf tT ?_)
  dsimp only
  have te : (("tuple" : String) == "tuple") = true := by decide
  simp only [te, if_true, Bool.not_true, Bool.false_eq_true, if_false]
  try refine wpAny_bind (wpAny_pure ?_)
  try simp only [Bool.not_true, Bool.false_eq_true, if_false]
  show wpAny _ _ (seqItems? (.ref a) >>= _) _ _ s
  refine wpAny_bind (wpAny_seqItems ho hd ?_)
  dsimp only
  refine wpAny_bind ?_
  show wpAny _ _ (forIn vs _ _) _ _ s
  rw [← Array.forIn_toList]
  refine wpAny_forIn_list _ (fun rest r s' => r.1 = none ∧ s' = s ∧ ∀ v ∈ rest, NoCls P w n s v) _ ?_ ?_ _ _ ⟨rfl, rfl, hq⟩
  · rintro v rest r s' ⟨hr, rfl, hall⟩
    refine wpAny_bind (hall v List.mem_cons_self _ _ _ ?_)
    simp only [Bool.false_eq_true, if_false]
    exact wpAny_pure ⟨rfl, rfl, fun u z => hall u (List.mem_cons_of_mem _ z)⟩
  · rintro ⟨r1, r2⟩ s' ⟨hr, rfl, _⟩
    simp only at hr
    subst hr
    exact wpAny_pure h
theorem ByVal.tup {n : Nat} {s : Shared} {a : Addr} {o : Obj} {vs : Array Value} {m : Nat} (ho : s.heap.get? a = some o) (hc : o.cls = .type "tuple") (hd : o.data = .seq vs m) (hq : ∀ v ∈ vs.toList, ByVal P w n s v) : ByVal P w (n + 1) s (.ref a) := fun A E Q h => by
  have tT : s.TypeIs (.ref a) "tuple" := ⟨o, ho, hc⟩
  unfold hashByValue
  refine wpAny_bind (wpAny_specialOf tT F.slot_tuple_hash.lookup ?_)
  show wpAny _ _ (seqItems? (.ref a) >>= _) _ _ s
  refine wpAny_bind (wpAny_seqItems ho hd ?_)
  refine wpAny_bind ?_
  show wpAny _ _ (forIn vs _ _) _ _ s
  rw [← Array.forIn_toList]
  refine wpAny_forIn_list _ (fun rest r s' => r.1 = none ∧ s' = s ∧ ∀ v ∈ rest, ByVal P w n s v) _ ?_ ?_ _ _ ⟨rfl, rfl, hq⟩
  · rintro v rest r s' ⟨hr, rfl, hall⟩
    refine wpAny_bind (hall v List.mem_cons_self _ _ _ fun b => ?_)
    cases b
    · simp only [Bool.not_false, if_true]
      exact wpAny_pure (wpAny_pure (h _))
    · simp only [Bool.not_true, Bool.false_eq_true, if_false]
      exact wpAny_pure ⟨rfl, rfl, fun u z => hall u (List.mem_cons_of_mem _ z)⟩
  · rintro ⟨r1, r2⟩ s' ⟨hr, rfl, _⟩
    simp only at hr
    subst hr
    exact wpAny_pure (h _)
mutual
theorem noCls_key : ∀ (k : NestedKey) (v : Value) (n : Nat) (s : Shared), NestedIs s.heap k v → k.depth ≤ n → NoCls P w n s v
  | .none, _, n, s, x, _ => by cases x; cases n <;> exact .plain rfl
  | .num i, _, n, s, x, _ => by cases x <;> cases n <;> exact .plain rfl
  | .text y, _, n, s, x, _ => by cases x; cases n <;> exact .plain rfl
  | .tup ks, _, n, s, x, hn => by
    cases x with
    | tup hg hc hd hk =>
      simp only [NestedKey.depth] at hn
      cases n with
      | zero => omega
      | succ n => exact .tup hg hc hd (noCls_keys ks _ n s hk (by omega))
theorem noCls_keys : ∀ (ks : List NestedKey) (vs : List Value) (n : Nat) (s : Shared), NestedAll s.heap ks vs → NestedKey.depthAll ks ≤ n → ∀ v ∈ vs, NoCls P w n s v
  | [], _, n, s, x, _, v, hv => by cases x; cases hv
  | k :: ks, _, n, s, x, hn, v, hv => by
    cases x with
    | cons x1 x2 =>
      simp only [NestedKey.depthAll] at hn
      rcases List.mem_cons.mp hv with rfl | hv
      · exact noCls_key k _ n s x1 (by omega)
      · exact noCls_keys ks _ n s x2 (by omega) v hv
end
mutual
theorem byVal_key : ∀ (k : NestedKey) (v : Value) (n : Nat) (s : Shared), NestedIs s.heap k v → k.depth ≤ n → ByVal P w n s v
  | .none, _, n, s, x, _ => by cases x; cases n <;> exact .plain rfl
  | .num i, _, n, s, x, _ => by cases x <;> cases n <;> exact .plain rfl
  | .text y, _, n, s, x, _ => by cases x; cases n <;> exact .plain rfl
  | .tup ks, _, n, s, x, hn => by
    cases x with
    | tup hg hc hd hk =>
      simp only [NestedKey.depth] at hn
      cases n with
      | zero => omega
      | succ n => exact .tup hg hc hd (byVal_keys ks _ n s hk (by omega))
theorem byVal_keys : ∀ (ks : List NestedKey) (vs : List Value) (n : Nat) (s : Shared), NestedAll s.heap ks vs → NestedKey.depthAll ks ≤ n → ∀ v ∈ vs, ByVal P w n s v
  | [], _, n, s, x, _, v, hv => by cases x; cases hv
  | k :: ks, _, n, s, x, hn, v, hv => by
    cases x with
    | cons x1 x2 =>
      simp only [NestedKey.depthAll] at hn
      rcases List.mem_cons.mp hv with rfl | hv
      · exact byVal_key k _ n s x1 (by omega)
      · exact byVal_keys ks _ n s x2 (by omega) v hv
end
end
/-- the set's rows: keys and the tuples that they are -/
abbrev SRow := NestedKey × Addr
def srows (w : World) (L : List SRow) : List (Int × Value) := L.map fun p => (p.1.hash w, Value.ref p.2)
structure SR (w : World) (h : Heap) (a : Addr) (L : List SRow) (es : Array (Int × Value)) (ep : Nat) (t : SetTable) : Prop where
  ob : ∃ o, h.get? a = some o ∧ o.ExactSet ∧ o.data = .set es ep t
  rows : es.toList = srows w L
  tab : TabN t (L.map fun p => p.1.hash w)
  one : (L.map (·.1)).Nodup
  is : ∀ p ∈ L, IsN h p.1 p.2
  led : w.params.followText "set-order" = true ∨ t.led = true
  room : L.length * 5 < t.mask * 3
  few : L.length ≤ 20000
section
variable {P : Program} {w : World} {A : Around} {E : Value → Shared → Prop} {s : Shared} {a : Addr} {L : List SRow} {es : Array (Int × Value)} {ep : Nat} {t : SetTable}
theorem srows_len {L : List SRow} {es : Array (Int × Value)} (h : es.toList = srows w L) : es.size = L.length := by
  rw [← Array.length_toList, h]
  exact List.length_map _
theorem SR.size {h : Heap} (R : SR w h a L es ep t) : es.size = L.length := srows_len R.rows
theorem SR.fits {h : Heap} (R : SR w h a L es ep t) : t.fits es.size = true := by
  have h1 := R.tab.ln
  rw [List.length_map, ← R.size] at h1
  have h3 := R.room
  rw [← R.size] at h3
  unfold SetTable.fits SetTable.fill
  rw [R.tab.dn, Bool.and_eq_true, beq_iff_eq, decide_eq_true_eq]
  refine ⟨h1, ?_⟩
  show t.place.size + 0 ≤ t.mask
  omega
theorem SR.ent {h : Heap} (R : SR w h a L es ep t) {i : Nat} {p : SRow} (hp : L[i]? = some p) : es[i]? = some (p.1.hash w, Value.ref p.2) := by
  rw [← Array.getElem?_toList, R.rows]
  unfold srows
  rw [List.getElem?_map, hp]
  rfl
theorem SR.gave {h : Heap} (R : SR w h a L es ep t) : ¬ t.gaveWay = true := by
  unfold SetTable.gaveWay
  rw [pm_odd R.tab.pm]
  decide
/-- among keys a search shows nothing -/
theorem seen_key {k : NestedKey} {b : Addr} {Q : Bool → Shared → Prop} (hk : IsN s.heap k b) {ys : List Value} (hy : ∀ y ∈ ys, ∃ k' c, y = Value.ref c ∧ IsN s.heap k' c) (h : Q false s) :
    wpAny (model P w) A (searchCouldBeSeen (.ref b) ys) Q E s := by
  unfold searchCouldBeSeen
  refine wpAny_bind ?_
  refine wpAny_forIn_list _ (fun rest r s' => r.1 = none ∧ s' = s ∧ ∀ y ∈ rest, ∃ k' c, y = Value.ref c ∧ IsN s.heap k' c) _ ?_ ?_ _ _ ⟨rfl, rfl, hy⟩
  · rintro v rest r s' ⟨hr, rfl, hall⟩
    obtain ⟨k', c, rfl, hc⟩ := hall v List.mem_cons_self
    have on : ∀ y ∈ rest, ∃ k' c, y = Value.ref c ∧ IsN s'.heap k' c := fun u z => hall u (List.mem_cons_of_mem _ z)
    dsimp only
    by_cases hv : (b == c || (carriedByValue (.ref b) && carriedByValue (.ref c))) = true
    · exact wp_if_pos hv (wpAny_pure ⟨rfl, rfl, on⟩)
    · refine wp_if_neg hv ?_
      refine wpAny_bind (quiet_key k _ 8 s' hk.1 hk.2 _ _ _ ?_)
      simp only [Bool.not_true, Bool.false_eq_true, if_false]
      refine wpAny_bind (quiet_key k' _ 8 s' hc.1 hc.2 _ _ _ ?_)
      simp only [Bool.not_true, Bool.false_eq_true, if_false]
      refine wpAny_bind (noCls_key k _ 8 s' hk.1 hk.2 _ _ _ ?_)
      simp only [Bool.false_eq_true, if_false]
      refine wpAny_bind (noCls_key k' _ 8 s' hc.1 hc.2 _ _ _ ?_)
      simp only [Bool.false_eq_true, if_false]
      exact wpAny_pure ⟨rfl, rfl, on⟩
  · rintro ⟨r1, r2⟩ s' ⟨hr, rfl, _⟩
    simp only at hr
    subst hr
    exact wpAny_pure h
theorem dummy_none (m : Nat) : ∀ (n : Nat) (p : SetTable.Probe), p.dummy = none → (nth m p n).dummy = none
  | 0, _, h => h
  | n + 1, p, h => dummy_none m n (adv m p) (by unfold adv; split <;> exact h)
/-- the search, from a step of the way on -/
theorem seek (R : SR w s.heap a L es ep t) {x : Addr} {k : NestedKey} (hx : IsN s.heap k x) (hu : A.units + 8 < cLine) {h : Int} (eh : k.hash w = h) {p0 : SetTable.Probe} (e0 : p0 = runAt t.mask (SetTable.bits h % (t.mask + 1)) (SetTable.bits h))
    {K : Nat} (hKf : K < 10 * SetTable.turns t.mask) (hK : (nth t.mask p0 K).j ∉ t.place.toList) (hKb : ∀ c, c < K → (nth t.mask p0 c).j ∈ t.place.toList) {adding : Bool} {Q : SetFound → Shared → Prop}
    (hin : k ∈ L.map (·.1) → ∀ r : Option Nat, (adding = false → r.isSome = true) → Q (.there r) s) (hout : k ∉ L.map (·.1) → Q (.free (nth t.mask p0 K).j false) s) :
    ∀ (f c : Nat) (stand : Option SetTable.Probe), stand.getD (t.probeStart h) = nth t.mask p0 c → c ≤ K → K - c < f →
      (∀ (i : Nat) p, L[i]? = some p → p.1 = k → ∃ c', c ≤ c' ∧ c' < K ∧ t.place.toList[i]? = some (nth t.mask p0 c').j) →
      wpAny (model P w) A (setSearchFrom a (.ref x) h adding f stand) Q E s
  | 0, c, stand, _, _, hf, _ => absurd hf (Nat.not_lt_zero _)
  | f + 1, c, stand, hst, hc, hf, hre => by
    obtain ⟨o, ho, hex, hd⟩ := R.ob
    rw [setSearchFrom_succ]
    refine wpAny_bind (wpAny_setState_of ho hd R.fits ?_)
    dsimp only
    refine wp_if_neg R.gave ?_
    try refine wpAny_bind (wpAny_pure ?_)
    have dn : (nth t.mask p0 c).dummy = none := dummy_none _ _ _ (by rw [e0]; rfl)
    have sh : ∀ q, nth t.mask (nth t.mask p0 c) q = nth t.mask p0 (c + q) := fun q => (nth_add t.mask c _ q).symm
    have hA : ∀ (i : Nat) p, L[i]? = some p → (es[i]?.map (·.1)).getD 0 = p.1.hash w := fun i p hp => by
      rw [R.ent hp]
      rfl
    have spec := go_spec t R.tab.rs R.tab.dn (fun i => (es[i]?.map (·.1)).getD 0) h (10 * SetTable.turns t.mask) (K - c) _ dn (by omega)
      (fun q hq => by rw [sh]; exact hKb (c + q) (by omega)) (by rw [sh, show c + (K - c) = K by omega]; exact hK)
    rcases spec with ⟨q, i, hq, hi, hh, hno, hpr⟩ | ⟨hno, hpr⟩
    · have hpr' : t.probe (fun i => (es[i]?.map (·.1)).getD 0) h (stand.getD (t.probeStart h)) = some (.candidate (nth t.mask p0 (c + q)).j i (nth t.mask p0 (c + (q + 1)))) := by
        rw [hst, ← sh, ← sh]
        exact hpr
      rw [hpr']
      dsimp only
      rw [sh] at hi
      have il : i < L.length := by
        have h1 : i < t.place.toList.length := (List.getElem?_eq_some_iff.mp hi).1
        have h2 := R.tab.ln
        rw [List.length_map] at h2
        rw [Array.length_toList, h2] at h1
        exact h1
      obtain ⟨p, hp⟩ : ∃ p, L[i]? = some p := ⟨_, List.getElem?_eq_getElem il⟩
      have pm : p ∈ L := List.mem_of_getElem? hp
      have pis := R.is p pm
      have rest : wpAny (model P w) A (searchRest a (.ref x) h adding f es t (nth t.mask p0 (c + q)).j i (nth t.mask p0 (c + (q + 1)))) Q E s := by
        unfold searchRest
        rw [R.ent hp]
        dsimp only
        refine wpAny_bind (wpAny_holding ((nestedKind P w).eqBool (x := p.1) (y := k) hu pis hx ?_))
        refine wpAny_bind (wpAny_setState_of ho hd R.fits ?_)
        dsimp only
        have hsl : t.slot (nth t.mask p0 (c + q)).j = .live i := slot_live R.tab.rs hi
        have tail : ¬ (adding && decide (p.1 = k)) = true → (p.1 = k → ∀ r : Option Nat, r.isSome = true → Q (.there r) s) → wpAny (model P w) A (do
            let some same := t.sameMemory t.moves t.mask | unsupported "set.changed-during-lookup:is-the-new-block-at-the-old-address"
            let still ← match (if same then t.slot (nth t.mask p0 (c + q)).j else .empty) with
              | .live i' => match es[i']? with
                | some (_, y') => do pure (if ← isSame y' (Value.ref p.2) then some i' else none)
                | none => pure none
              | _ => pure none
            match still with
            | none => rule "set.search.anew"; setSearchFrom a (.ref x) h adding f none
            | some i' => if decide (p.1 = k) then return .there (some i') else setSearchFrom a (.ref x) h adding f (some (nth t.mask p0 (c + (q + 1))))) Q E s := by
          intro hn hy
          rw [sameMem]
          dsimp only
          simp only [if_true, hsl, R.ent hp]
          refine wpAny_bind (wpAny_isSame_ref_self (wpAny_bind (wpAny_pure ?_)))
          simp only [if_true]
          by_cases hkk : p.1 = k
          · refine wp_if_pos (by simp [hkk]) ?_
            exact wpAny_pure (hy hkk _ rfl)
          · refine wp_if_neg (by simp [hkk]) ?_
            refine seek R hx hu eh e0 hKf hK hKb hin hout f (c + (q + 1)) _ rfl (by omega) (by omega) fun i0 q0 h0 hk0 => ?_
            obtain ⟨c', a1, a2, a3⟩ := hre i0 q0 h0 hk0
            refine ⟨c', ?_, a2, a3⟩
            have same : (es[i0]?.map (·.1)).getD 0 = h := by rw [hA i0 q0 h0, hk0, eh]
            rcases Nat.lt_trichotomy c' (c + q) with z | z | z
            · refine absurd same (hno (c' - c) i0 (by omega) ?_)
              rw [sh, show c + (c' - c) = c' by omega]
              exact a3
            · exfalso
              subst z
              have s0 := slot_live R.tab.rs a3
              rw [hsl] at s0
              injection s0 with s0
              subst s0
              rw [hp] at h0
              cases h0
              exact hkk hk0
            · omega
        by_cases hkk : p.1 = k
        · have km : k ∈ L.map (·.1) := List.mem_map.mpr ⟨p, pm, hkk⟩
          cases adding with
          | true => exact wp_if_pos (by simp [hkk]) (wpAny_pure (hin km none (fun z => nomatch z)))
          | false =>
            refine wp_if_neg (by simp) ?_
            try refine wpAny_bind (wpAny_pure ?_)
            exact tail (by simp) fun _ r hr => hin km r fun _ => hr
        · refine wp_if_neg (by simp [hkk]) ?_
          try refine wpAny_bind (wpAny_pure ?_)
          exact tail (by simp [hkk]) fun z => absurd z hkk
      by_cases hl : t.led = true
      · refine wp_if_neg (by simp [hl]) ?_
        try refine wpAny_bind (wpAny_pure ?_)
        exact rest
      · refine wp_if_pos (by simp [hl]) ?_
        refine wpAny_bind (seen_key hx (fun y hy => ?_) ?_)
        · obtain ⟨e, he, ee⟩ := List.mem_map.mp hy
          have he1 : e ∈ es ∧ e.1 = h := by simpa using he
          have he2 : e ∈ srows w L := by
            rw [← R.rows]
            simpa using he1.1
          obtain ⟨p2, hp2, e2⟩ := List.mem_map.mp he2
          exact ⟨p2.1, p2.2, by rw [← ee, ← e2], R.is p2 hp2⟩
        · refine wp_if_neg (by decide) ?_
          try refine wpAny_bind (wpAny_pure ?_)
          exact rest
    · have hpr' : t.probe (fun i => (es[i]?.map (·.1)).getD 0) h (stand.getD (t.probeStart h)) = some (.empty (nth t.mask p0 K).j none) := by
        rw [hst, show nth t.mask p0 K = nth t.mask (nth t.mask p0 c) (K - c) by rw [sh, show c + (K - c) = K by omega]]
        exact hpr
      rw [hpr']
      dsimp only
      refine wpAny_pure (hout fun hm => ?_)
      obtain ⟨q0, hq0, hk0⟩ := List.mem_map.mp hm
      obtain ⟨i0, h0⟩ := List.mem_iff_getElem?.mp hq0
      obtain ⟨c', a1, a2, a3⟩ := hre i0 q0 h0 hk0
      refine hno (c' - c) i0 (by omega) ?_ ?_
      · rw [sh, show c + (c' - c) = c' by omega]
        exact a3
      · show (es[i0]?.map (·.1)).getD 0 = h
        rw [hA i0 q0 h0, hk0, eh]
/-- the whole search -/
theorem seek_all (R : SR w s.heap a L es ep t) {x : Addr} {k : NestedKey} (hx : IsN s.heap k x) (hu : A.units + 8 < cLine) {adding : Bool} {Q : SetFound → Shared → Prop}
    (hin : k ∈ L.map (·.1) → ∀ r : Option Nat, (adding = false → r.isSome = true) → Q (.there r) s)
    (hout : ∀ K, k ∉ L.map (·.1) → way t.mask (k.hash w) K ∉ t.place.toList → (∀ c, c < K → way t.mask (k.hash w) c ∈ t.place.toList) → Q (.free (way t.mask (k.hash w) K) false) s) :
    wpAny (model P w) A (setSearch a (.ref x) (k.hash w) adding) Q E s := by
  have hroom := R.room
  have hfew := R.few
  have hl : t.place.toList.length = L.length := by
    rw [Array.length_toList, R.tab.ln, List.length_map]
  obtain ⟨K, k0, k1, k2, k3⟩ := way_soon R.tab.pm (k.hash w) t.place.toList (by omega) (by omega)
  unfold setSearch
  refine seek R hx hu rfl rfl (K := K) k0 k2 k3 hin (fun hn => hout K hn k2 k3) 100000 0 none rfl (Nat.zero_le _) (by omega) fun i p hp hk => ?_
  have hi : (L.map fun p => p.1.hash w)[i]? = some (k.hash w) := by
    rw [List.getElem?_map, hp, ← hk]
    rfl
  obtain ⟨j, hj⟩ : ∃ j, t.place.toList[i]? = some j := ⟨_, List.getElem?_eq_getElem (by have := (List.getElem?_eq_some_iff.mp hp).1; omega)⟩
  obtain ⟨c, hc, e⟩ := R.tab.ahead k2 hi hj
  exact ⟨c, Nat.zero_le _, hc, by rw [hj, ← e]⟩
theorem notScan (b : Addr) (es : Array (Int × Value)) : byScan (.ref b) es = false := by simp [byScan, Value.scannable]
/-- what `in` asks -/
theorem find_key (R : SR w s.heap a L es ep t) {x : Addr} {k : NestedKey} (hx : IsN s.heap k x) (hu : A.units + 8 < cLine) {Q : Option Nat → Shared → Prop} (h : ∀ r : Option Nat, r.isSome = (L.map (·.1)).contains k → Q r s) :
    wpAny (model P w) A (setFind a (.ref x) (k.hash w)) Q E s := by
  obtain ⟨o, ho, hex, hd⟩ := R.ob
  unfold setFind setFindIn
  refine wpAny_bind (wpAny_setState_of ho hd R.fits ?_)
  dsimp only
  refine wp_if_neg (by rw [notScan]; decide) ?_
  try refine wpAny_bind (wpAny_pure ?_)
  refine wpAny_bind (seek_all R hx hu (fun hm r hr => ?_) fun K hm _ _ => ?_)
  · dsimp only
    refine wpAny_pure (h r ?_)
    rw [hr rfl]
    exact (List.contains_iff_mem.mpr hm).symm
  · dsimp only
    refine wpAny_pure (h none ?_)
    cases z : (L.map (·.1)).contains k with
    | false => rfl
    | true => exact absurd (List.contains_iff_mem.mp z) hm
theorem isN_but {h h' : Heap} {k : NestedKey} {a b : Addr} {o : Obj} {es : Array (Int × Value)} {ep : Nat} {t : SetTable} (hb : IsN h k b) (ho : h.get? a = some o) (hd : o.data = .set es ep t) (hs : Heap.SameBut a h h') : IsN h' k b :=
  ⟨NestedIs.at (fun c ob vs n hc hv => by
    refine (hs.2 c fun e => ?_).trans hc
    subst e
    rw [ho] at hc
    cases hc
    rw [hd] at hv
    cases hv) k _ hb.1, hb.2⟩
theorem srows_put (L : List SRow) (p : Nat) (r : SRow) : srows w (L.take p ++ r :: L.drop p) = (srows w L).take p ++ (r.1.hash w, Value.ref r.2) :: (srows w L).drop p := by simp [srows, List.map_take, List.map_drop]
/-- the rows in another order -/
theorem order_n (L : List SRow) (es : Array (Int × Value)) (order : Array Nat) (hr : es.toList = srows w L) (hp : order.toList.Perm (List.range L.length)) :
    ∃ L2, (order.filterMap (es[·]?)).toList = srows w L2 ∧ L2.Perm L ∧ (L2.map fun p => p.1.hash w) = order.toList.map fun i => (es.map (·.1)).getD i 0 := by
  have hz := srows_len hr
  have ent : ∀ (i : Nat) (p : SRow), L[i]? = some p → es[i]? = some (p.1.hash w, Value.ref p.2) := fun i p e => by
    rw [← Array.getElem?_toList, hr]
    unfold srows
    rw [List.getElem?_map, e]
    rfl
  have key : ∀ l : List Nat, (∀ i ∈ l, i < L.length) → l.filterMap (fun i => es[i]?) = srows w (l.filterMap fun i => L[i]?) ∧ ((l.filterMap fun i => L[i]?).map fun p => p.1.hash w) = l.map fun i => (es.map (·.1)).getD i 0 := by
    intro l
    induction l with
    | nil => exact fun _ => ⟨rfl, rfl⟩
    | cons i l ih =>
      intro hl
      obtain ⟨e1, e2⟩ := ih fun j hj => hl j (List.mem_cons_of_mem _ hj)
      obtain ⟨p, hp⟩ : ∃ p, L[i]? = some p := ⟨_, List.getElem?_eq_getElem (hl i List.mem_cons_self)⟩
      have e3 : (es.map (·.1)).getD i 0 = p.1.hash w := by simp [Array.getD_eq_getD_getElem?, Array.getElem?_map, ent i p hp]
      rw [List.filterMap_cons_some (ent i p hp), List.filterMap_cons_some hp, e1]
      refine ⟨rfl, ?_⟩
      rw [List.map_cons, List.map_cons, e2, e3]
  obtain ⟨e1, e2⟩ := key order.toList fun i hi => List.mem_range.mp (hp.mem_iff.mp hi)
  refine ⟨_, by first | (rw [Array.toList_filterMap]; exact e1) | simpa using e1, ?_, e2⟩
  have all : ∀ n, n ≤ L.length → (List.range n).filterMap (fun i => L[i]?) = L.take n := by
    intro n
    induction n with
    | zero => exact fun _ => rfl
    | succ n ih =>
      intro hn
      have e : L[n]? = some (L[n]'hn) := List.getElem?_eq_getElem hn
      rw [List.range_succ, List.filterMap_append, ih (Nat.le_of_lt hn), List.take_add_one, e, List.filterMap_cons_some e]
      rfl
  have z := hp.filterMap (fun i => L[i]?)
  rw [all L.length (Nat.le_refl _), List.take_length] at z
  exact z
theorem grown4 {n : Nat} (h : n ≤ 20000) : SetTable.grown n = n * 4 := by
  unfold SetTable.grown
  rw [if_neg (by omega)]
/-- laid anew -/
theorem relay_n {o : Obj} (ho : s.heap.get? a = some o) (hex : o.ExactSet) (hd : o.data = .set es ep t) (hrows : es.toList = srows w L) (hsz : t.place.size = es.size) (hdm : t.dummies = #[]) (hfl : es.size ≤ t.mask)
    (one : (L.map (·.1)).Nodup) (is : ∀ p ∈ L, IsN s.heap p.1 p.2) (ld : w.params.followText "set-order" = true ∨ t.led = true) (few : L.length ≤ 20000) (pos : 0 < L.length) {Q : Unit → Shared → Prop}
    (hQ : ∀ h' L' es' ep' t', Heap.SameBut a s.heap h' → SR w h' a L' es' ep' t' → L'.Perm L → Q () { s with heap := h' }) : wpAny (model P w) A (setRelay a (SetTable.grown L.length)) Q E s := by
  have hz := srows_len hrows
  have hfits : t.fits es.size = true := by
    unfold SetTable.fits SetTable.fill
    rw [hdm, Bool.and_eq_true, beq_iff_eq, decide_eq_true_eq]
    refine ⟨hsz, ?_⟩
    show t.place.size + 0 ≤ t.mask
    omega
  rw [grown4 few]
  have lim : L.length * 4 < 2 ^ 67 := Nat.lt_of_le_of_lt (Nat.mul_le_mul_right 4 few) (by decide)
  obtain ⟨m1, m2, m3⟩ := above_ok lim
  obtain ⟨t', order, e, hp, T, em, el, ed⟩ := relaid_n t (hs := es.map (·.1)) (wanted := L.length * 4) rfl m1 (by rw [Array.size_map, hz]; omega)
  rw [Array.size_map, hz] at hp
  obtain ⟨L2, r1, r2, r3⟩ := order_n L es order hrows hp
  rw [← r3] at T
  have hs2 := srows_len r1
  rw [r2.length_eq] at hs2
  rw [setRelay_eq]
  refine wpAny_bind (wpAny_setState_of ho hd hfits ?_)
  dsimp only
  refine wp_if_neg (by rw [sizeLine_eq]; omega) ?_
  try refine wpAny_bind (wpAny_pure ?_)
  rw [e]
  dsimp only
  refine wpAny_bind ?_
  refine wp_if_neg (by rw [hs2, hz]; simp) ?_
  try refine wpAny_bind (wpAny_pure ?_)
  refine wpAny_pure ?_
  dsimp only
  refine wpAny_storeSet_of ho hd ?_ (by rw [hs2, sizeLine_eq]; omega)
  have sb : Heap.SameBut a s.heap (s.heap.update a (Obj.putSet (order.filterMap (es[·]?)) t')) := Heap.SameBut.update ..
  refine hQ _ L2 (order.filterMap (es[·]?)) (ep + 1) t' sb ⟨⟨_, store_at ho hd, hex, rfl⟩, r1, T, (r2.map (·.1)).nodup_iff.mpr one, fun p hpm => isN_but (is p (r2.mem_iff.mp hpm)) ho hd sb, by rw [el]; exact ld, ?_, by rw [r2.length_eq]; exact few⟩ r2
  rw [r2.length_eq, em]
  omega
/-- what `add` does -/
theorem add_key (R : SR w s.heap a L es ep t) {x : Addr} {k : NestedKey} (hx : IsN s.heap k x) (hu : A.units + 8 < cLine) (few : L.length < 20000) {Q : Bool → Shared → Prop}
    (hQ : ∀ b h' L' es' ep' t', Heap.SameBut a s.heap h' → SR w h' a L' es' ep' t' → (k ∈ L.map (·.1) → L' = L) → (k ∉ L.map (·.1) → L'.Perm ((k, x) :: L)) → Q b { s with heap := h' }) :
    wpAny (model P w) A (setAddHashed a (.ref x) (k.hash w)) Q E s := by
  obtain ⟨o, ho, hex, hd⟩ := R.ob
  have hz := R.size
  unfold setAddHashed
  refine wpAny_holding ?_
  rw [show (100000 : Nat) = 99999 + 1 from rfl, setAddHashedIn_succ]
  refine wpAny_bind (wpAny_setState_of ho hd R.fits ?_)
  dsimp only
  refine wp_if_neg (by rw [notScan]; decide) ?_
  try refine wpAny_bind (wpAny_pure ?_)
  refine wpAny_bind (seek_all R hx hu (fun hm r _ => ?_) fun K hm hK hb => ?_)
  · dsimp only
    exact wpAny_pure (hQ false s.heap L es ep t (Heap.SameBut.refl a s.heap) R (fun _ => rfl) fun z => absurd hm z)
  · dsimp only
    refine wpAny_bind (wpAny_setState_of ho hd R.fits ?_)
    dsimp only
    obtain ⟨p, ep0⟩ : ∃ p, SetTable.below t.place (way t.mask (k.hash w) K) = p := ⟨_, rfl⟩
    obtain ⟨q1, q2, q3, q4, q5, q9⟩ := R.tab.put rfl ep0 hK hb
    generalize hpt : t.put (way t.mask (k.hash w) K) = pt at q1 q3 q4 q5 q9 ⊢
    obtain ⟨t1, p'⟩ := pt
    dsimp only at q1 q3 q4 q5 q9 ⊢
    subst q1
    have hin : (SetTable.insertAt es p' (k.hash w, Value.ref x)).toList = srows w (L.take p' ++ (k, x) :: L.drop p') := by
      rw [SetTable.toList_insertAt, srows_put, R.rows]
    have pm := put_perm L p' (k, x)
    have hlen : (L.take p' ++ (k, x) :: L.drop p').length = L.length + 1 := pm.length_eq
    have hhs : (L.map fun p => p.1.hash w).take p' ++ k.hash w :: (L.map fun p => p.1.hash w).drop p' = (L.take p' ++ (k, x) :: L.drop p').map fun p => p.1.hash w := by simp [List.map_take, List.map_drop]
    rw [hhs] at q3
    have one1 : ((L.take p' ++ (k, x) :: L.drop p').map (·.1)).Nodup := by
      refine (pm.map (·.1)).nodup_iff.mpr ?_
      exact List.nodup_cons.mpr ⟨hm, R.one⟩
    have hes := srows_len hin
    rw [hlen] at hes
    generalize SetTable.insertAt es p' (k.hash w, Value.ref x) = es1 at hin hes ⊢
    generalize L.take p' ++ (k, x) :: L.drop p' = L1 at pm hlen q3 one1 hin
    have sz1 : t1.place.size = es1.size := by
      have z := q3.ln
      rw [List.length_map, hlen] at z
      omega
    rw [List.length_map] at q9
    have room := R.room
    have go : ∀ t2 : SetTable, (t2 = t1 ∨ t2 = { t1 with plain := false }) → wpAny (model P w) A (do
        storeSet a es1 t2
        if (!false && t2.tooFull) = true then setRelay a (SetTable.grown (es.size + 1))
        return true) Q E s := by
      intro t2 ht
      have f1 : t2.place = t1.place := by rcases ht with rfl | rfl <;> rfl
      have f2 : t2.mask = t1.mask := by rcases ht with rfl | rfl <;> rfl
      have f3 : t2.led = t1.led := by rcases ht with rfl | rfl <;> rfl
      have f4 : t2.dummies = t1.dummies := by rcases ht with rfl | rfl <;> rfl
      have T2 : TabN t2 (L1.map fun p => p.1.hash w) := ⟨by rw [f1]; exact q3.rs, by rw [f4]; exact q3.dn, by rw [f1]; exact q3.ln, by rw [f2]; exact q3.pm, by rw [f1, f2]; exact q3.le, by rw [f1, f2]; exact q3.on⟩
      have fl : t2.fill = L.length + 1 := by
        unfold SetTable.fill at q9 ⊢
        rw [f1, f4]
        exact q9
      refine wpAny_bind (wpAny_storeSet_of ho hd ?_ (by rw [hes, sizeLine_eq]; omega))
      have sb : Heap.SameBut a s.heap (s.heap.update a (Obj.putSet es1 t2)) := Heap.SameBut.update ..
      have ho1 := store_at (es' := es1) (t' := t2) ho hd
      generalize s.heap.update a (Obj.putSet es1 t2) = h1 at sb ho1 ⊢
      have is1 : ∀ p ∈ L1, IsN h1 p.1 p.2 := fun p hp => by
        rcases List.mem_cons.mp (pm.mem_iff.mp hp) with rfl | hp
        · exact isN_but hx ho hd sb
        · exact isN_but (R.is p hp) ho hd sb
      have ld1 : w.params.followText "set-order" = true ∨ t2.led = true := by
        rw [f3, q5]
        exact R.led
      have done : ∀ h2 L2 es2 ep2 t3, Heap.SameBut a h1 h2 → SR w h2 a L2 es2 ep2 t3 → L2.Perm L1 → Q true { s with heap := h2 } := fun h2 L2 es2 ep2 t3 sb2 R2 pm2 =>
        hQ true h2 L2 es2 ep2 t3 (sb.trans sb2) R2 (fun z => absurd z hm) fun _ => pm2.trans pm
      by_cases hf : t2.tooFull = true
      · have e1 : es.size + 1 = L1.length := by rw [hz, hlen]
        rw [e1]
        first
          | (refine wpAny_bind ?_; refine wp_if_pos (by simp [hf]) ?_)
          | (refine wp_if_pos (by simp [hf]) ?_; refine wpAny_bind ?_)
        refine relay_n (s := { s with heap := h1 }) ho1 ⟨hex.1, hex.2.1, hex.2.2⟩ rfl hin (by rw [f1]; exact sz1) T2.dn (by rw [hes, f2, q4]; omega) one1 is1 ld1 (by omega) (by omega) ?_
        intro h2 L2 es2 ep2 t3 sb2 R2 pm2
        exact wpAny_pure (done h2 L2 es2 ep2 t3 sb2 R2 pm2)
      · first
          | refine wp_if_neg (by simp [hf]) ?_
          | (refine wpAny_bind ?_; refine wp_if_neg (by simp [hf]) ?_; refine wpAny_pure ?_)
        refine wpAny_pure (done h1 L1 es1 (ep + 1) t2 (Heap.SameBut.refl a h1) ⟨⟨_, ho1, ⟨hex.1, hex.2.1, hex.2.2⟩, rfl⟩, hin, T2, one1, is1, ld1, ?_, by omega⟩ (List.Perm.refl _))
        have z : ¬ (t2.fill * 5 ≥ t2.mask * 3) := fun z => hf (by unfold SetTable.tooFull; exact decide_eq_true z)
        rw [fl] at z
        rw [hlen]
        omega
    by_cases hpl : t1.plain = true
    · first
        | (refine wpAny_bind ?_; refine wp_if_pos hpl ?_; refine byVal_key k _ 8 s hx.1 hx.2 _ _ _ fun b => ?_)
        | refine wp_if_pos hpl (wpAny_bind (byVal_key k _ 8 s hx.1 hx.2 _ _ _ fun b => ?_))
      cases b
      · exact go _ (.inr rfl)
      · exact go _ (.inl rfl)
    · first
        | (refine wpAny_bind ?_; refine wp_if_neg hpl ?_; refine wpAny_pure ?_)
        | refine wp_if_neg hpl (wpAny_bind (wpAny_pure ?_))
      exact go _ (.inl rfl)
end
end Su
/-! ### ND2: rules over dicts whose keys are tuples of any depth: get, in, store, walks -/
namespace Su
open PySem PySem.Spec PyProof.Rows L2
def rNIn (w : World) (neg : Bool) : R2 := fun x y H Q => ∃ (b a : Addr) (kvs : List NEnt) (k : NestedKey), x = .ref b ∧ y = .ref a ∧ ND w H a kvs ∧ KeyV H k (.ref b) ∧ k.depth ≤ 8 ∧ Q (.bl (if neg = true then !(nGet kvs k).isSome else (nGet kvs k).isSome)) H
def tNGet (w : World) (td ty : TE) : TE := fun σ H Q => td σ H fun x H1 => ty σ H1 fun y H2 => ∃ (a b : Addr) (kvs : List NEnt) (k : NestedKey) (v : V), x = .ref a ∧ y = .ref b ∧ ND w H2 a kvs ∧ KeyV H2 k (.ref b) ∧ k.depth ≤ 8 ∧ nGet kvs k = some v ∧ Q v H2
def sNPut (w : World) (td ty tv : TE) : TS := fun D σ H => tv σ H fun v H1 => td σ H1 fun x H2 => ty σ H2 fun y H3 => ∃ (a b : Addr) (kvs : List NEnt) (k : NestedKey), x = .ref a ∧ y = .ref b ∧ ND w H3 a kvs ∧ KeyV H3 k (.ref b) ∧ k.depth ≤ 8 ∧ kvs.length < sizeLine ∧ D.nx σ (L2.upd H3 a (ndO w a (nPut kvs k b v)))
section
variable {X : Cx} {o i e value : Expr} {pos pos' tpos : Pos} {td ty tv : TE}
theorem op_nIn (hu : X.A.units + 9 < cLine) : OpR X (compareOp .In) (rNIn X.w false) := by
  intro pins s σ H x y v u Q I rx ry h
  obtain ⟨b, a, kvs, k, rfl, rfl, d, hk, hd, q⟩ := h
  obtain rfl : v = Value.ref b := rx
  obtain rfl : u = Value.ref a := ry
  exact n_in hu I d hk hd fun s3 I3 => ⟨.bl (nGet kvs k).isSome, H, I3, rfl, q⟩
theorem op_nNotIn (hu : X.A.units + 9 < cLine) : OpR X (compareOp .NotIn) (rNIn X.w true) := by
  intro pins s σ H x y v u Q I rx ry h
  obtain ⟨b, a, kvs, k, rfl, rfl, d, hk, hd, q⟩ := h
  obtain rfl : v = Value.ref b := rx
  obtain rfl : u = Value.ref a := ry
  exact n_notIn hu I d hk hd fun s3 I3 => ⟨.bl (!(nGet kvs k).isSome), H, I3, rfl, q⟩
theorem nd_typeIs {pins : List (Addr × Obj)} {σ : L2.St} {H : Hp} {s : Shared} {a : Addr} {kvs : List NEnt} (I : Inv X pins σ H s) (d : ND X.w H a kvs) : s.TypeIs (.ref a) "dict" := by
  obtain ⟨xs, r, dd⟩ := d.of I.hok
  exact dd.typeIs
theorem pe_nget (hu : X.A.units + 9 < cLine) (ho : PE X o td) (hi : PE X i ty) (hs : NoSl i) : PE X (.Subscript o i pos) (tNGet X.w td ty) := by
  refine ⟨fun pins s σ H Q I h => ?_⟩
  refine subD_of PySem.F.slot_dict_getitem.lookup hs (thn (ho.run pins s σ H _ I h) fun u s1 ⟨x, H1, I1, rx, q1⟩ => thn (hi.run pins s1 σ H1 _ I1 q1) fun iv s2 ⟨y, H2, I2, ry, a, b, kvs, k, v, ex, ey, d, hk, hd, g, q2⟩ => ?_)
  subst ex ey
  obtain rfl : u = Value.ref a := rx
  obtain rfl : iv = Value.ref b := ry
  exact ⟨nd_typeIs I2 d, n_getItem hu I2 d hk hd g fun w' s3 I3 rw' => ⟨v, H2, I3, rw', q2⟩⟩
theorem ps_nput (hu : X.A.units + 9 < cLine) (ho : PE X o td) (hi : PE X i ty) (hv : PE X value tv) (hs : swapsWith value (some (.Subscript o i pos')) pos.line X.env = pure false) :
    PS X (.Assign [.Subscript o i pos'] value pos) (sNPut X.w td ty tv) := by
  refine ⟨fun pins s σ H D I h => ?_⟩
  refine wpAny_Assign_Subscript (thn (hv.run pins s σ H _ I h) fun r s1 ⟨v, H1, I1, rv, q1⟩ => thn (ho.run pins s1 σ H1 _ I1 q1) fun u s2 ⟨x, H2, I2, rx, q2⟩ => thn (hi.run pins s2 σ H2 _ I2 q2) fun iv s3 ⟨y, H3, I3, ry, a, b, kvs, k, ex, ey, d, hk, hd, hl, q3⟩ => ?_) hs
  subst ex ey
  obtain rfl : u = Value.ref a := rx
  obtain rfl : iv = Value.ref b := ry
  exact n_setItem hu I3 d hk hd hl rv fun s4 I4 => ⟨σ, _, I4, q3⟩
end
/-! walks over a dict that is locked -/
def NDL (w : World) (H : Hp) (d : Addr) (o : Obj) (kvs : List NEnt) : Prop := H d = some (.frz o (ndO w d kvs)) ∨ (kvs = [] ∧ H d = some (.frz o (.dK [])))
theorem inv_frzN {X : Cx} {pins : List (Addr × Obj)} {σ : L2.St} {H : Hp} {s : Shared} {d : Addr} {o : Obj} {kvs : List NEnt} (I : Inv X pins σ H s) (h : NDL X.w H d o kvs) :
    s.heap.get? d = some o ∧ o.ExactDict ∧ ∃ (es : Array DictEntry) (ep : Nat), o.data = .dict es ep ∧ es.size = kvs.length ∧ ∀ (i : Nat) (e : NEnt), kvs[i]? = some e → ∃ en : DictEntry, es[i]? = some en ∧ en.key = .ref e.2.1 := by
  rcases h with h | ⟨rfl, h⟩
  · obtain ⟨hd, ⟨xs, o', es, ep, r, ho, hx, hdt, he⟩, _⟩ := I.hok d _ h
    rw [hd] at ho
    cases ho
    refine ⟨hd, hx, es, ep, hdt, ?_, fun i e ei => ?_⟩
    · have l2 : kvs.length = xs.length := Paired.length r
      rw [← Array.length_toList, he, List.length_map, l2]
    · obtain ⟨b, hb, e1, e2, _⟩ := paired_get r ei
      refine ⟨⟨b.1.hash X.w, .ref b.2.1, b.2.2⟩, ?_, ?_⟩
      · rw [← Array.getElem?_toList, he, List.getElem?_map, hb]
        rfl
      · show Value.ref b.2.1 = Value.ref e.2.1
        rw [e2]
  · obtain ⟨hd, z, hs, vs, kv, o', es, ep, ho, hx, hdt, r⟩ := I.hok d _ h
    rw [hd] at ho
    cases ho
    cases kv
    refine ⟨hd, hx, es, ep, hdt, ?_, fun i e ei => by simp at ei⟩
    have l1 := r.2.1.length
    rw [Array.length_toList] at l1
    simpa using l1
def Itn (w : World) (d : Addr) (o : Obj) (kvs : List NEnt) : It :=
  ⟨fun i H => NDL w H d o kvs ∧ i < kvs.length, fun i H x H' => H' = H ∧ ∃ e : NEnt, kvs[i]? = some e ∧ x = .ref e.2.1, fun i H => NDL w H d o kvs ∧ kvs.length ≤ i⟩
section
variable {P : Program} {w : World} {K : PySem.W.Frag} {tg : Expr} {d : Addr} {o : Obj} {es : Array DictEntry} {ep : Nat}
theorem turn_keysN {kvs : List NEnt} (it : Addr) (hod : o.data = .dict es ep) : Turn P w K tg (Itn w d o kvs) [it] it (fun i h => h.IsKeyIter it d i kvs.length ep) where
  mem := by simp
  obj := fun i h st b hb => by
    have e : b = it := by simpa using hb
    subst e
    obtain ⟨oi, e, c, dd⟩ := st
    exact ⟨oi, e, fun v z => by rw [dd] at z; cases z⟩
  keep := fun i h h' st k => st.at fun oi e => k it (by simp) oi e
  item := by
    intro X hP hw hK hc i pins s σ H E I hf st hg
    subst hP hw hK
    obtain ⟨hd, hi⟩ := hg
    obtain ⟨f0, f1, f2, f3, f4, f5⟩ := hf it (by simp)
    obtain ⟨hgd, hx, es', ep', hdt, hsz, ent⟩ := inv_frzN I hd
    obtain ⟨rfl, rfl⟩ := dict_ep hod hdt
    obtain ⟨e, hkv⟩ : ∃ p, kvs[i]? = some p := ⟨kvs[i], List.getElem?_eq_getElem hi⟩
    obtain ⟨en, hen, hkey⟩ := ent i e hkv
    refine next_key_item st hgd hdt hsz hen fun h' st' sb => ?_
    have I1 : Inv X pins σ H { s with heap := h' } := I.turned (t' := s.toks) (fun b ob hb e => (sb.2 b hb).trans e) f0 f1 f3 f4 f5
    obtain ⟨oi, e1, c, dd⟩ := id st'
    exact ⟨en.key, rfl, go_of (s := { s with heap := h' }) e1 c dd (by decide) ⟨.ref e.2.1, H, I1, hkey, ⟨rfl, e, hkv, rfl⟩, st', fun b hb => (hf b hb).1⟩⟩
  done := by
    intro X hP hw hK hc i pins s σ H E I hf st hg
    subst hP hw hK
    obtain ⟨hd, hi⟩ := hg
    obtain ⟨f0, f1, f2, f3, f4, f5⟩ := hf it (by simp)
    obtain ⟨hgd, hx, es', ep', hdt, hsz, ent⟩ := inv_frzN I hd
    obtain ⟨rfl, rfl⟩ := dict_ep hod hdt
    exact next_key_end (I.ok.hd hc) st hgd hdt hsz hi fun h' eb => ⟨rfl, I.turned (t' := s.toks) (fun b ob hb e => eb b ob hb e) f0 f1 f3 f4 f5⟩
  self := fun A i s Q E st h => wpAny_pyIter_keyiter st h
end
/-- the dict is locked -/
def iNKeys (w : World) (td : TE) : TI := fun σ H R => td σ H fun x H1 => ∃ (d : Addr) (o : Obj) (kvs : List NEnt), x = .ref d ∧ (d == sysModules) = false ∧ NDL w H1 d o kvs ∧ R (Itn w d o kvs) H1
theorem pi_nkeys {X : Cx} {tg e : Expr} {td : TE} (he : PE X e td) : PI X tg e (iNKeys X.w td) := by
  refine ⟨fun pins s σ H R I h => ?_⟩
  refine thn (he.run pins s σ H _ I h) fun u s1 ⟨x, H1, I1, rx, d, o, kvs, ex, hs, hd, q⟩ => ?_
  subst ex
  obtain rfl : u = Value.ref d := rx
  obtain ⟨hgd, hx, es, ep, hdt, hsz, ent⟩ := inv_frzN I1 hd
  refine iter_keys hs hgd hx hdt (pi_one (tk := s1.toks) I1 _ (turn_keysN _ hdt) ⟨_, Heap.get?_push_size _ rfl, rfl, ?_⟩ q)
  rw [hsz] <;> rfl
theorem walk_keysN {w : World} {d : Addr} {o : Obj} {kvs : List NEnt} : Walk (Itn w d o kvs) kvs.length (fun H => NDL w H d o kvs) (fun i H x H' => H' = H ∧ ∃ e : NEnt, kvs[i]? = some e ∧ x = .ref e.2.1) :=
  ⟨fun _ _ hi q => ⟨q, hi⟩, fun _ q => ⟨q, Nat.le_refl _⟩, fun _ _ _ _ _ _ y => y⟩
end Su
/-! ### SN2: sets of tuples of any depth: set(), s.add(x), x in s, x not in s, len(s) -/
namespace Su
open PySem PySem.Spec PyProof.Rows L2
/-- all of a set but its tuples -/
def SRO (w : World) (h : Heap) (a : Addr) (L : List SRow) : Prop := ∃ (es : Array (Int × Value)) (ep : Nat) (t : SetTable), (∃ o, h.get? a = some o ∧ o.ExactSet ∧ o.data = .set es ep t) ∧ es.toList = srows w L ∧ TabN t (L.map fun p => p.1.hash w) ∧
  (w.params.followText "set-order" = true ∨ t.led = true) ∧ L.length * 5 < t.mask * 3
def nsO (w : World) (a : Addr) (L : List SRow) : HO := .ext fun h => ∃ L', L'.Perm L ∧ SRO w h a L'
/-- a set of such keys -/
structure NS (w : World) (H : Hp) (a : Addr) (L : List SRow) : Prop where
  at_ : H a = some (nsO w a L)
  few : L.length ≤ 20000
  keys : ∀ e ∈ L, KeyV H e.1 (.ref e.2) ∧ e.1.depth ≤ 8
  one : (L.map (·.1)).Nodup
def nsHas (L : List SRow) (k : NestedKey) : Bool := (L.map (·.1)).contains k
def nsPut (L : List SRow) (k : NestedKey) (b : Addr) : List SRow := if nsHas L k = true then L else L ++ [(k, b)]
theorem nsHas_iff {L : List SRow} {k : NestedKey} : nsHas L k = true ↔ k ∈ L.map (·.1) := List.contains_iff_mem
section
variable {P : Program} {w : World} {H : Hp} {h : Heap} {a : Addr} {L : List SRow}
theorem NS.sr (ok : HOk P w H h) (d : NS w H a L) : ∃ L' es ep t, L'.Perm L ∧ SR w h a L' es ep t := by
  obtain ⟨⟨L', pm, es, ep, t, ob, rows, tab, led, room⟩, _⟩ := (show ObjOk P w H h a (nsO w a L) from ok a _ d.at_)
  refine ⟨L', es, ep, t, pm, ob, rows, tab, (pm.map (·.1)).nodup_iff.mpr d.one, fun p hp => ?_, led, room, by rw [pm.length_eq]; exact d.few⟩
  obtain ⟨k1, k2⟩ := d.keys p (pm.mem_iff.mp hp)
  exact ⟨k1.is ok rfl, k2⟩
theorem ns_obj {H' : Hp} {L' : List SRow} {es : Array (Int × Value)} {ep : Nat} {t : SetTable} (R : SR w h a L' es ep t) (pm : L'.Perm L) : ObjOk P w H' h a (nsO w a L) := by
  obtain ⟨o, ho, r⟩ := R.ob
  refine ⟨⟨L', pm, es, ep, t, ⟨o, ho, r⟩, R.rows, R.tab, R.led, R.room⟩, ⟨o, ho⟩, fun g1 g2 ⟨L2, pm2, es2, ep2, t2, ⟨o2, ho2, r2⟩, q⟩ k => ⟨L2, pm2, es2, ep2, t2, ⟨o2, k _ ho2, r2⟩, q⟩⟩
end
theorem NS.k2 {w : World} {H : Hp} {a : Addr} {L : List SRow} (d : NS w H a L) (u : HO) : K2 H (L2.upd H a u) := K2.upd d.at_ (fun _ z => nomatch z) (fun _ _ z => nomatch z)
theorem NS.keep {w : World} {H H' : Hp} {a : Addr} {L : List SRow} (d : NS w H a L) (k2 : K2 H H') (e : H' a = H a) : NS w H' a L :=
  ⟨by rw [e]; exact d.at_, d.few, fun x hx => ⟨(d.keys x hx).1.keep k2, (d.keys x hx).2⟩, d.one⟩
theorem NS.same {w : World} {H H' : Hp} {a : Addr} {L : List SRow} (d : NS w H a L) (s : Same H H') : NS w H' a L := d.keep (K2.same s) (by rw [d.at_, s _ _ d.at_])
theorem nsPut_len (L : List SRow) (k : NestedKey) (b : Addr) : (nsPut L k b).length ≤ L.length + 1 := by
  unfold nsPut
  split
  · omega
  · simp
theorem NS.put {w : World} {H : Hp} {a b : Addr} {L : List SRow} {k : NestedKey} (d : NS w H a L) (hk : KeyV H k (.ref b)) (hd : k.depth ≤ 8) (hl : L.length < 20000) : NS w (L2.upd H a (nsO w a (nsPut L k b))) a (nsPut L k b) := by
  have k2 := d.k2 (nsO w a (nsPut L k b))
  refine ⟨upd_same, Nat.le_trans (nsPut_len L k b) hl, fun e he => ?_, ?_⟩
  · have old : ∀ e ∈ L, KeyV (L2.upd H a (nsO w a (nsPut L k b))) e.1 (.ref e.2) ∧ e.1.depth ≤ 8 := fun e z => ⟨(d.keys e z).1.keep k2, (d.keys e z).2⟩
    generalize L2.upd H a (nsO w a (nsPut L k b)) = H' at k2 old
    unfold nsPut at he
    split at he
    · exact old e he
    · rcases List.mem_append.mp he with he | he
      · exact old e he
      · rw [List.mem_singleton.mp he]
        exact ⟨hk.keep k2, hd⟩
  · unfold nsPut
    split
    · exact d.one
    · rename_i c
      rw [List.map_append, List.nodup_append]
      refine ⟨d.one, List.nodup_cons.mpr ⟨List.not_mem_nil, List.nodup_nil⟩, fun x hx y hy => ?_⟩
      rw [List.mem_singleton.mp hy]
      rintro rfl
      exact c (nsHas_iff.mpr hx)
theorem nsPut_has {L : List SRow} {k : NestedKey} {b : Addr} {j : NestedKey} : j ∈ (nsPut L k b).map (·.1) ↔ j ∈ L.map (·.1) ∨ j = k := by
  unfold nsPut
  split
  · rename_i c
    exact ⟨.inl, fun z => z.elim id fun z => z ▸ nsHas_iff.mp c⟩
  · rw [List.map_append, List.mem_append]
    simp
/-! the rules -/
section
variable {X : Cx} {pins : List (Addr × Obj)} {σ : L2.St} {H : Hp} {s : Shared} {a b : Addr} {L : List SRow} {k : NestedKey} {A : Around} {E : Value → Shared → Prop}
theorem sr_type {w : World} {h : Heap} {es : Array (Int × Value)} {ep : Nat} {t : SetTable} {s : Shared} (R : SR w s.heap a L es ep t) : s.TypeIs (.ref a) "set" := let ⟨o, ho, hx, _⟩ := R.ob; ⟨o, ho, hx.1⟩
theorem sr_noDict {w : World} {s : Shared} {es : Array (Int × Value)} {ep : Nat} {t : SetTable} (R : SR w s.heap a L es ep t) : ∀ b, Value.ref a = .ref b → ∃ ob, s.heap.get? b = some ob ∧ ob.dict = none := fun b e => by
  injection e with e
  subst e
  obtain ⟨o, ho, hx, _⟩ := R.ob
  exact ⟨o, ho, hx.2.1⟩
theorem contains_n {P : Program} {w : World} {s : Shared} {es : Array (Int × Value)} {ep : Nat} {t : SetTable} {Q : Bool → Shared → Prop} (hu : A.units + 12 < cLine) (R : SR w s.heap a L es ep t) (hk : IsN s.heap k b) (h : Q (nsHas L k) { s with toks := s.toks + k.draws }) :
    wpAny (model P w) A (contains (.ref a) (.ref b)) Q E s := by
  have tT := sr_type (h := s.heap) R
  unfold contains
  try with_reducible refine wpAny_holding ?_
  refine wpAny_bind (wpAny_specialOf tT F.slot_set_contains.lookup ?_)
  show wpAny _ _ (if (some (Value.builtin "set.__contains__") == some Value.none) = true then _ else _) _ E s
  rw [if_neg (by rw [beq_builtin_none]; exact Bool.false_ne_true)]
  refine wpAny_bind (wpAny_callSpecialUnlessNone?_slot (name := Str.ofString "__contains__") tT F.slot_set_contains (wpAny_call_entry F.slot_set_contains tT entry_set_contains ?_ (F.args_set_contains_2 _ _)))
  unfold Builtin.«frozenset.__contains__» Builtin.Frozenset.oneOther
  simp only [List.isEmpty_nil, bind_assoc]
  unfold Builtin.Frozenset.addrOf Builtin.Frozenset.withSetAsKey setContains
  refine wpAny_bind (wpAny_pure ?_)
  try dsimp only
  refine wpAny_bind (wpAny_pure ?_)
  try dsimp only
  refine wpAny_bind (wpAny_tryCatch ?_)
  refine wpAny_holding ?_
  refine wpAny_bind (pyHash_key k _ _ s _ hk.1 (by have := hk.2; simp only [Around.in1_units]; omega) ?_)
  have R2 : SR w ({ s with toks := s.toks + k.draws } : Shared).heap a L es ep t := R
  refine wpAny_bind (find_key (s := { s with toks := s.toks + k.draws }) R2 hk (by simp only [Around.in1_units]; omega) fun r hr => ?_)
  refine wpAny_pure ?_
  show wpAny _ _ (ret (Value.bool r.isSome)) _ _ _
  rw [hr]
  exact wpAny_pure ⟨_, rfl, wpAny_truthy_bool h⟩
theorem add_n {P : Program} {w : World} {s : Shared} {es : Array (Int × Value)} {ep : Nat} {t : SetTable} {Q : Value → Shared → Prop} (hu : A.units + 12 < cLine) (R : SR w s.heap a L es ep t) (hk : IsN s.heap k b) (few : L.length < 20000)
    (h : ∀ h' L' es' ep' t', Heap.SameBut a s.heap h' → SR w h' a L' es' ep' t' → L'.Perm (nsPut L k b) → Q .none { s with heap := h', toks := s.toks + k.draws }) :
    wpAny (model P w) A (call (.builtin "set.add") [.ref a, .ref b]) Q E s := by
  refine wpAny_call_entry F.slot_set_add (sr_type (h := s.heap) R) F.entry_set_add ?_ (F.args_set_add_2 _ _)
  unfold Builtin.«set.add» Builtin.Frozenset.oneOther
  simp only [List.isEmpty_nil, bind_assoc]
  unfold Builtin.Frozenset.addrOf setAdd
  refine wpAny_bind (wpAny_pure ?_)
  try dsimp only
  refine wpAny_bind (wpAny_pure ?_)
  try dsimp only
  refine wpAny_bind ?_
  refine wpAny_holding ?_
  refine wpAny_bind (pyHash_key k _ _ s _ hk.1 (by have := hk.2; simp only [Around.in1_units]; omega) ?_)
  have R2 : SR w ({ s with toks := s.toks + k.draws } : Shared).heap a L es ep t := R
  refine add_key (s := { s with toks := s.toks + k.draws }) R2 hk (by simp only [Around.in1_units]; omega) few fun r h' L' es' ep' t' sb R' c1 c2 => ?_
  show wpAny _ _ (ret Value.none) _ _ _
  refine wpAny_pure ⟨_, rfl, h h' L' es' ep' t' sb R' ?_⟩
  unfold nsPut
  split
  · rename_i c
    rw [c1 (nsHas_iff.mp c)]
  · rename_i c
    exact (c2 fun z => c (nsHas_iff.mpr z)).trans (List.perm_append_singleton _ _).symm
end
/-- x in s, x not in s -/
def rSInN (w : World) (neg : Bool) : R2 := fun x y H Q => ∃ (b a : Addr) (L : List SRow) (k : NestedKey), x = .ref b ∧ y = .ref a ∧ NS w H a L ∧ KeyV H k (.ref b) ∧ k.depth ≤ 8 ∧ Q (.bl (if neg = true then !nsHas L k else nsHas L k)) H
def rSet0N (w : World) : List V → Hp → VK → Prop := fun xs H Q => xs = [] ∧ ∀ p H', Same H H' → H p = none → NS w H' p [] → Q (.ref p) H'
def rSAddN (w : World) : V → List V → Hp → VK → Prop := fun x xs H Q => ∃ (a b : Addr) (L : List SRow) (k : NestedKey), x = .ref a ∧ xs = [.ref b] ∧ NS w H a L ∧ KeyV H k (.ref b) ∧ k.depth ≤ 8 ∧ L.length < 20000 ∧ Q .non (L2.upd H a (nsO w a (nsPut L k b)))
def tSAddN (w : World) (to : TE) (t : TA) : TE := fun σ H Q => to σ H fun x H1 => (∃ a L, x = .ref a ∧ NS w H1 a L) ∧ t σ H1 fun xs H2 => rSAddN w x xs H2 Q
section
variable {X : Cx}
theorem nsHas_perm {L L' : List SRow} (pm : L'.Perm L) (k : NestedKey) : nsHas L' k = nsHas L k := by
  have e : nsHas L' k = true ↔ nsHas L k = true := by rw [nsHas_iff, nsHas_iff, (pm.map (·.1)).mem_iff]
  cases z : nsHas L' k with
  | true => exact (e.mp z).symm
  | false =>
    cases z2 : nsHas L k with
    | false => rfl
    | true => rw [e.mpr z2] at z; cases z
theorem or_sInN (hu : X.A.units + 12 < cLine) : OpR X (compareOp .In) (rSInN X.w false) := by
  intro pins s σ H x y v u Q I rx ry h
  obtain ⟨b, a, L, k, rfl, rfl, d, hk, hd, q⟩ := h
  obtain rfl : v = Value.ref b := rx
  obtain rfl : u = Value.ref a := ry
  obtain ⟨L', es, ep, t, pm, R⟩ := d.sr I.hok
  show wpAny _ _ (contains (.ref a) (.ref b) >>= fun r => pure (Value.bool r)) _ _ _
  refine wpAny_bind (contains_n hu R ⟨hk.is I.hok rfl, hd⟩ (wpAny_pure ⟨.bl (nsHas L k), H, I.tok _, ?_, q⟩))
  rw [nsHas_perm pm]
  rfl
theorem or_sNotInN (hu : X.A.units + 12 < cLine) : OpR X (compareOp .NotIn) (rSInN X.w true) := by
  intro pins s σ H x y v u Q I rx ry h
  obtain ⟨b, a, L, k, rfl, rfl, d, hk, hd, q⟩ := h
  obtain rfl : v = Value.ref b := rx
  obtain rfl : u = Value.ref a := ry
  obtain ⟨L', es, ep, t, pm, R⟩ := d.sr I.hok
  show wpAny _ _ (contains (.ref a) (.ref b) >>= fun r => pure (Value.bool (!r))) _ _ _
  refine wpAny_bind (contains_n hu R ⟨hk.is I.hok rfl, hd⟩ (wpAny_pure ⟨.bl (!nsHas L k), H, I.tok _, ?_, q⟩))
  rw [nsHas_perm pm]
  rfl
theorem sr_fresh {w : World} {h : Heap} {a : Addr} (ho : h.get? a = some { cls := .type "set", dict := none, data := .set #[] 0 (.fresh 0 0 (!w.params.followText "set-order")) }) : SR w h a [] #[] 0 (.fresh 0 0 (!w.params.followText "set-order")) where
  ob := ⟨_, ho, ⟨rfl, rfl, rfl⟩, rfl⟩
  rows := rfl
  tab := ⟨List.Pairwise.nil, rfl, rfl, ⟨3, Nat.le_refl _, rfl⟩, (fun x hx => nomatch hx), fun i h j hi => (by simp at hi)⟩
  one := List.nodup_nil
  is := fun p hp => nomatch hp
  led := by
    show _ ∨ (!w.params.followText "set-order") = true
    cases w.params.followText "set-order"
    · exact .inr rfl
    · exact .inl rfl
  room := by show 0 * 5 < 7 * 3; decide
  few := Nat.zero_le _
theorem cr_set0N : CallR X (.type "set") (rSet0N X.w) := by
  intro pins s σ H xs us Q I r h
  obtain ⟨rfl, q⟩ := h
  cases r
  refine setR_new fun _ => ?_
  have nw := sr_fresh (w := X.w) (h := s.heap.push { cls := .type "set", dict := none, data := .set #[] 0 (.fresh 0 0 (!X.w.params.followText "set-order")) }) (a := s.heap.objs.size) (Heap.get?_push_size _ rfl)
  have fr := I.hok.fresh (Nat.le_refl s.heap.objs.size)
  exact ⟨.ref _, L2.upd H s.heap.objs.size (nsO X.w s.heap.objs.size []), I.laid (t' := s.toks) (fun b u e => Heap.get?_push_of_some _ e) (Nat.le_refl _) (ns_obj nw (List.Perm.refl _)), rfl, q _ _ (same_upd fr) fr ⟨upd_same, Nat.zero_le _, (fun e he => nomatch he), List.nodup_nil⟩⟩
theorem mt_sAddN (hu : X.A.units + 12 < cLine) : MtR X "set.add" (rSAddN X.w) := by
  intro pins s σ H x xs v us Q I rx rxs h
  obtain ⟨a, b, L, k, rfl, rfl, d, hk, hd, few, q⟩ := h
  cases rx
  cases rxs with
  | cons ry rt =>
    cases rt
    cases ry
    obtain ⟨L', es, ep, t, pm, R⟩ := d.sr I.hok
    refine add_n hu R ⟨hk.is I.hok rfl, hd⟩ (by rw [pm.length_eq]; exact few) fun h' L3 es2 ep2 t2 sb R2 pm2 => ?_
    have he : ∃ u, h'.get? a = some u := let ⟨o, ho, _⟩ := R2.ob; ⟨o, ho⟩
    have pm3 : L3.Perm (nsPut L k b) := by
      refine pm2.trans ?_
      unfold nsPut
      rw [nsHas_perm pm]
      split
      · exact pm
      · exact pm.append (List.Perm.refl _)
    exact ⟨.non, L2.upd H a (nsO X.w a (nsPut L k b)), I.write (e := a) (t' := s.toks + k.draws) (by rw [d.at_]; trivial) (.inl rfl) (fun c u hc hu => (sb.2 c hc).trans hu) he (ns_obj R2 pm3), rfl, q⟩
variable {o e : Expr} {es : List Expr} {to : TE} {t : TA} {apos cpos : Pos}
theorem pe_sAddN (hu : X.A.units + 12 < cLine) (ho : PE X o to) (ha : PA X (e :: es) t)
    (hbase : attributeBase o "add" X.env (eval o X.env) = eval o X.env := by rfl)
    (hfew : ((backTo cpos (starEach (e :: es) X.env)).all (fun x => !x.1) && (backToKw cpos (keywordEach [] X.env)).all (fun x => x.1.isSome) && decide ((e :: es).length + ([] : List Keyword).length + (if ([] : List Keyword).isEmpty then 0 else 1) < 30)) = true := by rfl)
    (hline : (apos.endLine == cpos.line) = true := by rfl) (hs : starEach (e :: es) X.env = (false, eval e X.env) :: starEach es X.env := by rfl) (hpl : (backTo cpos (starEach es X.env)).any (·.1) = false := by rfl) :
    PE X (.Call (.Attribute o "add" apos) (e :: es) [] cpos) (tSAddN X.w to t) := by
  refine ⟨fun pins s σ H Q I h => ?_⟩
  refine wpAny_Call_method_late hbase hfew hline rfl (thn (ho.run pins s σ H _ I h) fun v s1 ⟨x, H1, I1, r1, ty, q1⟩ => ?_)
  obtain ⟨a, L, rfl, d⟩ := ty
  obtain ⟨L', es', ep, t', pm, R⟩ := d.sr I1.hok
  cases r1
  refine ⟨"set", "set.add", F.plainAttrs_set, F.slot_set_add, F.type_set_add, sr_type (h := s1.heap) R, sr_noDict R, ?_⟩
  have hA := ha.run cpos pins s1 σ H1 _ I1 q1
  rw [hs] at hA ⊢
  refine Calls.callWith_builtin (by show (false || (backTo cpos (starEach es X.env)).any (·.1)) = false; rw [hpl]; rfl) (Calls.evalArgs_plain ?_)
  exact thn hA fun us s2 ⟨vs, H2, I2, r2, q2⟩ => mt_sAddN hu pins s2 σ H2 (.ref a) vs (.ref a) us Q I2 rfl r2 q2
/-- len(s) -/
def rLenNS (w : World) : List V → Hp → VK → Prop := fun xs H Q => ∃ a L, xs = [.ref a] ∧ NS w H a L ∧ Q (.int L.length) H
theorem cr_lenNS : CallR X (.builtin "len") (rLenNS X.w) := by
  intro pins s σ H xs us Q I r h
  obtain ⟨a, L, rfl, d, q⟩ := h
  rw [Vals.ref1 r]
  obtain ⟨L', es, ep, t, pm, R⟩ := d.sr I.hok
  obtain ⟨o, ho, hex, hd⟩ := R.ob
  have hz : es.size = L.length := by rw [R.size, pm.length_eq]
  have := d.few
  exact call_len_set ho hex hd R.fits (by rw [hz]; omega) ⟨.int L.length, H, I.tok _, ⟨_, by rw [hz]⟩, q⟩
end
end Su
/-! ### ND3: len(d), list(d) of a dict whose keys are tuples of any depth -/
namespace Su
open PySem PySem.Spec PyProof.Rows L2
def rLenND (w : World) : List V → Hp → VK → Prop := fun xs H Q => ∃ (a : Addr) (kvs : List NEnt), xs = [.ref a] ∧ ND w H a kvs ∧ Q (.int (kvs.length : Nat)) H
def rListND (w : World) : List V → Hp → VK → Prop := fun xs H Q => ∃ (a : Addr) (kvs : List NEnt), xs = [.ref a] ∧ ND w H a kvs ∧ ∀ p, H p = none → Q (.ref p) (L2.upd H p (.lst (kvs.map fun e => V.ref e.2.1)))
theorem keys_vals : ∀ {kvs : List NEnt} {us : List Value}, us = kvs.map (fun e => Value.ref e.2.1) → Vals (kvs.map fun e => V.ref e.2.1) us
  | [], _, rfl => .nil
  | e :: kvs, _, rfl => .cons rfl (keys_vals rfl)
section
variable {X : Cx}
theorem cr_lenND : CallR X (.builtin "len") (rLenND X.w) := by
  intro pins s σ H xs us Q I r h
  obtain ⟨a, kvs, rfl, d, q⟩ := h
  rw [Vals.ref1 r]
  obtain ⟨ys, rel, dd⟩ := d.of I.hok
  have hl : kvs.length = ys.length := Paired.length rel
  have z := d.few
  refine call_len_dictH d.low dd (by rw [← hl]; rw [sizeLine_eq] at z; omega) ?_
  rw [← hl]
  exact ⟨.int ((kvs.length : Nat) : Int), H, I.tok _, ⟨_, rfl⟩, q⟩
theorem cr_listND (hc : X.calm = true) : CallR X (.type "list") (rListND X.w) := by
  intro pins s σ H xs us Q I r h
  obtain ⟨a, kvs, rfl, d, q⟩ := h
  rw [Vals.ref1 r]
  obtain ⟨ys, rel, o, es, ep, ho, hx, hd, he, _, _⟩ := d.of I.hok
  have hl : kvs.length = ys.length := Paired.length rel
  have hz : es.size = kvs.length := by
    rw [← Array.length_toList, he, List.length_map, hl]
  have few := d.few
  refine PySem.W.kdl_call (KdlSrc.rawDict d.low (es := es) (ep := ep)) (I.ok.hd hc) ⟨o, ho, hx, hd⟩ (by omega) fun h' tk acc c' hk hD hacc => ?_
  have ev : acc.toList = kvs.map (fun e => Value.ref e.2.1) := by
    refine List.ext_getElem? fun i => ?_
    have h1 : acc.size = kvs.length := by rw [hacc.1, hz]
    by_cases lt : i < kvs.length
    · obtain ⟨e, ei⟩ : ∃ e, kvs[i]? = some e := ⟨_, List.getElem?_eq_getElem lt⟩
      obtain ⟨b, hb, e1, e2, _⟩ := paired_get rel ei
      obtain ⟨v, hv⟩ : ∃ v, acc[i]? = some v := ⟨_, Array.getElem?_eq_getElem (by omega)⟩
      obtain ⟨hi, ek⟩ := hacc.2 i v hv
      have ent : es[i]? = some ⟨b.1.hash X.w, .ref b.2.1, b.2.2⟩ := by
        rw [← Array.getElem?_toList, he, List.getElem?_map, hb]
        rfl
      rw [Array.getElem?_eq_getElem hi] at ent
      injection ent with ent
      rw [Array.getElem?_toList, hv, List.getElem?_map, ei, ek, ent, ← e2]
      rfl
    · rw [List.getElem?_eq_none (by rw [Array.length_toList]; omega), List.getElem?_eq_none (by rw [List.length_map]; omega)]
  have hv : Vals (kvs.map fun e => V.ref e.2.1) acc.toList := keys_vals ev
  refine ⟨.ref s.heap.objs.size, L2.upd H s.heap.objs.size (.lst (kvs.map fun e => V.ref e.2.1)), I.laid (t' := tk) hk (Nat.le_refl _) ⟨by rw [List.length_map]; exact few, acc.toList, c', hv, by rw [Array.toArray_toList]; exact hD⟩, rfl, q _ (I.hok.fresh (Nat.le_refl _))⟩
end
end Su
/-! ### DCN: dict comprehensions whose keys are tuples of any depth; a dict of such keys as a list -/
namespace Su
open PySem PySem.Spec PyProof.Rows L2
abbrev dc1 (k v a b : Expr) (sp : Scope) (po : Pos) : Expr := .DictComp k v [⟨a, b, [], 0⟩] sp po
theorem n_dictSet {X : Cx} {pins : List (Addr × Obj)} {σ : L2.St} {H : Hp} {s : Shared} {a b : Addr} {kvs : List NEnt} {k : NestedKey} {A : Around} {E : Value → Shared → Prop} {v : V} {u : Value} {Q : Unit → Shared → Prop} (hu : A.units + 9 < cLine) (I : Inv X pins σ H s) (d : ND X.w H a kvs)
    (hk : KeyV H k (.ref b)) (hd : k.depth ≤ 8) (hl : kvs.length < sizeLine) (rv : RelV v u) (h : ∀ s', Inv X pins σ (L2.upd H a (ndO X.w a (nPut kvs k b v))) s' → Q () s') : wpAny (model X.prog X.w) A (dictSet a (.ref b) u) Q E s := by
  obtain ⟨xs, r, dd⟩ := d.of I.hok
  have hz : xs.length ≤ sizeLine := by
    rw [← Paired.length r]
    exact d.few
  refine wpAny_dictSet_heap (knd := nestedKind X.prog X.w) (hsz := hz) (by show A.units + 8 < cLine; omega) ⟨hk.is I.hok rfl, hd⟩ dd fun h' dd' hs => h _ ?_
  have he : ∃ q, h'.get? a = some q := let ⟨q, _, _, hq, _⟩ := dd'; ⟨q, hq⟩
  have mu : Mut (H a) := by
    rcases d.at_ with e | ⟨_, e⟩
    · rw [e]; exact True.intro
    · rw [e]; exact True.intro
  exact d_write I mu hs he (nd_obj (r.put k b rv) dd')
section
variable {X : Cx}
/-- what the comprehension asks: in each turn of the walk a value is put at a key -/
def tDcN (w : World) (wo : TI) (go : TG) (tk tv : TE) (vs : List Nat) : TE := fun σ H Q => wo σ H fun J H1 => ∀ D, H1 D = none → (D == sysModules) = false →
  ∃ W : Nat → Nat → Hp → Prop, (∃ m, W 0 m (upd H1 D (.dK []))) ∧ ∀ i m H, W i m H →
    (J.stop i H ∧ Q (.ref D) H) ∨
    (J.go i H ∧ ∃ Nx : Hp → Prop, (∀ H', Nx H' → ∃ m', m' < m ∧ W (i + 1) m' H') ∧ ∀ x H', J.yld i H x H' → go x (wipe σ vs) H' fun σ2 H2 => wipe σ2 vs = wipe σ vs ∧
      tk σ2 H2 fun y H4 => tv σ2 H4 fun z H5 => ∃ (b : Addr) (kvs : List NEnt) (k : NestedKey), y = .ref b ∧ ND w H5 D kvs ∧ KeyV H5 k (.ref b) ∧ k.depth ≤ 8 ∧ kvs.length < sizeLine ∧ Nx (L2.upd H5 D (ndO w D (nPut kvs k b z))))
theorem dcN_core {pins : List (Addr × Obj)} {s : Shared} {σ : L2.St} {H : Hp} {Q : VK} {use : Option (Value → Sem Unit)} {Qf : Value → Shared → Prop} {po : Pos} {ke ve a b : Expr} {sp : Scope} {own : List (Str × Nat)} {pos : Pos} {wo : TI} {go : TG} {tk tv : TE} (hu : X.A.units + 9 < cLine) (hc : X.calm = true) (hN : X.N.Nodup) (pio : PI X a b wo)
    (ok : BlkOk X.N X.env.scope sp own)
    (pgo : ∀ (s : Shared) (H : Hp) (C : Addr) (cl : List (Str × Addr)) (fp : List Addr), PG (X.blk s H sp (compEnvC sp cl C X.env) fp) a go)
    (pk : ∀ (s : Shared) (H : Hp) (C : Addr) (cl : List (Str × Addr)) (fp : List Addr), PE (X.blk s H sp (compEnvC sp cl C X.env) fp) ke tk)
    (pe : ∀ (s : Shared) (H : Hp) (C : Addr) (cl : List (Str × Addr)) (fp : List Addr), PE (X.blk s H sp (compEnvC sp cl C X.env) fp) ve tv)
    (fo : ∀ x, foldedSetIterable b X.env x = pure x) (I : Inv X pins σ H s) (hq : tDcN X.w wo go tk tv (own.map (·.2)) σ H Q)
    (out : ∀ D C s' m H', Inv X pins σ H' s' → Q (.ref D) H' → s'.heap.Ns C m → FpOk X pins H' C → compPost (model X.prog X.w) X.A X.xe use Qf (.ref D) C (.ok .next) s') :
    wpAny (model X.prog X.w) X.A (comprehension (dc1 ke ve a b sp pos) sp X.env po newDict false (eval b X.env) use) Qf X.xe s := by
  have cl0 : ∀ y ∈ sp.names, y.2 = .free → ∃ k, X.env.cells.lookup y.1 = some k := by
    intro y hy z
    rcases ok.free y hy z with k | k
    · exact I.ok.has _ (.inl k)
    · exact I.ok.has _ (.inr k)
  refine wpAny_comprehension_free (use := use) rfl fo (closure_ok cl0) ok.kind (fun y hy z => by rw [ok.uniq y hy, z]) ?_
  refine thn (pio.run pins s σ H _ I hq) fun xv s1 hx => thn hx fun iv s2 h2 => ?_
  obtain ⟨it, fa, tn, J, Hb, rfl, Ib, T, stb, fb, q⟩ := h2
  refine wpAny_newObj_type (newEnv_comp ?_)
  generalize eD : s2.heap.objs.size = D
  obtain ⟨W, ⟨m0, w0⟩, turn⟩ := q D (Ib.hok.fresh (Nat.le_of_eq eD)) (beq_eq_false_iff_ne.mpr (by rw [← eD]; exact Ne.symm (Nat.ne_of_lt Ib.big)))
  generalize e3 : ({ s2 with heap := s2.heap.push { cls := .type "dict", data := .dict #[] } } : Shared) = s3
  have hp3 : s3.heap = s2.heap.push { cls := .type "dict", data := .dict #[] } := by rw [← e3]
  have Ic : Inv X pins σ (upd Hb D (.dK [])) s3 := by
    rw [← e3]
    refine Ib.laid (t' := s2.toks) (fun _ _ z => Heap.get?_push_of_some _ z) (Nat.le_of_eq eD) ?_
    rw [← eD]
    exact dk_empty s2.heap Ib.big
  have small : ∀ x ∈ fa, x < s2.heap.objs.size := by
    intro x hx
    obtain ⟨o, z, _⟩ := T.obj _ _ stb x hx
    exact Heap.lt_size z
  have fc : ∀ x ∈ fa, FpOk X pins (upd Hb D (.dK [])) x ∧ x < s3.heap.objs.size := by
    intro x hx
    have lt := small x hx
    constructor
    · refine ⟨?_, (fb x hx).2⟩
      rw [upd_ne (by rw [← eD]; exact Nat.ne_of_lt lt)]
      exact (fb x hx).1
    · rw [hp3, Heap.size_push]
      exact Nat.lt_succ_of_lt lt
  have stc : tn 0 s3.heap := T.keep _ _ _ stb fun _ _ _ z => by
    rw [hp3]
    exact Heap.get?_push_of_some _ z
  have Id := block_start Ic ok hN fc
  have qgo := pgo s3 (upd Hb D (.dK [])) s3.heap.objs.size (cellsFrom (s3.heap.objs.size + 1) sp.names (cloFrom X.env.cells sp.names [])) fa
  have qk := pk s3 (upd Hb D (.dK [])) s3.heap.objs.size (cellsFrom (s3.heap.objs.size + 1) sp.names (cloFrom X.env.cells sp.names [])) fa
  have qe := pe s3 (upd Hb D (.dK [])) s3.heap.objs.size (cellsFrom (s3.heap.objs.size + 1) sp.names (cloFrom X.env.cells sp.names [])) fa
  have nofa : ∀ x ∈ fa, (upd Hb D (.dK [])) x = none := fun x hx => (fc x hx).1.1
  show codeAny _ _ (.compStart (dc1 ke ve a b sp pos) 0 (.ref it) (.ref D) (compEnvC sp (cellsFrom (s3.heap.objs.size + 1) sp.names (cloFrom X.env.cells sp.names [])) s3.heap.objs.size X.env)) _ { s3 with heap := pushCells (s3.heap.push { cls := .type "dict", data := .dict #[] }) sp.names }
  generalize eE : compEnvC sp (cellsFrom (s3.heap.objs.size + 1) sp.names (cloFrom X.env.cells sp.names [])) s3.heap.objs.size X.env = en at Id qgo qk qe ⊢
  have locE : en.locals = s3.heap.objs.size := by
    subst eE
    rfl
  generalize eH : upd Hb D (.dK []) = Hc at Ic Id qgo qk qe w0 nofa fc
  generalize e4 : ({ s3 with heap := pushCells (s3.heap.push { cls := .type "dict", data := .dict #[] }) sp.names } : Shared) = s4 at Id ⊢
  have std : tn 0 s4.heap := T.keep _ _ _ stc fun _ _ _ z => by
    rw [← e4]
    exact pushCells_keeps _ _ _ _ (Heap.get?_push_of_some _ z)
  have foot : ∀ {τ : L2.St} {G : Hp} {t : Shared}, Inv (X.blk s3 Hc sp en fa) [] τ G t → (∀ x ∈ fa, G x = none) → ∀ x ∈ fa, FpOk (X.blk s3 Hc sp en fa) [] G x := by
    intro τ G t It hn x hx
    refine ⟨hn x hx, (It.ok.exf x hx).1, It.ok.exfs x hx, .inl hx, fun y k z => (It.ok.exf x hx).2 y k z, fun p hp => ?_⟩
    exact absurd (show p ∈ ([] : List (Addr × Obj)) ++ [] from hp) (by simp)
  have main : codeAny (model X.prog X.w) X.A (.compLoop (dc1 ke ve a b sp pos) 0 (.ref it) (.ref D) en) (compPost (model X.prog X.w) X.A X.xe use Qf (.ref D) s3.heap.objs.size) s4 := by
    refine compLoop_anyD (fun n t => ∃ i G, Inv (X.blk s3 Hc sp en fa) [] (wipe σ (own.map (·.2))) G t ∧ tn i t.heap ∧ (∀ x ∈ fa, G x = none) ∧ W i n G) ?_ m0 ⟨0, Hc, Id, std, nofa, w0⟩
    rintro n s5 ⟨i, H5, I5, st5, n5, w5⟩
    rcases turn i n H5 w5 with ⟨stop, qq⟩ | ⟨hgo, Nx, hNx, step⟩
    · refine thnF (T.done (X.blk s3 Hc sp en fa) rfl rfl rfl hc i [] s5 _ H5 (fun _ _ => False) I5 (foot I5 n5) st5 stop) fun r s6 ⟨hr, I6⟩ => ?_
      subst hr
      have I7 : Inv X pins σ H5 s6 := by
        refine Ic.call' (ch := fa) I6.os I6.base I6.hok I6.bare fun x hx => ?_
        have z := (fc x hx).1.2
        exact ⟨z.2.2.1, z.1, z.2.2.2.1, z.2.2.2.2⟩
      have nl : H5 s3.heap.objs.size = none := by
        have z : H5 en.locals = none := I6.free
        rwa [locE] at z
      obtain ⟨m, hn, _⟩ := I6.loc
      have hn2 : s6.heap.Ns en.locals m := hn
      rw [locE] at hn2
      exact out D s3.heap.objs.size s6 m H5 I7 qq hn2 (Ic.fpOk (Nat.le_refl _) nl)
    · refine thnF (T.item (X.blk s3 Hc sp en fa) rfl rfl rfl hc i [] s5 _ H5 (fun _ _ => False) I5 (foot I5 n5) st5 hgo) fun r s6 ⟨u, hr, h6⟩ => ?_
      subst hr
      refine thnF h6 fun _ s7 ⟨x, H7, I7, r7, y7, st7, n7⟩ => ?_
      refine thnF (qgo.run _ s7 _ H7 x u _ (I7.pinned (foot I7 n7) (T.obj _ _ st7)) r7 (step x H7 y7)) fun _ s8 ⟨σ8, H8, I8, hw8, q8⟩ => ?_
      have shut : ∀ {τ : L2.St} {t : Shared} {G : Hp}, Inv (X.blk s3 Hc sp en fa) ([] ++ pinsAt fa s7.heap) τ G t → (wipe σ (own.map (·.2))).length = τ.length →
          (∀ (j : Nat) v, (wipe σ (own.map (·.2)))[j]? = some (some v) → τ[j]? = some (some v)) → Nx G →
          ∃ m, m < n ∧ ∃ i G, Inv (X.blk s3 Hc sp en fa) [] (wipe σ (own.map (·.2))) G t ∧ tn i t.heap ∧ (∀ x ∈ fa, G x = none) ∧ W i m G := by
        intro τ t G It hl hk nx
        obtain ⟨m', lt, w'⟩ := hNx G nx
        have held : ∀ y ∈ fa, ∀ o, s7.heap.get? y = some o → t.heap.get? y = some o ∧ G y = none := by
          intro y hy o z
          have k := It.pin (y, o) (List.mem_append_right _ (List.mem_append_right _ (mem_pinsAt hy z)))
          exact ⟨k.1, k.2.1⟩
        refine ⟨m', lt, i + 1, G, (It.unpinned (pins := [])).weak hl hk, T.keep _ _ _ st7 fun y hy o z => (held y hy o z).1, fun y hy => ?_, w'⟩
        obtain ⟨o, z, _⟩ := T.obj _ _ st7 y hy
        exact (held y hy o z).2
      have len8 : (wipe σ (own.map (·.2))).length = σ8.length := by
        rw [← hw8, wipe_length]
      have keep8 : ∀ (j : Nat) v, (wipe σ (own.map (·.2)))[j]? = some (some v) → σ8[j]? = some (some v) := by
        intro j v z
        rw [← hw8] at z
        exact (wipe_some z).1
      refine wpAny_pure ?_
      simp only [if_true]
      refine thnF (qk.run _ s8 σ8 H8 _ I8 q8) fun kv s9 ⟨yk, H9, I9, r9, q9⟩ => ?_
      refine thnF (qe.run _ s9 σ8 H9 _ I9 q9) fun z s15 ⟨yv, H15, I15, r15, bb, kvs, kk, ey, nd, hk, hdp, few, nx⟩ => ?_
      subst ey
      obtain rfl : kv = Value.ref bb := r9
      exact n_dictSet (X := X.blk s3 Hc sp en fa) hu I15 nd hk hdp few r15 fun s16 I16 => shut I16 len8 keep8 nx
  exact codeAny_compStart_dict main (T.self X.A 0 _ _ _ std main)

theorem pe_dcN {ke ve a b : Expr} {sp : Scope} {own : List (Str × Nat)} {pos : Pos} {wo : TI} {go : TG} {tk tv : TE} (hu : X.A.units + 9 < cLine) (hc : X.calm = true) (hN : X.N.Nodup) (pio : PI X a b wo)
    (ok : BlkOk X.N X.env.scope sp own)
    (pgo : ∀ (s : Shared) (H : Hp) (C : Addr) (cl : List (Str × Addr)) (fp : List Addr), PG (X.blk s H sp (compEnvC sp cl C X.env) fp) a go)
    (pk : ∀ (s : Shared) (H : Hp) (C : Addr) (cl : List (Str × Addr)) (fp : List Addr), PE (X.blk s H sp (compEnvC sp cl C X.env) fp) ke tk)
    (pe : ∀ (s : Shared) (H : Hp) (C : Addr) (cl : List (Str × Addr)) (fp : List Addr), PE (X.blk s H sp (compEnvC sp cl C X.env) fp) ve tv)
    (fo : ∀ x, foldedSetIterable b X.env x = pure x := by intro _; rfl) : PE X (dc1 ke ve a b sp pos) (tDcN X.w wo go tk tv (own.map (·.2))) := by
  refine ⟨fun pins s σ H Q I hq => ?_⟩
  rw [arm_eval_DictComp]
  refine dcN_core hu hc hN pio ok pgo pk pe fo I hq fun D C s' m H' I' q hn f => ⟨m, hn, fun g sb => ?_⟩
  obtain ⟨f0, f1, f2, f3, f4, f5⟩ := f
  exact ⟨.ref D, H', I'.turned (t' := s'.toks) (fun y o hy z => (sb.2 y hy).trans z) f0 f1 f3 f4 f5, rfl, q⟩
theorem sw_dict {ke ve : Expr} {gs : List Comprehension} {scope : Scope} {pos py : Pos} {y : Str} {l : Nat} {env : Env} (hk : env.scope.kind = .function) (hy : env.scope.names.lookup y = some .local) (hl : (py.line == pos.line) = true)
    (ha : (scope.names.any fun (n, k) => n == y && (k == .local || k == .cell)) = false) : swapsWith (.DictComp ke ve gs scope pos) (some (.Name y py)) l env = pure true := by
  have k1 : env.kindOf y = some .local := hy
  have k2 : env.blockKind = .function := by
    unfold Env.blockKind
    rw [hk]
    rfl
  unfold swapsWith
  simp only [k1, k2, ha, Expr.pos, hl]
  rfl
/-- y = {..}, y a name of the def -/
theorem ps_setDcN {i : Nat} {y : Str} {py spos : Pos} {ke ve a b : Expr} {sp : Scope} {own : List (Str × Nat)} {pos : Pos} {wo : TI} {go : TG} {tk tv : TE} (hy : X.N[i]? = some y) (hyl : X.env.scope.names.lookup y = some .local) (hsw : swapsWith (.DictComp ke ve [⟨a, b, [], 0⟩] sp pos) (some (.Name y py)) spos.line X.env = pure true) (hu : X.A.units + 9 < cLine) (hc : X.calm = true) (hN : X.N.Nodup) (pio : PI X a b wo)
    (ok : BlkOk X.N X.env.scope sp own)
    (pgo : ∀ (s : Shared) (H : Hp) (C : Addr) (cl : List (Str × Addr)) (fp : List Addr), PG (X.blk s H sp (compEnvC sp cl C X.env) fp) a go)
    (pk : ∀ (s : Shared) (H : Hp) (C : Addr) (cl : List (Str × Addr)) (fp : List Addr), PE (X.blk s H sp (compEnvC sp cl C X.env) fp) ke tk)
    (pe : ∀ (s : Shared) (H : Hp) (C : Addr) (cl : List (Str × Addr)) (fp : List Addr), PE (X.blk s H sp (compEnvC sp cl C X.env) fp) ve tv)
    (fo : ∀ x, foldedSetIterable b X.env x = pure x := by intro _; rfl) : PS X (.Assign [.Name y py] (.DictComp ke ve [⟨a, b, [], 0⟩] sp pos) spos) (tAsg (tDcN X.w wo go tk tv (own.map (·.2))) (gName i)) := by
  refine ⟨fun pins s σ H D I h => ?_⟩
  rw [exec_Assign_Name_used _ _ _ _ hsw]
  refine wpAny_bind (wpAny_standAt (wpAny_bind ?_))
  show wpAny _ X.A (do let _ ← comprehension (dc1 ke ve a b sp pos) sp X.env (firstIterPos [⟨a, b, [], 0⟩] pos) newDict false (eval b X.env) (some (assign (.Name y py) X.env))) _ _ s
  have h2 : tDcN X.w wo go tk tv (own.map (·.2)) σ H (fun x H1 => gName i x σ H1 D.nx) := h
  refine wpAny_bind (thn (dcN_core (Qf := fun _ s' => SP X pins D .next s') hu hc hN pio ok pgo pk pe fo I h2 fun L C s' m H' I' q hn f => ?_) fun _ s' z => wpAny_pure (wpAny_pure z))
  show wpAny _ _ (assign (.Name y py) X.env (.ref L)) _ _ _
  refine wpAny_assign_Name (store_ok2 (v := V.ref L) I' hN hy (.inl hyl) rfl (fun s2 I2 ⟨c, sb, hc2⟩ => ?_) (.inr hyl))
  obtain ⟨f0, f1, f2, f3, f4, f5⟩ := f
  have ne : C ≠ c := by
    rcases hc2 with rfl | z
    · exact f1
    · exact fun e => f4 y c z e.symm
  exact ⟨m, hn.sameBut sb ne, fun h3 sb3 => ⟨_, H', I2.turned (t' := s2.toks) (fun x o hx z => (sb3.2 x hx).trans z) f0 f1 f3 f4 f5, q⟩⟩
/-- over a list that the comprehension leaves as it is -/
theorem dcN_list {w : World} {K : PySem.W.Frag} {a : Addr} {xs : List V} {g : TG} {tk tv : TE} {vs : List Nat} {σ : L2.St} {H1 : Hp} {D : Addr} {Qd : Hp → Prop} (Pv : Nat → Hp → Prop) (h0 : Pv 0 (upd H1 D (.dK []))) (hl : ∀ i H, i ≤ xs.length → Pv i H → SqL K H a xs)
    (hs : ∀ i x H, xs[i]? = some x → Pv i H → g x (wipe σ vs) H fun σ2 H2 => wipe σ2 vs = wipe σ vs ∧ tk σ2 H2 fun y H4 => tv σ2 H4 fun z H5 => ∃ (b : Addr) (kvs : List NEnt) (k : NestedKey), y = .ref b ∧ ND w H5 D kvs ∧ KeyV H5 k (.ref b) ∧ k.depth ≤ 8 ∧ kvs.length < sizeLine ∧ Pv (i + 1) (L2.upd H5 D (ndO w D (nPut kvs k b z))))
    (hd : ∀ H, Pv xs.length H → Qd H) :
    ∃ W : Nat → Nat → Hp → Prop, (∃ m, W 0 m (upd H1 D (.dK []))) ∧ ∀ i m H, W i m H →
      ((Itl K a).stop i H ∧ Qd H) ∨ ((Itl K a).go i H ∧ ∃ Nx : Hp → Prop, (∀ H', Nx H' → ∃ m', m' < m ∧ W (i + 1) m' H') ∧ ∀ x H', (Itl K a).yld i H x H' → g x (wipe σ vs) H' fun σ2 H2 => wipe σ2 vs = wipe σ vs ∧
        tk σ2 H2 fun y H4 => tv σ2 H4 fun z H5 => ∃ (b : Addr) (kvs : List NEnt) (k : NestedKey), y = .ref b ∧ ND w H5 D kvs ∧ KeyV H5 k (.ref b) ∧ k.depth ≤ 8 ∧ kvs.length < sizeLine ∧ Nx (L2.upd H5 D (ndO w D (nPut kvs k b z)))) := by
  refine ⟨fun i m H => m = xs.length - i ∧ i ≤ xs.length ∧ Pv i H, ⟨xs.length, rfl, Nat.zero_le _, h0⟩, ?_⟩
  rintro i m H ⟨rfl, hi, p⟩
  have q := hl i H hi p
  by_cases c : i < xs.length
  · refine .inr ⟨⟨xs, xs[i], q, List.getElem?_eq_getElem c⟩, Pv (i + 1), fun H' p' => ⟨xs.length - (i + 1), by omega, rfl, c, p'⟩, fun x H' y => ?_⟩
    obtain ⟨rfl, y⟩ := y
    exact hs i x _ (y xs q) p
  · obtain rfl : i = xs.length := by omega
    exact .inl ⟨⟨xs, q, Nat.le_refl _⟩, hd H p⟩
end
end Su
/-! ### DF: defs with defaults -/
namespace Su
open PySem PySem.Spec PyProof.Rows L2
structure AtD (K : PySem.W.Frag) (mg : Str → Option Value) (x : Str) (st : Stmt) (ps : List Str) (dvs : List V) : Prop where
  ex : ∃ (f : Addr) (fd : FuncData), FunD K x x (defArgs st) (defBody st) (defScope st) dvs [] f fd ∧ mg x = some (.ref f) ∧ ∀ j, j ≤ dvs.length → ∃ ds, Vals (dvs.drop j) ds ∧ Binds K fd ps ds
structure CalD (P : Program) (w : World) (K : PySem.W.Frag) (mg : Str → Option Value) (base : Heap) (k : Nat) (x : Str) (ps : List Str) (dvs : List V) (sp : Sp) : Prop where
  ex : ∃ (f : Addr) (fd : FuncData), FnOk P w K mg base CX0 k f fd ps sp ∧ mg x = some (.ref f) ∧ PySem.W.keepIn K (.ref f) = true ∧ ∀ j, j ≤ dvs.length → ∃ ds, Vals (dvs.drop j) ds ∧ Binds K fd ps ds
section
variable {P : Program} {w : World} {K : PySem.W.Frag} {mg : Str → Option Value} {base : Heap}
theorem cal_ofD {x : Str} {st : Stmt} {N ps : List Str} {dvs : List V} {k : Nat} {sp : Sp} (T : AtD K mg x st ps dvs) (S : FnScope N ps (defScope st)) (len : ∀ vs H Q E, sp vs H Q E → vs.length = ps.length)
    (hb : ∀ (f : Addr) (cdv : Value) (A : Around) (outer : List Env) (s : Shared) (H : Hp) (vs : List V) (Q : VK) (E : XK), Room k (A.deeper (envOfC x (defScope st) s.heap.objs.size f cdv)) → sp vs H Q E →
      ∃ t, PSs (cxOf CX0 P w K mg base N x (defScope st) f cdv A outer s H E).nox (defBody st) t ∧ t { nx := fun _ H' => Q .non H', rt := Q } (start N vs) H) : CalD P w K mg base (k + 1) x ps dvs sp := by
  obtain ⟨f, fd, F, hm, b⟩ := T.ex
  refine ⟨f, fd, F.ok S len fun cdv A outer s H vs Q E hr h => ?_, hm, F.kp, b⟩
  obtain ⟨t, h1, h2⟩ := hb f cdv A outer s H vs Q E hr h
  exact ⟨t, h1.nox, h2⟩
end
section
variable {X : Cx} {k j : Nat} {x : Str} {ps : List Str} {sp : Sp} {p pos : Pos} {e : Expr} {es : List Expr} {t : TA} {dvs : List V}
theorem pe_ownD (i : Nat) (C : CalD X.prog X.w X.K X.mg X.base k x ps dvs sp) (hr : Room j X.A) (hk : k ≤ j) (hg : Gl X x) (hi : i ≤ dvs.length) (ha : PA X (e :: es) t)
    (hdb : (x == ("__debug__" : Str)) = false := by decide) (he : starEach (e :: es) X.env = (false, eval e X.env) :: starEach es X.env := by rfl) (hpl : (backTo pos (starEach es X.env)).any (·.1) = false := by rfl) :
    PE X (.Call (.Name x p) (e :: es) [] pos) (tCall sp (dvs.drop i) E0 t) := by
  obtain ⟨f, fd, F, hm, kp, b⟩ := C.ex
  obtain ⟨ds, hv, hb⟩ := b i hi
  exact pe_call F (hr.mono hk) hg hm kp hb hv (fun _ _ _ _ _ _ _ h => h.elim) ha hdb he hpl
end
end Su
/-! ### LM: lambdas with parameters that are handed to a def, functions called by a variable -/
namespace Su
open PySem PySem.Spec PyProof.Rows L2 LamX
/-- what a def may know of a function that was handed to it -/
structure Act (P : Program) (w : World) (K : PySem.W.Frag) (mg : Str → Option Value) (base : Heap) (outer : List Env) (s : Shared) (H : Hp) (k : Nat) (f : Addr) (kf : Hp → Prop) (beh : List V → Hp → VK → Prop) : Prop where
  fn : ∀ (s' : Shared) (H' : Hp), Un (frs outer) [] H H' s.heap s'.heap → PySem.W.FnAt f s'.heap
  run : ∀ (A' : Around) (out' : List Env) (s' : Shared) (H' : Hp) (us : List Value) (vs : List V) (Q : VK), Room k A' → Env0 P w K mg base A' out' s' H' → Un (frs outer) [] H H' s.heap s'.heap → kf H' → Vals vs us → beh vs H' Q →
    codeAny (model P w) A' (.call (.ref f) ⟨us, []⟩) (CR CX0 out' P w H' s' Q E0) s'
/-- the same within a context -/
def ActX (X : Cx) (f : Addr) (kf : Hp → Prop) (beh : List V → Hp → VK → Prop) : Prop := ∀ (pins : List (Addr × Obj)) (σ : L2.St) (H' : Hp) (s' : Shared), Inv X pins σ H' s' → PySem.W.FnAt f s'.heap ∧
  ∀ (us : List Value) (vs : List V) (Q : VK), kf H' → Vals vs us → beh vs H' Q → codeAny (model X.prog X.w) X.A (.call (.ref f) ⟨us, []⟩) (CR CX0 X.stack X.prog X.w H' s' Q E0) s'
theorem act_in {P : Program} {w : World} {K : PySem.W.Frag} {mg : Str → Option Value} {base : Heap} {A : Around} {outer : List Env} {s : Shared} {H : Hp} {k : Nat} {f : Addr} {kf : Hp → Prop} {beh : List V → Hp → VK → Prop} {CX : CXT} {N : List Str} {x : Str} {sc : Scope} {g : Addr} {cd : Value} {E : XK}
    (a : Act P w K mg base outer s H k f kf beh) (hr : Room k (A.deeper (envOfC x sc s.heap.objs.size g cd))) : ActX (cxOf CX P w K mg base N x sc g cd A outer s H E).nox f kf beh := by
  intro pins σ H' s' I
  have un : Un (frs outer) [] H H' s.heap s'.heap := I.base
  exact ⟨a.fn s' H' un, fun us vs Q hk rv hb => a.run _ _ s' H' us vs Q hr I.env0 un hk rv hb⟩
/-- y(..), y a variable that holds the function -/
def tAct (i : Nat) (f : Addr) (kf : Hp → Prop) (beh : List V → Hp → VK → Prop) (t : TA) : TE := fun σ H Q => σ[i]? = some (some (.ref f)) ∧ t σ H fun vs H2 => kf H2 ∧ beh vs H2 Q
section
variable {X : Cx} {f : Addr} {kf : Hp → Prop} {beh : List V → Hp → VK → Prop} {i : Nat} {y : Str} {e : Expr} {es : List Expr} {t : TA} {p pos : Pos}
theorem pe_act (a : ActX X f kf beh) (hN : X.N[i]? = some y) (hv : Vis X.env.scope y) (ha : PA X (e :: es) t) (hd : (y == ("__debug__" : Str)) = false := by decide) (hcd : (y == ("__classdict__" : Str)) = false := by decide)
    (he : starEach (e :: es) X.env = (false, eval e X.env) :: starEach es X.env := by rfl) (hpl : (backTo pos (starEach es X.env)).any (·.1) = false := by rfl) :
    PE X (.Call (.Name y p) (e :: es) [] pos) (tAct i f kf beh t) := by
  refine ⟨fun pins s σ H Q I h => ?_⟩
  obtain ⟨hs, ht⟩ := h
  refine wpAny_Call_Name_kw (thn ((pe_var (pos := p) hN hv hd hcd).run pins s σ H (fun v H1 => v = .ref f ∧ H1 = H) I ⟨.ref f, hs, rfl, rfl⟩) fun u s1 ⟨v, H1, I1, r1, ev, eH⟩ => ?_)
  subst ev
  subst eH
  obtain rfl : u = Value.ref f := r1
  refine PySem.W.callWith_F (first := []) (a _ _ _ _ I1).1 (thn (ha.run pos pins s1 σ H1 _ I1 ht) fun us s2 ⟨vs, H2, I2, r, hk, q⟩ => ⟨(a _ _ _ _ I2).1, ?_⟩) he hpl
  show wpAny _ _ (call (.ref f) us) _ _ _
  refine wpAny_call (codeAny_mono ((a _ _ _ _ I2).2 us vs Q hk r q) fun r s' hq => ?_)
  cases r with
  | error e => exact False.elim hq
  | ok fl =>
    cases fl with
    | ret u => exact I2.after hq
    | next => exact False.elim hq
    | brk => exact False.elim hq
    | cont => exact False.elim hq
end
/-! a def that is handed a function -/
abbrev SpA := Addr → (Hp → Prop) → (List V → Hp → VK → Prop) → List V → Hp → VK → Prop
structure CalA (P : Program) (w : World) (K : PySem.W.Frag) (mg : Str → Option Value) (base : Heap) (k j : Nat) (x : Str) (ps : List Str) (dvs : List V) (sp : SpA) : Prop where
  ex : ∃ g : Addr, mg x = some (.ref g) ∧ PySem.W.keepIn K (.ref g) = true ∧ ∀ i, i ≤ dvs.length → ∀ (A : Around) (outer : List Env) (s : Shared) (H : Hp) (us : List Value) (vs : List V) (Q : VK) (f : Addr) (kf : Hp → Prop) (beh : List V → Hp → VK → Prop),
    Room k A → Env0 P w K mg base A outer s H → Act P w K mg base outer s H j f kf beh → Vals vs us → sp f kf beh (vs ++ dvs.drop i) H Q → codeAny (model P w) A (.call (.ref g) ⟨us, []⟩) (CR CX0 outer P w H s Q E0) s
section
variable {P : Program} {w : World} {K : PySem.W.Frag} {mg : Str → Option Value} {base : Heap}
theorem cal_ofA {x : Str} {st : Stmt} {N ps : List Str} {dvs : List V} {k : Nat} {sp : SpA} (T : AtD K mg x st ps dvs) (S : FnScope N ps (defScope st)) (len : ∀ f kf beh vs H Q, sp f kf beh vs H Q → vs.length = ps.length)
    (hb : ∀ (g : Addr) (cdv : Value) (A : Around) (outer : List Env) (s : Shared) (H : Hp) (vs : List V) (Q : VK) (f : Addr) (kf : Hp → Prop) (beh : List V → Hp → VK → Prop), Room k (A.deeper (envOfC x (defScope st) s.heap.objs.size g cdv)) →
      ActX (cxOf CX0 P w K mg base N x (defScope st) g cdv A outer s H E0).nox f kf beh → sp f kf beh vs H Q → ∃ t, PSs (cxOf CX0 P w K mg base N x (defScope st) g cdv A outer s H E0).nox (defBody st) t ∧ t { nx := fun _ H' => Q .non H', rt := Q } (start N vs) H) :
    CalA P w K mg base (k + 1) k x ps dvs sp := by
  obtain ⟨g, fd, F, hm, b⟩ := T.ex
  refine ⟨g, hm, F.kp, fun i hi A outer s H us vs Q f kf beh hr e0 act rv hs => ?_⟩
  obtain ⟨ds, vd, b⟩ := b i hi
  obtain ⟨oc, od, dV, kV, doc, pm, an, cdv, ct, osl, efd, lk, hcd, _, _⟩ := F.ex
  subst efd
  have kin : K.In s.heap := e0.mod.kin.keeps fun b o z => (e0.bs b o z).1
  have l1 := len _ _ _ _ _ _ hs
  rw [List.length_append, rv.length, vd.length, ← List.length_append] at l1
  refine run_ofS (N := N) lk hcd S hr e0 (b s us kin l1) (rv.append vd) (len _ _ _ _ _ _ hs) fun hr' => ?_
  obtain ⟨t, ht, hq⟩ := hb g cdv A outer s H _ Q f kf beh hr' (act_in act hr') hs
  exact ⟨t, ht.nox, hq⟩
end
/-! the lambda -/
/-- its names: parameters, and captured ones with their slots in the maker -/
structure LamP (sc scope : Scope) (N ps : List Str) (cs : List (Str × Nat)) : Prop where
  kind : scope.kind = .function
  co : scope.isCoroutine = false
  gen : scope.isGenerator = false
  nc : ∀ y ∈ scope.names, y.2 ≠ .cell
  par : ∀ x ∈ ps, scope.names.lookup x = some .local
  free : ∀ y ∈ scope.names, y.2 = .free → sc.names.lookup y.1 = some .cell ∨ sc.names.lookup y.1 = some .free
  cap : ∀ p ∈ cs, N[p.2]? = some p.1 ∧ scope.names.lookup p.1 = some .free
  one : (ps ++ cs.map (·.1)).Nodup
def lamPB (sc scope : Scope) (N ps : List Str) (cs : List (Str × Nat)) : Bool :=
  decide (scope.kind = .function) && !scope.isCoroutine && !scope.isGenerator && scope.names.all (fun y => !decide (y.2 = .cell) && (!decide (y.2 = .free) || decide (sc.names.lookup y.1 = some .cell) || decide (sc.names.lookup y.1 = some .free))) &&
    ps.all (fun x => decide (scope.names.lookup x = some .local)) && cs.all (fun p => decide (N[p.2]? = some p.1) && decide (scope.names.lookup p.1 = some .free)) && decide ((ps ++ cs.map (·.1)).Nodup)
theorem lamP_by {sc scope : Scope} {N ps : List Str} {cs : List (Str × Nat)} (h : lamPB sc scope N ps cs = true) : LamP sc scope N ps cs := by
  unfold lamPB at h
  simp only [Bool.and_eq_true, Bool.or_eq_true, Bool.not_eq_true', decide_eq_true_eq, decide_eq_false_iff_not, List.all_eq_true] at h
  obtain ⟨⟨⟨⟨⟨⟨h1, h2⟩, h3⟩, h4⟩, h5⟩, h6⟩, h7⟩ := h
  refine ⟨h1, h2, h3, fun y hy => (h4 y hy).1, h5, fun y hy e => ?_, h6, h7⟩
  rcases (h4 y hy).2 with (z | z) | z
  · exact absurd e z
  · exact .inl z
  · exact .inr z
theorem LamP.has {X : Cx} {scope : Scope} {N ps : List Str} {cs : List (Str × Nat)} (L : LamP X.env.scope scope N ps cs) (ok : X.Ok) : ∀ y ∈ scope.names, y.2 = .free → ∃ c, X.env.cells.lookup y.1 = some c := fun y hy e => by
  rcases L.free y hy e with z | z
  · exact ok.has _ (.inl z)
  · exact ok.has _ (.inr z)
/-- what the lambda sees of the maker's slots -/
def caps (cs : List (Str × Nat)) (σ : L2.St) : List (Option V) := cs.map fun p => (σ[p.2]?).join
/-- the context of its body -/
def lamC (X : Cx) (A : Around) (outer : List Env) (s : Shared) (H : Hp) (scope : Scope) (f c' : Addr) (N : List Str) : Cx where
  prog := X.prog
  w := X.w
  K := X.K
  mg := X.mg
  base := X.base
  A := A.deeper (lamEnv X scope s.heap.objs.size f c')
  N := N
  s_0 := s
  H_0 := H
  env := lamEnv X scope s.heap.objs.size f c'
  outer := outer
  stack := lamEnv X scope s.heap.objs.size f c' :: outer
  ex := []
  fn := fun _ => false
  calm := true
  pn := []
  xe := fun _ _ => False
theorem zip_look {us : List Value} : ∀ {ps : List Str} {i : Nat} {x : Str}, ps.Nodup → us.length = ps.length → ps[i]? = some x → (ps.zip us).reverse.lookup x = us[i]? := by
  intro ps i x nd hl hx
  have nk : ((ps.zip us).map (·.1)).Nodup := by
    rw [List.map_fst_zip (by omega)]
    exact nd
  rw [lookup_reverse_of_nodup _ nk]
  clear nk
  induction ps generalizing us i with
  | nil => simp at hx
  | cons p ps ih =>
    cases us with
    | nil => simp at hl
    | cons u us =>
      rw [List.zip_cons_cons, List.lookup_cons]
      obtain ⟨h1, h2⟩ := List.nodup_cons.mp nd
      cases i with
      | zero =>
        cases hx
        simp
      | succ i =>
        rw [List.getElem?_cons_succ] at hx
        have ne : (x == p) = false := beq_eq_false_iff_ne.mpr fun e => h1 (e ▸ List.mem_of_getElem? hx)
        rw [ne, List.getElem?_cons_succ]
        exact ih h2 (by simpa using hl) hx
section
variable {X : Cx} {pins : List (Addr × Obj)} {σ : L2.St} {H HZ : Hp} {s s1 : Shared}
/-- the body's first state -/
theorem lam_in {A : Around} {outer : List Env} {scope : Scope} {ps : List Str} {cs : List (Str × Nat)} {f c' : Addr} {h1 : Heap} {tk : Nat} {us : List Value} {vs : List V} (I : Inv X pins σ H s) (L : LamP X.env.scope scope X.N ps cs)
    (e0 : Env0 X.prog X.w X.K X.mg X.base A outer s1 HZ) (hd : A.handled = none) (un : Un (frs X.stack) [] H HZ s.heap s1.heap) (rv : Vals vs us) (hl : us.length = ps.length) (hns : h1.Ns s1.heap.objs.size fun y => (ps.zip us).reverse.lookup y)
    (kp : ∀ b o, s1.heap.get? b = some o → h1.get? b = some o) : Inv (lamC X A outer s1 HZ scope f c' (ps ++ cs.map (·.1))) [] (vs.map some ++ caps cs σ) HZ { s1 with heap := h1, toks := tk } := by
  have hfree := L.has I.ok
  have back : ∀ {y c}, (cloFrom X.env.cells scope.names []).lookup y = some c → X.env.cells.lookup y = some c := fun {y c} e => by
    rcases cloFrom_mem (PySem.mem_of_lookup e) with hm | ⟨h1, h2⟩
    · cases hm
    · obtain ⟨c1, hc⟩ := hfree _ h1 rfl
      have hc : X.env.cells.lookup y = some c1 := hc
      rw [hc] at h2
      rw [hc, h2]
      rfl
  have there : ∀ {y}, scope.names.lookup y = some .free → ∃ c, (cloFrom X.env.cells scope.names []).lookup y = some c := fun {y} hy =>
    mem_lookup (cloFrom_has (cells := X.env.cells) (acc := []) (PySem.mem_of_lookup hy))
  have cellK : ∀ {c : Addr} {v : Option Value}, H c = none → s.heap.IsCell c v → h1.IsCell c v := fun {c v} n ⟨o, ho, hd⟩ => by
    obtain ⟨sl, q⟩ := un.any ho n (by simp)
    exact ⟨_, kp _ _ q, hd⟩
  have no : ∀ b : Addr, b ∉ (lamC X A outer s1 HZ scope f c' (ps ++ cs.map (·.1))).ex := fun b z => nomatch (show b ∈ ([] : List Addr) from z)
  have okX : (lamC X A outer s1 HZ scope f c' (ps ++ cs.map (·.1))).Ok := by
    constructor
    case mod => exact e0.mod
    case kind => exact L.kind
    case glob => rfl
    case blt => rfl
    case above => exact Nat.le_refl _
    case inj => exact fun y z c e1 e2 => I.ok.inj y z c (back e1) (back e2)
    case has =>
      intro y hy
      rcases (show scope.names.lookup y = some .cell ∨ scope.names.lookup y = some .free from hy) with z | z
      · exact absurd rfl (L.nc _ (PySem.mem_of_lookup z))
      · exact there z
    case cab => exact fun y c z _ => nomatch (show false = true from z)
    case hd => exact fun _ => hd
    case frames => exact Around.frames_deeper e0.frames
    case stk => exact .inr ⟨rfl, rfl⟩
    case exf => exact fun b z => absurd z (no b)
    case bs => exact e0.bs
    case bsz => exact e0.bsz
    case noex => exact fun b _ _ => no b
    case exfs => exact fun b z => absurd z (no b)
    case funs => exact e0.funs
    case frf => exact e0.frf
  constructor
  case ok => exact okX
  case os => rfl
  case bare => exact e0.bare
  case base => exact Un.kept kp
  case cell =>
    intro y c e
    obtain ⟨v, z⟩ := I.cell y c (back e)
    exact ⟨v, cellK (I.freeC y c (back e)) z⟩
  case free => exact e0.hok.fresh (Nat.le_refl _)
  case freeC =>
    intro y c e
    obtain ⟨v, o, ho, hd⟩ := I.cell y c (back e)
    exact un.free c o ho (I.freeC y c (back e)) (by simp)
  case pin => exact fun q hq => nomatch (show q ∈ ([] : List (Addr × Obj)) ++ [] from hq)
  case hok => exact e0.hok.kept kp
  case len =>
    show (vs.map some ++ caps cs σ).length = (ps ++ cs.map (·.1)).length
    rw [List.length_append, List.length_append, List.length_map, rv.length, hl]
    simp [caps]
  case loc =>
    refine ⟨_, hns, fun i y v e1 e2 e3 => ?_⟩
    have e1 : (ps ++ cs.map (·.1))[i]? = some y := e1
    have nd := L.one
    by_cases c : i < ps.length
    · rw [List.getElem?_append_left c] at e1
      rw [List.getElem?_append_left (by rw [List.length_map, rv.length, hl]; exact c), List.getElem?_map] at e2
      obtain ⟨v', ev, e2⟩ := Option.map_eq_some_iff.mp e2
      cases e2
      obtain ⟨u, hu, ru⟩ := rv.get ev
      refine ⟨u, ru, .inl ⟨L.par y (List.mem_of_getElem? e1), ?_⟩⟩
      show (ps.zip us).reverse.lookup y = some u
      rw [zip_look (List.nodup_append.mp nd).1 hl e1]
      exact hu
    · rw [List.getElem?_append_right (by omega), List.getElem?_map] at e1
      obtain ⟨p, ep, rfl⟩ := Option.map_eq_some_iff.mp e1
      have lv : (vs.map some).length = ps.length := by rw [List.length_map, rv.length, hl]
      rw [List.getElem?_append_right (by omega), lv] at e2
      unfold caps at e2
      rw [List.getElem?_map, ep] at e2
      have e2 : (σ[p.2]?).join = some v := Option.some.inj e2
      obtain ⟨o, eo, e2⟩ := Option.join_eq_some_iff.mp e2 |> fun z => (⟨_, z, rfl⟩ : ∃ o, σ[p.2]? = some o ∧ o = some v)
      subst e2
      obtain ⟨n1, n2⟩ := L.cap p (List.mem_of_getElem? ep)
      obtain ⟨m, hn, hl2⟩ := I.loc
      have vis : Vis X.env.scope p.1 := (L.free _ (PySem.mem_of_lookup n2) rfl).elim (fun z => .inr (.inl z)) fun z => .inr (.inr z)
      obtain ⟨u, r, q⟩ := hl2 p.2 p.1 v n1 eo vis
      obtain ⟨c2, h2⟩ := there n2
      have c1 := back h2
      refine ⟨u, r, .inr ⟨.inr n2, c2, h2, ?_⟩⟩
      rcases q with ⟨k', _⟩ | ⟨_, c3, e', z⟩
      · have k' : X.env.scope.names.lookup p.1 = some .local := k'
        rcases L.free _ (PySem.mem_of_lookup n2) rfl with k2 | k2
        · rw [k'] at k2
          cases k2
        · rw [k'] at k2
          cases k2
      · rw [c1] at e'
        cases e'
        exact cellK (I.freeC _ _ c1) z
/-- what the lambda does -/
theorem act_lam {k : Nat} {f c' : Addr} {pm ctv : Value} {params : Arguments} {body : Expr} {scope : Scope} {ps : List Str} {cs : List (Str × Nat)} {tb : TE} (I : Inv X pins σ H s) (L : LamP X.env.scope scope X.N ps cs)
    (hf : s.heap.get? f = some (PySem.W.kla_obj "<lambda>" (X.env.qual ++ "<lambda>") params body scope (cloFrom X.env.cells scope.names []) pm c' ctv)) (hfn : H f = none) (hfr : f ∉ frs X.stack)
    (hbind : ∀ us : List Value, us.length = ps.length → bindArgs (PySem.W.kla_fn "<lambda>" (X.env.qual ++ "<lambda>") params body scope (cloFrom X.env.cells scope.names []) pm (.ref c') ctv) ⟨us, []⟩ = pure (ps.zip us))
    (hbody : ∀ (A : Around) (outer : List Env) (s : Shared) (H : Hp), Room k (A.deeper (lamEnv X scope s.heap.objs.size f c')) → PE (lamC X A outer s H scope f c' (ps ++ cs.map (·.1))) body tb) :
    Act X.prog X.w X.K X.mg X.base X.stack s H (k + 1) f (fun H' => H' c' = some (CodeO c' (X.env.qual ++ "<lambda>"))) (fun vs H' Q => vs.length = ps.length ∧ tb (vs.map some ++ caps cs σ) H' Q) := by
  have at_ : ∀ (s' : Shared) (H' : Hp), Un (frs X.stack) [] H H' s.heap s'.heap → s'.heap.get? f = some (PySem.W.kla_obj "<lambda>" (X.env.qual ++ "<lambda>") params body scope (cloFrom X.env.cells scope.names []) pm c' ctv) :=
    fun s' H' un => un.keep f _ hf hfn hfr (fun z => nomatch (show f ∈ ([] : List Addr) from z))
  refine ⟨fun s' H' un => ⟨_, _, _, _, at_ s' H' un⟩, fun A' out' s' H' us vs Q hr e0 un kf rv hb => ?_⟩
  obtain ⟨hl, hb⟩ := hb
  have hl : us.length = ps.length := by rw [← rv.length]; exact hl
  obtain ⟨⟨oc, vs0, t, hoc, hdc, hvc⟩, _, _⟩ := e0.hok c' _ kf
  refine PySem.W.kla_callFunE hr.depth (at_ s' H' un) rfl L.co L.gen rfl ⟨c', oc, vs0, t, rfl, hoc, hdc, hvc⟩ ?_
  rw [hbind us hl]
  have loc : ∀ y ∈ ps.zip us, scope.names.lookup y.1 = some .local := fun y hy => L.par y.1 (List.of_mem_zip (show (y.1, y.2) ∈ ps.zip us from hy)).1
  refine wpAny_pure (wpAny_newFunctionEnv L.nc loc (fun h1 hns hsb => ⟨(e0.mod.nolimit.keeps fun b o z => (e0.bs b o z).1).fresh _ hsb, ?_⟩) L.kind)
  show codeAny _ _ (.expr body (lamEnv X scope s'.heap.objs.size f c')) _ _
  have kp : ∀ b o, s'.heap.get? b = some o → h1.get? b = some o := fun b o z => hsb.extBut b o (Nat.ne_of_lt (Heap.lt_size z)) (Heap.get?_push_of_some _ z)
  have J := lam_in (tk := s'.toks + (ps.zip us).length) (c' := c') (f := f) I L e0 hr.hd un rv hl hns kp
  refine PySem.W.kla_codeExpr (wpAny_mono ((hbody A' out' s' H' (hr.deeper _)).run [] _ _ H' Q J hb) (fun v s2 hq => ?_) fun e s2 hq => False.elim hq)
  obtain ⟨w', H2, J2, r2, q⟩ := hq
  exact ⟨w', H2, J2.os, J2.bare, J2.base, J2.hok, r2, q⟩
/-- x(e1, e2, lambda ..): the lambda is made last -/
def tOwnL (T : List (Addr × Str)) (q : Str) (np : Nat) (cs : List (Str × Nat)) (sp : SpA) (dvs : List V) (t1 t2 tb : TE) : TE := fun σ H Q => t1 σ H fun v1 H1 => t2 σ H1 fun v2 H2 => Tabs T H2 ∧ ∀ (f c' : Addr) (H3 : Hp), ExtN H2 H3 → Tabs T H3 → H3 c' = some (CodeO c' q) →
  sp f (fun H' => H' c' = some (CodeO c' q)) (fun vs H' Q' => vs.length = np ∧ tb (vs.map some ++ caps cs σ) H' Q') ([v1, v2, .ref f] ++ dvs) H3 Q
end
section
variable {X : Cx}
theorem pe_ownL (i : Nat) {T : List (Addr × Str)} {c P : Addr} {k j m : Nat} {x : Str} {qs ps : List Str} {dvs : List V} {sp : SpA} {cs : List (Str × Nat)} {params : Arguments} {e1 e2 body : Expr} {scope : Scope} {t1 t2 tb : TE} {p lpos pos : Pos}
    (C : CalA X.prog X.w X.K X.mg X.base k (m + 1) x qs dvs sp) (hr : Room j X.A) (hk : k ≤ j) (hg : Gl X x) (hi : i ≤ dvs.length) (h1 : PE X e1 t1) (h2 : PE X e2 t2)
    (TB : TabB X.base X.mg c P) (hcode : X.env.code = .ref c) (hmT : (P, X.env.qual ++ "<lambda>") ∈ T) (hu : ∀ p ∈ T, p.1 = P → p.2 = X.env.qual ++ "<lambda>") (L : LamP X.env.scope scope X.N ps cs) (hdef : defaultsOf params X.env = ([], []))
    (hbind : ∀ (cl : List (Str × Addr)) (pm cv ctv : Value) (us : List Value), us.length = ps.length → bindArgs (PySem.W.kla_fn "<lambda>" (X.env.qual ++ "<lambda>") params body scope cl pm cv ctv) ⟨us, []⟩ = pure (ps.zip us))
    (hbody : ∀ (A : Around) (outer : List Env) (s : Shared) (H : Hp) (f c' : Addr), Room m (A.deeper (lamEnv X scope s.heap.objs.size f c')) → PE (lamC X A outer s H scope f c' (ps ++ cs.map (·.1))) body tb)
    (hdb : (x == ("__debug__" : Str)) = false := by decide)
    (hs1 : starEach [e1, e2, .Lambda params body scope lpos] X.env = (false, eval e1 X.env) :: starEach [e2, .Lambda params body scope lpos] X.env := by rfl)
    (hs2 : backTo pos (starEach [e2, .Lambda params body scope lpos] X.env) = (false, eval e2 X.env) :: (false, eval (.Lambda params body scope lpos) X.env) :: backTo pos (starEach [] X.env) := by rfl)
    (hpl : (backTo pos (starEach [e2, .Lambda params body scope lpos] X.env)).any (·.1) = false := by rfl) :
    PE X (.Call (.Name x p) [e1, e2, .Lambda params body scope lpos] [] pos) (tOwnL T (X.env.qual ++ "<lambda>") ps.length cs sp (dvs.drop i) t1 t2 tb) := by
  obtain ⟨g, hm, kp, run⟩ := C.ex
  refine ⟨fun pins s σ H Q I h => ?_⟩
  refine wpAny_Call_Name_kw (ld_glob I hg hm ?_ hdb)
  refine PySem.W.callWith_K (h₀ := X.base) I.ok.mod.kin kp ?_ hs1 hpl
  rw [hs1]
  refine Calls.spliced_cons (thn (h1.run pins s σ H _ I h) fun u1 s1 ⟨v1, H1, I1, r1, q1⟩ => ?_)
  show wpAny _ _ (spliced (backTo pos (starEach [e2, .Lambda params body scope lpos] X.env))) _ _ s1
  rw [hs2]
  refine Calls.spliced_cons (thn (h2.run pins s1 σ H1 _ I1 q1) fun u2 s2 ⟨v2, H2, I2, r2, hT, q2⟩ => ?_)
  refine Calls.spliced_cons (lam_make2 I2 TB hcode hmT hu hT hdef (L.has I.ok) fun f c' pm' ctv H3 s3 I3 eN T3 hf hfn hfr hco => ?_)
  refine Calls.spliced_nil ⟨I3.kIn, ?_⟩
  have act := act_lam I3 L hf hfn hfr (hbind _ _ _ _) (k := m) (tb := tb) fun A outer s H hr2 => hbody A outer s H f c' hr2
  have rc := run i hi X.A X.stack s3 H3 [u1, u2, .ref f] [v1, v2, .ref f] Q f _ _ (hr.mono hk) I3.env0 act (.cons r1 (.cons r2 (.cons rfl .nil))) (q2 f c' H3 eN T3 hco)
  refine wpAny_call (codeAny_mono rc fun r s' hq => ?_)
  cases r with
  | error e => exact False.elim hq
  | ok fl =>
    cases fl with
    | ret u => exact I3.after hq
    | next => exact False.elim hq
    | brk => exact False.elim hq
    | cont => exact False.elim hq
end
end Su
/-! ### TB: the end of a law in which lambdas are made -/
namespace Su
open PySem PySem.Spec PyProof.Rows L2 LamX
/-- an empty table of code objects -/
abbrev tab0 : Obj := { cls := .none, data := .fields #[] }
structure TabK (h : Heap) (K : PySem.W.Frag) (cs : List (Addr × Addr)) : Prop where
  at_ : ∀ p ∈ cs, h.get? p.2 = some tab0
  out : ∀ p ∈ cs, K.lookup p.2 = none
  hd : ∀ p ∈ cs, PySem.W.CodeHd h p.1 p.2
theorem TabK.nil {h : Heap} {K : PySem.W.Frag} : TabK h K [] := ⟨(fun p hp => nomatch hp), (fun p hp => nomatch hp), fun p hp => nomatch hp⟩
theorem TabK.cons {h : Heap} {K : PySem.W.Frag} {c P : Addr} {cs : List (Addr × Addr)} (a : PySem.W.CodeHd h c P ∧ h.get? P = some tab0) (b : K.lookup P = none) (t : TabK h K cs) : TabK h K ((c, P) :: cs) := by
  refine ⟨fun p hp => ?_, fun p hp => ?_, fun p hp => ?_⟩
  · rcases List.mem_cons.mp hp with rfl | hp
    · exact a.2
    · exact t.at_ p hp
  · rcases List.mem_cons.mp hp with rfl | hp
    · exact b
    · exact t.out p hp
  · rcases List.mem_cons.mp hp with rfl | hp
    · exact a.1
    · exact t.hd p hp
theorem law_callT {P : Program} {w : World} {K : PySem.W.Frag} {mg mb : Str → Option Value} {k : Nat} {fa a : Addr} {fd : FuncData} {x : Str} {sp : Sp} {t : Shared} {vs : List Value} {ns : List Int} {cs : List (Addr × Addr)}
    (KX : K.In t.heap) (g1 : t.heap.Ns mainGlobals mg) (g2 : t.heap.Ns builtinsNs mb) (g3 : ∀ y : Str, y ≠ "__name__" → mb y = bootBuiltins y) (g4 : t.heap.NoLimit) (g5 : t.gens = #[])
    (g6 : ∃ (bm : Addr) (ob : Obj), mg "__builtins__" = some (.ref bm) ∧ bm ≠ builtinsNs ∧ t.heap.get? bm = some ob ∧ ob.cls = .type "module" ∧ ob.dict = some builtinsNs ∧ ob.data = .plain) (tk : TabK t.heap K cs)
    (ha : t.heap.get? a = some { cls := .type "list", data := .seq vs.toArray }) (hi : IntsAre vs ns) (hl : ns.length ≤ sizeLine) (hr : Room k callerA)
    (F : ∀ bs : Heap, K.In bs → bs.Ns mainGlobals mg → (∀ p ∈ cs, TabB bs mg p.1 p.2) → FnG P w K mg bs CX0 k fa fd [x] sp) (hbi : ∀ (s : Shared) (u : Value), BindsTo s fd ⟨[u], []⟩ [(x, u)])
    (hsp : ∀ H : Hp, (∀ p ∈ cs, H p.2 = some (.tbl #[])) → SqL K H a (ns.map V.int) → sp [.ref a] H (fun v _ => v = .bl true) fun _ _ _ => False) :
    codeAny (model P w) callerA (.call (.ref fa) ⟨[.ref a], []⟩) (fun r s' => r = .ok (.ret (.bool true)) ∧ OldK t.heap s'.heap ∧ s'.os = t.os ∧ AllBare s'.gens) t := by
  have rv := vals_ints hi
  have ist : ∀ b : Addr, b ∈ cs.map (·.2) → t.heap.get? b = some tab0 := fun b hb => by
    obtain ⟨p, hp, rfl⟩ := List.mem_map.mp hb
    exact tk.at_ p hp
  have anot : a ∉ cs.map (·.2) := fun z => by
    have q := ist a z
    rw [ha] at q
    injection q with q
    injection q with q1 q2 q3
    cases q3
  have main : ∀ H : Hp, (∀ p ∈ cs, H p.2 = some (.tbl #[])) → (∀ b, H b = none ∨ b ∈ cs.map (·.2) ∨ ∃ ob xs, H b = some (.frz ob (.lst xs))) → SqL K H a (ns.map V.int) → HOk P w H t.heap → (∀ b, H b ≠ none → b = a ∨ b ∈ cs.map (·.2)) → (H a ≠ none → K.lookup a = none) →
      codeAny (model P w) callerA (.call (.ref fa) ⟨[.ref a], []⟩) (fun r s' => r = .ok (.ret (.bool true)) ∧ OldK t.heap s'.heap ∧ s'.os = t.os ∧ AllBare s'.gens) t := by
    intro H hT only hS hok one out
    have no : ∀ (b : Addr) (o : Obj), t.heap.get? b = some o → (∀ xs n, o.data ≠ .seq xs n) → o.data ≠ .fields #[] → H b = none := by
      intro b o e d1 d2
      cases z : H b with
      | none => rfl
      | some u =>
        rcases one b (by rw [z]; simp) with rfl | q
        · rw [ha] at e
          cases e
          exact absurd rfl (d1 _ _)
        · rw [ist b q] at e
          cases e
          exact absurd rfl d2
    have nod : ∀ (b : Addr) (o : Obj) (es : Array DictEntry) (ep : Nat), t.heap.get? b = some o → o.data = .dict es ep → H b = none := fun b o es ep e d =>
      no b o e (fun xs n z => by rw [d] at z; cases z) fun z => by rw [d] at z; cases z
    have kb : K.In (hidT t.heap H) := by
      intro b o e
      refine hidT_get (KX b o e) ?_
      cases z : H b with
      | none => rfl
      | some u =>
        rcases one b (by rw [z]; simp) with rfl | q
        · rw [out (by rw [z]; simp)] at e
          cases e
        · obtain ⟨p, hp, rfl⟩ := List.mem_map.mp q
          rw [tk.out p hp] at e
          cases e
    have ng : (hidT t.heap H).Ns mainGlobals mg := hid_ns (nod _) g1
    have md : Mod K mg (hidT t.heap H) := ⟨kb, ng, ⟨mb, hid_ns (nod _) g2, g3⟩, g4.elim fun mc h => ⟨mc, hid_ns (nod _) h.1, h.2⟩⟩
    have tb : ∀ p ∈ cs, TabB (hidT t.heap H) mg p.1 p.2 := fun p hp => by
      have atP := tk.at_ p hp
      refine ⟨?_, ?_, fun z => ?_⟩
      · obtain ⟨o, us, file, tf, flags, tg, inF, text, tt, e1, r⟩ := tk.hd p hp
        refine ⟨o, us, file, tf, flags, tg, inF, text, tt, hidT_get e1 (no _ o e1 (fun xs n z => ?_) fun z => ?_), r⟩
        · rw [r.2.1] at z
          cases z
        · have r3 := r.2.2.1
          rw [r.2.1] at z
          cases z
          simp at r3
      · obtain ⟨bm, ob, b1, b2, b3, b4, b5, b6⟩ := g6
        refine ⟨bm, ob, b1, b2, fun q => ?_, fun q => ?_, hidT_get b3 (no _ ob b3 (fun xs n z => ?_) fun z => ?_), b4, b5, b6⟩
        · obtain ⟨o, es, ep, e, d, _⟩ := g1
          rw [q, e] at b3
          cases b3
          rw [d] at b6
          cases b6
        · rw [q, atP] at b3
          cases b3
          cases b6
        · rw [b6] at z
          cases z
        · rw [b6] at z
          cases z
      · obtain ⟨o, es, ep, e, d, _⟩ := g1
        rw [z, atP] at e
        cases e
        cases d
    have ev : Env0 P w K mg (hidT t.heap H) callerA [] t H :=
      ⟨rfl, md, fun b o e => of_hidT e, Nat.le_of_eq (hidT_size _ _), trivial, fun b z => (List.not_mem_nil z).elim, hok, .of_eq g5⟩
    refine codeAny_mono ((F _ kb ng tb).run callerA [] t H ⟨[.ref a], []⟩ [.ref a] [.ref a] _ _ rfl hr ev (hbi t (.ref a)) (.cons rfl .nil) (hsp H hT hS)) fun r s' h => ?_
    match r, h with
    | .error e, h => exact False.elim h
    | .ok .next, h => exact False.elim h
    | .ok .brk, h => exact False.elim h
    | .ok .cont, h => exact False.elim h
    | .ok (.ret u), h =>
      obtain ⟨v, H', os, bare, un, hok2, r2, q⟩ := h
      obtain rfl : v = .bl true := q
      obtain rfl : u = Value.bool true := r2
      have grown : ∀ p ∈ cs, ∃ more : Array Value, s'.heap.get? p.2 = some { cls := .none, data := .fields more } := fun p hp => by
        obtain ⟨more, z⟩ := un.tbls p.2 #[] (hT p hp)
        exact ⟨_, hok2 p.2 _ z⟩
      have same : ∀ b o, b ∉ cs.map (·.2) → t.heap.get? b = some o → s'.heap.get? b = some o := fun b o nb e => by
        rcases only b with z | z | ⟨ob, xs, z⟩
        · exact un.keep b o e z (fun y => (List.not_mem_nil y).elim) (by simp)
        · exact absurd z nb
        · have y1 := (hok b _ z).1
          have y2 := (hok2 b _ (un.frzs b ob _ z)).1
          rw [e] at y1
          cases y1
          exact y2
      refine ⟨rfl, ⟨fun b o e => ?_, fun b o e => ?_⟩, os, bare⟩
      · by_cases hb : b ∈ cs.map (·.2)
        · obtain ⟨p, hp, rfl⟩ := List.mem_map.mp hb
          obtain ⟨more, hm⟩ := grown p hp
          rw [tk.at_ p hp] at e
          cases e
          exact .inr (.inl ⟨((tk.hd p hp).tab (tk.at_ p hp)).isCodeTable, rfl, #[], more, rfl, by rw [Array.empty_append]; exact hm⟩)
        · exact .inl (same b o hb e)
      · by_cases hb : b ∈ cs.map (·.2)
        · obtain ⟨p, hp, rfl⟩ := List.mem_map.mp hb
          obtain ⟨more, hm⟩ := grown p hp
          exact ⟨_, hm⟩
        · exact ⟨o, same b o hb e⟩
  cases hk : K.lookup a with
  | some o =>
    have e := KX a o hk
    rw [ha] at e
    cases e
    have atT : ∀ b, (if b ∈ cs.map (·.2) then some (HO.tbl #[]) else none : Option HO) ≠ none → b ∈ cs.map (·.2) := fun b z => Classical.byContradiction fun q => z (if_neg q)
    refine main (fun b => if b ∈ cs.map (·.2) then some (.tbl #[]) else none) (fun p hp => if_pos (List.mem_map.mpr ⟨p, hp, rfl⟩)) (fun b => ?_) (.inr ⟨_, vs.toArray, _, hk, rfl, rfl, rfl, ?_, ?_⟩) (fun b u z => ?_) (fun b z => .inr (atT b z)) fun z => absurd (atT a z) anot
    · by_cases q : b ∈ cs.map (·.2)
      · exact .inr (.inl q)
      · exact .inl (if_neg q)
    · rw [List.size_toArray, hi.length]
      exact hl
    · simpa using rv
    · have q := atT b (fun n => nomatch (n.symm.trans z : (none : Option HO) = some u))
      have z2 := (if_pos q).symm.trans z
      cases z2
      exact ist b q
  | none =>
    let H : Hp := fun b => if b = a then some (.frz { cls := .type "list", data := .seq vs.toArray } (.lst (ns.map V.int))) else if b ∈ cs.map (·.2) then some (.tbl #[]) else none
    have h1 : H a = some (.frz { cls := .type "list", data := .seq vs.toArray } (.lst (ns.map V.int))) := if_pos rfl
    have h2 : ∀ b, b ∈ cs.map (·.2) → H b = some (.tbl #[]) := fun b q => (if_neg fun z : b = a => anot (by rw [← z]; exact q)).trans (if_pos q)
    have h3 : ∀ b, b ≠ a → b ∉ cs.map (·.2) → H b = none := fun b z q => (if_neg z).trans (if_neg q)
    refine main H (fun p hp => h2 _ (List.mem_map.mpr ⟨p, hp, rfl⟩)) (fun b => ?_) (.inl (.inr ⟨_, h1⟩)) (fun b u z => ?_) (fun b z => ?_) fun _ => hk
    · by_cases e : b = a
      · exact .inr (.inr ⟨_, _, by rw [e]; exact h1⟩)
      · by_cases q : b ∈ cs.map (·.2)
        · exact .inr (.inl q)
        · exact .inl (h3 b e q)
    · by_cases e : b = a
      · rw [e] at z ⊢
        rw [h1] at z
        cases z
        exact ⟨ha, by rw [List.length_map]; exact hl, vs, _, rv, ha⟩
      · by_cases q : b ∈ cs.map (·.2)
        · rw [h2 b q] at z
          cases z
          exact ist b q
        · rw [h3 b e q] at z
          cases z
    · by_cases e : b = a
      · exact .inl e
      · by_cases q : b ∈ cs.map (·.2)
        · exact .inr q
        · exact absurd (h3 b e q) z
/-- what is known of the law's promise at the head's heap -/
def LawT (P : Program) (w : World) (K : PySem.W.Frag) (k n : Nat) (x : Str) (mg : Str → Option Value) (fa : Addr) (h : Heap) : Prop :=
  ∃ (fd : FuncData) (cs : List (Addr × Addr)) (sp : Sp), TabK h K cs ∧ (∀ (s : Shared) (u : Value), BindsTo s fd ⟨[u], []⟩ [(x, u)]) ∧
    (∀ (H : Hp) (a : Addr) (ns : List Int), ns.length ≤ n → (∀ p ∈ cs, H p.2 = some (.tbl #[])) → SqL K H a (ns.map V.int) → sp [.ref a] H (fun v _ => v = .bl true) fun _ _ _ => False) ∧
    ∀ bs : Heap, K.In bs → bs.Ns mainGlobals mg → (∀ p ∈ cs, TabB bs mg p.1 p.2) → FnG P w K mg bs CX0 k fa fd [x] sp
theorem walk_ofT {l : PySem.W.OpenLaw} {n k : Nat} {q : Program} {loose : List Str} {XP : (Str → Option Value) → Heap → Prop} {YP : World → Heap → Prop} {d : DefRec} {K : Params → PySem.W.Frag} {x : Str}
    (hn : l.most = some n) (hn2 : n ≤ sizeLine) (hdf : d.params.defaults = []) (hr : Room k callerA) (hY : ∀ (w : World) (h : Heap), YP w h → (K w.params).In h)
    (F : ∀ (w : World) (mg : Str → Option Value) (fa : Addr) (h : Heap), (K w.params).In h → h.Ns mainGlobals mg → mg d.name = some (.ref fa) →
      (∀ (y : Str) (dr : DefRec) (c P : Addr), (recsOf q).find? (fun e => e.name == y) = some dr → PySem.W.tabIn (K w.params) y = some (c, P) → PySem.W.CodeHd h c P ∧ h.get? P = some tab0) → LawT l.prog w (K w.params) k n x mg fa h) :
    PySem.W.WalkO q loose XP YP l.row.toRowW d [] (fun f vs => PySem.call f vs) := by
  refine Att.attach_call hn hdf fun w s₀ t mg mb fa o pm cd doc a vs ns G Y ho hd hcd hmg hobj hints hlen hg => ?_
  have KX := hY w _ Y
  obtain ⟨fd, cs, sp, tk, hb, hsp, hF⟩ := F w mg fa _ KX G.T.g hmg fun y dr c P e1 e2 => PySem.W.tab_of G.T KX e1 e2
  exact law_callT KX G.T.g G.T.b G.T.builtins G.T.nolimit hg G.T.bmain tk hobj hints (Nat.le_trans hlen hn2) hr hF hb fun H hT hS => hsp H a ns hlen hT hS
end Su
/-! ### SO: sorted of a list of data of any depth -/
namespace Su
open PySem PySem.Spec PyProof.Rows L2
abbrev srtD (zs : List (V × PyData)) : List (V × PyData) := zs.mergeSort (PySem.W.dataLe false (fun z : V × PyData => z.2))
def rSortedDt (K : PySem.W.Frag) : List V → Hp → VK → Prop := fun vs H Q => ∃ (a : Addr) (zs : List (V × PyData)), vs = [.ref a] ∧ SqL K H a (zs.map (·.1)) ∧ (∀ z ∈ zs, Dp K H z.1 z.2) ∧ PySem.W.AllAlike (zs.map (·.2)) ∧ PySem.W.Sortable (zs.map (·.2)) ∧ (∀ z ∈ zs, z.2.depth ≤ 60) ∧
  ∀ p, H p = none → Q (.ref p) (L2.upd H p (.lst ((srtD zs).map (·.1))))
section
variable {X : Cx} {pins : List (Addr × Obj)} {σ : L2.St} {H : Hp} {s : Shared}
theorem each_rel : ∀ {zs : List (V × PyData)} {us : List Value}, Vals (zs.map (·.1)) us → PySem.W.EachIs (fun u (z : V × PyData) => RelV z.1 u) us zs
  | [], _, r => by cases r; exact .nil
  | z :: zs, _, r => by
    cases r with
    | cons r1 r2 => exact .cons r1 (each_rel r2)
theorem rel_each : ∀ {zs : List (V × PyData)} {us : List Value}, PySem.W.EachIs (fun u (z : V × PyData) => RelV z.1 u) us zs → Vals (zs.map (·.1)) us
  | [], _, r => by cases r; exact .nil
  | z :: zs, _, r => by
    cases r with
    | cons r1 r2 => exact .cons r1 (rel_each r2)
theorem each_reads (I : Inv X pins σ H s) : ∀ {zs : List (V × PyData)} {us : List Value}, Vals (zs.map (·.1)) us → (∀ z ∈ zs, Dp X.K H z.1 z.2) → PySem.W.EachIs (fun u (z : V × PyData) => ∃ as, Reads s.heap u z.2 as) us zs
  | [], _, r, _ => by cases r; exact .nil
  | z :: zs, _, r, h => by
    cases r with
    | cons r1 r2 => exact .cons (Dp.reads I _ _ _ (h z List.mem_cons_self) r1) (each_reads I r2 fun x hx => h x (List.mem_cons_of_mem _ hx))
end
theorem cr_sortedDt {X : Cx} (hu : X.A.units + 65 < cLine) : CallR X (.builtin "sorted") (rSortedDt X.K) := by
  intro pins s σ H vs us Q I r h
  obtain ⟨a, zs, rfl, hs, hd, hal, hk, hdp, q⟩ := h
  obtain ⟨its, rv, hl, hz⟩ := I.list hs
  rw [Vals.ref1 r]
  rw [List.length_map] at hz
  refine PySem.W.sorted_data (enc := fun z : V × PyData => z.2) hl.isList (each_rel rv) (each_reads I rv hd) hal hk hz (fun b hb => ?_) fun out h1 h2 => ?_
  · have := hdp b hb
    omega
  · obtain ⟨ep, he'⟩ := PyProof.Rows.sortedAll_at s.heap its out.toArray
    have hlen : ((srtD zs).map (·.1)).length ≤ sizeLine := by
      rw [List.length_map, List.length_mergeSort]
      exact hz
    exact ⟨.ref _, L2.upd H (s.heap.objs.size + 1) (.lst ((srtD zs).map (·.1))), I.laid (t' := s.toks) (fun _ _ => PyProof.Rows.sortedAll_old) (Nat.le_succ _) ⟨hlen, out, ep, rel_each h2, he'⟩, rfl, q _ (I.hok.fresh (Nat.le_succ _))⟩
end Su
/-! ### LC2: list comprehensions with two clauses: the form for a list, then a list or a tuple -/
namespace Su
open PySem PySem.Spec PyProof.Rows L2
/-- the second clause's own turns -/
def Inn2 (D : Addr) (g1 : TG) (tt1 : TT) (te : TE) (vs1 : List Nat) (σ2 : L2.St) (J1 : It) (H4 : Hp) (Nx : Hp → Prop) : Prop := ∃ W1 : Nat → Nat → Hp → Prop, (∃ m, W1 0 m H4) ∧ ∀ j k H, W1 j k H →
  (J1.stop j H ∧ Nx H) ∨ (J1.go j H ∧ ∃ Nx1 : Hp → Prop, (∀ H', Nx1 H' → ∃ k', k' < k ∧ W1 (j + 1) k' H') ∧ ∀ x H', J1.yld j H x H' → g1 x (wipe σ2 vs1) H' fun σ3 H5 => wipe σ3 vs1 = wipe σ2 vs1 ∧ tt1 σ3 H5 fun b H6 =>
    if b = true then te σ3 H6 fun y H7 => ∃ acc, H7 D = some (.lst acc) ∧ acc.length < sizeLine ∧ Nx1 (upd H7 D (.lst (acc ++ [y]))) else Nx1 H6)
section
variable {K : PySem.W.Frag} {a : Addr} {xs : List V} {g g1 : TG} {tt tt1 : TT} {te : TE} {wi1 : TI} {vs vs1 : List Nat} {σ σ2 : L2.St} {H1 H4 : Hp} {D : Addr}
theorem lc2_list {Qd : Hp → Prop} (Pv : Nat → Hp → Prop) (h0 : Pv 0 (upd H1 D (.lst []))) (hl : ∀ i H, i ≤ xs.length → Pv i H → SqL K H a xs)
    (hs : ∀ i x H, xs[i]? = some x → Pv i H → g x (wipe σ vs) H fun σ2 H2 => wipe σ2 vs = wipe σ vs ∧ tt σ2 H2 fun b H3 => if b = true then wi1 σ2 H3 fun J1 H4 => Inn2 D g1 tt1 te vs1 σ2 J1 H4 (Pv (i + 1)) else Pv (i + 1) H3)
    (hd : ∀ H, Pv xs.length H → Qd H) :
    ∃ W : Nat → Nat → Hp → Prop, (∃ m, W 0 m (upd H1 D (.lst []))) ∧ ∀ i m H, W i m H →
      ((Itl K a).stop i H ∧ Qd H) ∨ ((Itl K a).go i H ∧ ∃ Nx : Hp → Prop, (∀ H', Nx H' → ∃ m', m' < m ∧ W (i + 1) m' H') ∧ ∀ x H', (Itl K a).yld i H x H' → g x (wipe σ vs) H' fun σ2 H2 => wipe σ2 vs = wipe σ vs ∧ tt σ2 H2 fun b H3 =>
        if b = true then wi1 σ2 H3 fun J1 H4 => Inn2 D g1 tt1 te vs1 σ2 J1 H4 Nx else Nx H3) := by
  refine ⟨fun i m H => m = xs.length - i ∧ i ≤ xs.length ∧ Pv i H, ⟨xs.length, rfl, Nat.zero_le _, h0⟩, ?_⟩
  rintro i m H ⟨rfl, hi, p⟩
  have q := hl i H hi p
  by_cases c : i < xs.length
  · refine .inr ⟨⟨xs, xs[i], q, List.getElem?_eq_getElem c⟩, Pv (i + 1), fun H' p' => ⟨xs.length - (i + 1), by omega, rfl, c, p'⟩, fun x H' y => ?_⟩
    obtain ⟨rfl, y⟩ := y
    exact hs i x _ (y xs q) p
  · obtain rfl : i = xs.length := by omega
    exact .inl ⟨⟨xs, q, Nat.le_refl _⟩, hd H p⟩
theorem inn_list {Nx : Hp → Prop} (R : Nat → Hp → Prop) (h0 : R 0 H4) (hl : ∀ i H, i ≤ xs.length → R i H → SqL K H a xs)
    (hs : ∀ i x H, xs[i]? = some x → R i H → g1 x (wipe σ2 vs1) H fun σ3 H5 => wipe σ3 vs1 = wipe σ2 vs1 ∧ tt1 σ3 H5 fun b H6 => if b = true then te σ3 H6 fun y H7 => ∃ acc, H7 D = some (.lst acc) ∧ acc.length < sizeLine ∧ R (i + 1) (upd H7 D (.lst (acc ++ [y]))) else R (i + 1) H6)
    (hd : ∀ H, R xs.length H → Nx H) : Inn2 D g1 tt1 te vs1 σ2 (Itl K a) H4 Nx := by
  refine ⟨fun i m H => m = xs.length - i ∧ i ≤ xs.length ∧ R i H, ⟨xs.length, rfl, Nat.zero_le _, h0⟩, ?_⟩
  rintro i m H ⟨rfl, hi, p⟩
  have q := hl i H hi p
  by_cases c : i < xs.length
  · refine .inr ⟨⟨xs, xs[i], q, List.getElem?_eq_getElem c⟩, R (i + 1), fun H' p' => ⟨xs.length - (i + 1), by omega, rfl, c, p'⟩, fun x H' y => ?_⟩
    obtain ⟨rfl, y⟩ := y
    exact hs i x _ (y xs q) p
  · obtain rfl : i = xs.length := by omega
    exact .inl ⟨⟨xs, q, Nat.le_refl _⟩, hd H p⟩
theorem inn_tup {Nx : Hp → Prop} (R : Nat → Hp → Prop) (h0 : R 0 H4) (hl : ∀ i H, i ≤ xs.length → R i H → SqT K H a xs)
    (hs : ∀ i x H, xs[i]? = some x → R i H → g1 x (wipe σ2 vs1) H fun σ3 H5 => wipe σ3 vs1 = wipe σ2 vs1 ∧ tt1 σ3 H5 fun b H6 => if b = true then te σ3 H6 fun y H7 => ∃ acc, H7 D = some (.lst acc) ∧ acc.length < sizeLine ∧ R (i + 1) (upd H7 D (.lst (acc ++ [y]))) else R (i + 1) H6)
    (hd : ∀ H, R xs.length H → Nx H) : Inn2 D g1 tt1 te vs1 σ2 (Itt K a) H4 Nx := by
  refine ⟨fun i m H => m = xs.length - i ∧ i ≤ xs.length ∧ R i H, ⟨xs.length, rfl, Nat.zero_le _, h0⟩, ?_⟩
  rintro i m H ⟨rfl, hi, p⟩
  have q := hl i H hi p
  by_cases c : i < xs.length
  · refine .inr ⟨⟨xs, xs[i], q, List.getElem?_eq_getElem c⟩, R (i + 1), fun H' p' => ⟨xs.length - (i + 1), by omega, rfl, c, p'⟩, fun x H' y => ?_⟩
    obtain ⟨rfl, y⟩ := y
    exact hs i x _ (y xs q) p
  · obtain rfl : i = xs.length := by omega
    exact .inl ⟨⟨xs, q, Nat.le_refl _⟩, hd H p⟩
end
end Su
/-! ### XH: a def with defaults that may let an exception out, called with all its arguments -/
namespace Su
open PySem PySem.Spec PyProof.Rows L2
theorem cal_ofXD {P : Program} {w : World} {K : PySem.W.Frag} {mg : Str → Option Value} {base : Heap} {x : Str} {st : Stmt} {N ps : List Str} {dvs : List V} {k : Nat} {sp : Sp} (T : AtD K mg x st ps dvs) (S : FnScope N ps (defScope st)) (len : ∀ vs H Q E, sp vs H Q E → vs.length = ps.length)
    (hb : ∀ (f : Addr) (cdv : Value) (A : Around) (outer : List Env) (s : Shared) (H : Hp) (vs : List V) (Q : VK) (E : XK), Room k (A.deeper (envOfC x (defScope st) s.heap.objs.size f cdv)) → sp vs H Q E →
      ∃ t, PSs (cxOf (L2.CX P w) P w K mg base N x (defScope st) f cdv A outer s H E) (defBody st) t ∧ t { nx := fun _ H' => Q .non H', rt := Q } (start N vs) H) : CalX P w K mg base (k + 1) x ps sp := by
  obtain ⟨f, fd, F, hm, b⟩ := T.ex
  obtain ⟨ds, hv, hbd⟩ := b dvs.length (Nat.le_refl _)
  rw [List.drop_length] at hv
  cases hv
  have z : ∃ o : Obj, K.lookup f = some o ∧ o.data = .func fd := by
    obtain ⟨_, _, _, _, _, _, _, _, _, _, _, lk, _⟩ := F.ex
    exact ⟨_, lk, rfl⟩
  exact ⟨f, fd, F.ok S len (fun cdv A outer s H vs Q E => hb f cdv A outer s H vs Q E), hm, F.kp, hbd, z⟩
end Su
/-! ### WP: slots of a comprehension's own names, forgotten -/
namespace Su
open PySem PySem.Spec PyProof.Rows L2
theorem wipe_in {σ : L2.St} {i : Nat} : ∀ {vs : List Nat}, i ∈ vs → (wipe σ vs)[i]? = (σ[i]?).map fun _ => none
  | [], h => by cases h
  | v :: vs, h => by
    unfold wipe
    rw [List.getElem?_set]
    by_cases e : v = i
    · subst e
      rw [if_pos rfl, wipe_length]
      by_cases l : v < σ.length
      · rw [if_pos l, List.getElem?_eq_getElem l]
        rfl
      · rw [if_neg l, List.getElem?_eq_none (by omega)]
        rfl
    · rw [if_neg e]
      rcases List.mem_cons.mp h with h | h
      · exact absurd h.symm e
      · exact wipe_in h
theorem wipe_set {σ : L2.St} {v : Nat} {x : Option V} {vs : List Nat} (h : v ∈ vs) : wipe (σ.set v x) vs = wipe σ vs := by
  apply List.ext_getElem?
  intro i
  by_cases c : i ∈ vs
  · rw [wipe_in c, wipe_in c, List.getElem?_set]
    by_cases e : v = i
    · subst e
      rw [if_pos rfl]
      by_cases l : v < σ.length
      · rw [if_pos l, List.getElem?_eq_getElem l]
        rfl
      · rw [if_neg l, List.getElem?_eq_none (by omega)]
    · rw [if_neg e]
  · rw [wipe_out c, wipe_out c, List.getElem?_set, if_neg (fun e : v = i => c (by rw [← e]; exact h))]
theorem wipe_wipe (σ : L2.St) (vs : List Nat) : wipe (wipe σ vs) vs = wipe σ vs := by
  apply List.ext_getElem?
  intro i
  by_cases c : i ∈ vs
  · rw [wipe_in c, wipe_in c]
    cases σ[i]? <;> rfl
  · rw [wipe_out c]
theorem wipe4 {σ : L2.St} {vs : List Nat} {a b c d : Nat} {x y z w : Option V} (ha : a ∈ vs) (hb : b ∈ vs) (hc : c ∈ vs) (hd : d ∈ vs) : wipe (((((wipe σ vs).set a x).set b y).set c z).set d w) vs = wipe σ vs := by
  rw [wipe_set hd, wipe_set hc, wipe_set hb, wipe_set ha, wipe_wipe]
end Su
/-! ### CT: l.count(x), truths -/
namespace Su
open PySem PySem.Spec PyProof.Rows L2
section
variable {X : Cx}
def rLCntB (K : PySem.W.Frag) : V → List V → Hp → VK → Prop := fun x xs H Q => ∃ (p : Addr) (bs : List Bool) (b : Bool), x = .ref p ∧ xs = [.bl b] ∧ SqL K H p (bs.map V.bl) ∧ Q (.int (bs.count b : Nat)) H
theorem dp_bools {K : PySem.W.Frag} {H : Hp} : ∀ bs : List Bool, DpAll K H (bs.map V.bl) (bs.map PyData.bool)
  | [] => .nil
  | b :: bs => .cons (.bl b) (dp_bools bs)
theorem plain_bools : ∀ bs : List Bool, PyData.plainAll (bs.map PyData.bool) = true
  | [] => by first | rfl | simp [PyData.plainAll]
  | n :: ns => by
    rw [List.map_cons]
    have ih := plain_bools ns
    first
      | simp only [PyData.plainAll, PyData.plain, ih, Bool.and_self]
      | simp [PyData.plainAll, PyData.plain, ih]
theorem countP_bools (bs : List Bool) (b : Bool) : ((bs.map PyData.bool).countP fun y => PyData.eqv y (.bool b)) = bs.count b := by
  rw [List.countP_map, List.count]
  congr 1
theorem mt_lcountB (hu : X.A.units + 1 < cLine) : MtR X "list.count" (rLCntB X.K) := by
  intro pins s σ H x xs v us Q I rx rs h
  obtain ⟨p, bs, b, rfl, rfl, hs, q⟩ := h
  cases rx
  obtain ⟨u, rfl, ru⟩ := rs.one
  obtain rfl : u = .bool b := ru
  obtain ⟨its, rv, hl, hlen⟩ := I.list hs
  obtain ⟨as, ra⟩ := Dp.readsAll I (bs.map PyData.bool) _ _ (dp_bools bs) rv
  refine PySem.SeqAt.count_list_data (vs := its.toArray) hl.isList (by simpa using ra) (Reads.bool b) (plain_bools bs) (by first | rfl | simp [PyData.plain]) (by
    have e : (PyData.bool b).depth = 0 := by simp [PyData.depth]
    rw [e, Nat.min_zero]
    omega) ?_
  rw [countP_bools]
  exact ⟨.int (bs.count b : Nat), H, I.tok _, ⟨_, rfl⟩, q⟩
end
end Su
/-! ### XG: a try with any number of clauses `except X as n`, the exception tracked in its suite -/
namespace Su
open PySem PySem.Spec PyProof.Rows L2
inductive HdsIn (X : Cx) : List ExceptHandler → (Ends → WX → WX) → Prop
  | nil : HdsIn X [] (fun _ Wo => Wo)
  | cons {x n : Str} {c : Value} {i : Nat} {suite : List Stmt} {b0 : Stmt} {np pos' : Pos} {ts : Addr → List (Addr × Obj) → TS} {hds : List ExceptHandler} {g : Ends → WX → WX} (hN : X.N.Nodup) (hi : X.N[i]? = some n) (hln : X.env.kindOf n = some .local) (hc : Names X x c)
      (hsu : ∀ (a : Addr) (pn : List (Addr × Obj)), PSs (X.suite a pn) (b0 :: suite) (ts a pn)) (rest : HdsIn X hds g) : HdsIn X (.ExceptHandler (some (.Name x np)) (some n) (b0 :: suite) pos' :: hds) (fun D Wo => wIn X.K c i ts (g D Wo) D)
def tTryIns (g : Ends → WX → WX) (Wo : WX) (tb : WX → TS) : TS := fun D σ H => tb (g D Wo) D σ H
section
variable {X : Cx} {body : List Stmt} {pos : Pos} {tb : WX → TS} {Wo : WX} {h0 : ExceptHandler} {hds : List ExceptHandler} {g : Ends → WX → WX}
theorem ps_try_ins (hex : X.ex = []) (hs : X.stack = X.env :: X.outer) (hf : X.env.frame = some X.env.locals) (tk : Takes X Wo)
    (hb : ∀ (W : WX) (pn : List (Addr × Obj)) (xe : Value → Shared → Prop), Takes (X.tr pn xe) W → PassesOwn (model X.prog X.w) X.A X.env xe → PSs (X.tr pn xe) body (tb W))
    (hh : HdsIn X (h0 :: hds) g) :
    PS X (.Try body (h0 :: hds) [] [] pos) (tTryIns g Wo tb) := by
  refine ⟨fun pins s σ H D I h => ?_⟩
  have ok := I.ok
  have frm : X.A.frames = some (X.env :: X.outer) := by
    rw [ok.frames, hs]
  refine wpAny_Try_except ?_
  refine wpAny_mono ((hb (g D Wo) (X.pn ++ pins) (fun u t => wpAny (model X.prog X.w) X.A (noteFrame u X.env) (fun _ t2 => wpAny (model X.prog X.w) X.A (setFlight u none) (fun _ t3 =>
    wpAny (model X.prog X.w) X.A (handleBy u X.env (h0 :: hds)) (SP X pins D) X.xe t3) X.xe t2) X.xe t) (fun u t xx => ?_) PassesOwn.looking).run [] s σ H D (I.toTry _) h) (fun fl t hsp => ?_) (fun _ _ z => z)
  · obtain ⟨a, B, sI, pins2, τ, G, cls, d, rfl, Jt, nb, up, sky, na, os, ag, hw⟩ := xx
    have J : Inv X pins τ G sI := Jt.ofTry ok
    have sky2 : Sky B (X.env :: X.outer) a (Zc cls d) X.env.locals t.heap := by
      rw [← hs]
      exact sky
    show wpAny (model X.prog X.w) X.A (noteFrame (.ref a) X.env) _ _ _
    refine Sky.land Zc.steady frm hf sky2 fun g3 fl3 up3 => ?_
    have J3 : Inv X pins τ G { t with heap := g3 } := J.landed nb fl3.1 (up.trans up3) os ag
    obtain ⟨oe3, vs3, at3, zc3, dt3⟩ := fl3.there
    have nofr : a ∉ frs (X.env :: X.outer) := by
      intro hm
      obtain ⟨_, o', e', hnf⟩ := fl3.2.2.1.mem hm
      rw [at3] at e'
      cases e'
      exact hnf _ dt3
    have nL : a ≠ X.env.locals := fun z => nofr (List.mem_filterMap.mpr ⟨X.env, List.mem_cons_self, by rw [hf, z]⟩)
    have nF : a ∉ X.fs := by
      intro hm
      obtain ⟨e, he, q⟩ := List.mem_filterMap.mp hm
      exact nofr (List.mem_filterMap.mpr ⟨e, List.mem_cons_of_mem _ he, q⟩)
    -- it wasn't there ahead
    have gone : sI.heap.get? a = none := by
      cases z : sI.heap.get? a with
      | none => rfl
      | some o =>
        have y := nb a o z (by rw [hs]; exact nofr)
        rw [fl3.2.1] at y
        cases y
    have gone0 : X.s_0.heap.get? a = none := by
      cases z : X.s_0.heap.get? a with
      | none => rfl
      | some o =>
        obtain ⟨o', y⟩ := J.base.there a o z (by rw [hex]; simp)
        rw [gone] at y
        cases y
    have noc : ∀ y k, X.env.cells.lookup y = some k → k ≠ a := by
      rintro y k e rfl
      obtain ⟨v, o, e1, _⟩ := J.cell y k e
      rw [gone] at e1
      cases e1
    have nop : ∀ q ∈ X.pn ++ pins, q.1 ≠ a := by
      intro q hq e
      have y := (J.pin q hq).1
      rw [e, gone] at y
      cases y
    have S3 := J3.suite at3 dt3 na nL nF
    have LT : PySem.W.Looks (model X.prog X.w) g3 (typeOf (.ref a)) cls := fun A Q E s k q => wpAny_typeOf_ref (k _ _ at3) (by rw [zc3.1]; exact q)
    have key : ∀ (hl : List ExceptHandler) (g : Ends → WX → WX), HdsIn X hl g → g D Wo cls d τ G → wpAny (model X.prog X.w) X.A (handleBy (.ref a) X.env hl) (SP X pins D) X.xe { t with heap := g3 } := by
      intro hl g hh
      induction hh with
      | nil =>
        intro hno
        refine wpAny_handleBy_nil ?_
        obtain ⟨k1, k2, k3, oe, vs, T, oT, ts', he, hz, hd, h1, hr⟩ := id fl3
        unfold PySem.passOn
        refine wpAny_bind (wpAny_field he hd h1 ?_)
        rw [if_neg (show ¬ ((Value.ref T == Value.none) = true) from by simp)]
        have away : wpAny (model X.prog X.w) X.A (setFlight (.ref a) X.env.frame) (fun _ t4 => wpAny (model X.prog X.w) X.A (throw (.ref a) : Sem Flow) (SP X pins D) X.xe t4) X.xe { t with heap := g3 } := by
          rw [hf]
          refine HandSPX.setFlight_upZ fl3 fun g4 hh4 up4 => wpAny_throw (tk _ _ ?_)
          exact ⟨a, B, sI, pins, τ, G, cls, d, rfl, J, nb, (up.trans up3).trans up4, .inr (.inr (by rw [hs]; exact hh4)), na, os, ag, hno⟩
        first
          | exact wpAny_bind (wpAny_pure (wpAny_bind away))
          | exact wpAny_bind away
      | cons hN hi hln hc hsu rest ih =>
        rename_i x n c i suite b0 np pos' ts hds g
        intro hw
        obtain ⟨b, hb1, hyes, hno⟩ := hw
        refine wpAny_handleBy_cons (codeAny_handlers_test ?_) (by intro q; cases q)
        have LM := PySem.W.exm_one (M := model X.prog X.w) (J3.kIn) LT hb1
        have asked : ∀ {Q : Value → Shared → Prop} {E : Value → Shared → Prop}, Q c { t with heap := g3 } → wpAny (model X.prog X.w) (X.A.mark (some (.ref a))) (eval (.Name x np) X.env) Q E { t with heap := g3 } := by
          intro Q E q
          obtain ⟨hg, hdbg, hm | ⟨hm, hv, hnn⟩⟩ := hc
          · exact ld_glob (X := X.suite a ((a, oe3) :: (X.pn ++ pins))) S3 hg hm q hdbg
          · exact ld_blt (X := X.suite a ((a, oe3) :: (X.pn ++ pins))) S3 hg hm hv q hnn hdbg
        refine asked (LM.here ?_)
        cases b with
        | true =>
          refine codeAny_handlers_suite_as (HandSPX.lands_againZ fl3 fun g4 fl4 up4 => ?_)
          have J4 : Inv X pins τ G { t with heap := g4 } := J.landed nb fl4.1 ((up.trans up3).trans up4) os ag
          obtain ⟨oe4, vs4, at4, zc4, dt4⟩ := fl4.there
          have J5 : Inv X pins τ (upd G a (exK a cls d)) { t with heap := g4 } := track J4 na gone0 nL noc nop (exK_ok at4 zc4 dt4)
          have S4 : Inv (X.suite a (X.pn ++ pins)) [] τ (upd G a (exK a cls d)) { t with heap := g4 } := ⟨J5.ok.suite _ _, J5.os, J5.bare, J5.base, J5.loc, J5.cell, J5.free, J5.freeC, fun p hp => J5.pin p (by rw [List.append_nil] at hp; exact hp), J5.hok, J5.len⟩
          refine store_ok (X := X.suite a (X.pn ++ pins)) (v := .ref a) S4 hN hi (.inl hln) rfl (fun t5 S5 => ?_) (.inr hln)
          refine wpAny_mono ((hsu a (X.pn ++ pins)).run [] t5 _ _ _ S5 (hyes rfl a _ na)) (fun fl t6 hsp => ?_) (fun _ _ z => False.elim z)
          have end_ : ∀ {σ6 : L2.St} {H6 : Hp} {Q : Shared → Prop}, Inv (X.suite a (X.pn ++ pins)) [] σ6 H6 t6 → (∀ t7, Inv X pins (σ6.set i none) H6 t7 → Q t7) →
              wpAny (model X.prog X.w) X.A (do bindName X.env n .none; unbindBehindTheSuite X.env n pos') (fun _ t7 => Q t7) X.xe t6 := fun {σ6 H6 Q} S6 hq => by
            have J6 : Inv X pins σ6 H6 t6 := ⟨ok, S6.os, S6.bare, S6.base, S6.loc, S6.cell, S6.free, S6.freeC, fun p hp => S6.pin p (List.mem_append_left _ hp), S6.hok, S6.len⟩
            exact gone_ok J6 hN hi hln hq
          cases fl with
          | next =>
            obtain ⟨σ6, H6, S6, q6⟩ := hsp
            exact end_ S6 fun t7 J7 => ⟨_, _, J7, q6⟩
          | brk =>
            obtain ⟨σ6, H6, S6, q6⟩ := hsp
            exact end_ S6 fun t7 J7 => ⟨_, _, J7, q6⟩
          | cont =>
            obtain ⟨σ6, H6, S6, q6⟩ := hsp
            exact end_ S6 fun t7 J7 => ⟨_, _, J7, q6⟩
          | ret u =>
            obtain ⟨v6, σ6, H6, S6, r6, q6⟩ := hsp
            exact end_ S6 fun t7 J7 => ⟨_, _, _, J7, r6, q6⟩
        | false =>
          exact ih (hno rfl)
    exact key _ _ hh hw
  · cases fl with
    | next =>
      obtain ⟨τ, G, J, q⟩ := hsp
      exact wpAny_execs_nil ⟨τ, G, J.ofTry ok, q⟩
    | brk =>
      obtain ⟨τ, G, J, q⟩ := hsp
      exact ⟨τ, G, J.ofTry ok, q⟩
    | cont =>
      obtain ⟨τ, G, J, q⟩ := hsp
      exact ⟨τ, G, J.ofTry ok, q⟩
    | ret u =>
      obtain ⟨v, τ, G, J, r, q⟩ := hsp
      exact ⟨v, τ, G, J.ofTry ok, r, q⟩
end
end Su
/-! ### CG: defs that write things out (without k04's MX) -/
namespace Su
open PySem PySem.Spec PyProof.Rows L2
structure CalG (P : Program) (w : World) (K : PySem.W.Frag) (mg : Str → Option Value) (base : Heap) (k : Nat) (x : Str) (ps : List Str) (sp : Sp) : Prop where
  ex : ∃ (f : Addr) (fd : FuncData), FnG P w K mg base CX0 k f fd ps sp ∧ mg x = some (.ref f) ∧ PySem.W.keepIn K (.ref f) = true ∧ Binds K fd ps []
section
variable {X : Cx} {k j : Nat} {x : Str} {ps : List Str} {sp : Sp} {e : Expr} {es : List Expr} {t : TA} {pos p : Pos}
theorem pe_ownG (C : CalG X.prog X.w X.K X.mg X.base k x ps sp) (hgd : X.A.guards = some []) (hr : Room j X.A) (hk : k ≤ j) (hg : Gl X x) (ha : PA X (e :: es) t)
    (hdb : (x == ("__debug__" : Str)) = false := by decide) (he : starEach (e :: es) X.env = (false, eval e X.env) :: starEach es X.env := by rfl) (hpl : (backTo pos (starEach es X.env)).any (·.1) = false := by rfl) :
    PE X (.Call (.Name x p) (e :: es) [] pos) (tCall sp [] E0 t) := by
  obtain ⟨f, fd, F, hm, kp, b⟩ := C.ex
  refine ⟨fun pins s σ H Q I h => ?_⟩
  refine wpAny_Call_Name_kw (ld_glob I hg hm ?_ hdb)
  refine PySem.W.callWith_K (h₀ := X.base) I.ok.mod.kin kp (thn (ha.run pos pins s σ H _ I h) fun us s1 ⟨vs, H1, I1, r, q⟩ => ⟨I1.kIn, ?_⟩) he hpl
  have q2 : sp (vs ++ []) H1 Q E0 := q
  rw [List.append_nil] at q2
  exact run_fnG ⟨hr.mono hk, rfl⟩ hgd F b I1 r q2
end
section
variable {P : Program} {w : World} {K : PySem.W.Frag} {mg : Str → Option Value} {base : Heap}
theorem cal_ofG {x : Str} {st : Stmt} {N ps : List Str} {k : Nat} {sp : Sp} (T : At K mg x st ps) (S : FnScope N ps (defScope st)) (len : ∀ vs H Q E, sp vs H Q E → vs.length = ps.length)
    (hb : ∀ (f : Addr) (cdv : Value) (A : Around) (outer : List Env) (s : Shared) (H : Hp) (vs : List V) (Q : VK) (E : XK), (A.deeper (envOfC x (defScope st) s.heap.objs.size f cdv)).guards = some [] → Room k (A.deeper (envOfC x (defScope st) s.heap.objs.size f cdv)) → sp vs H Q E →
      ∃ t, PSs (cxOf CX0 P w K mg base N x (defScope st) f cdv A outer s H E).nox (defBody st) t ∧ t { nx := fun _ H' => Q .non H', rt := Q } (start N vs) H) : CalG P w K mg base (k + 1) x ps sp := by
  obtain ⟨f, fd, F, hm, b⟩ := T.ex
  exact ⟨f, fd, fnG_fun F S len (fun cdv A outer s H vs Q E hg hr h => hb f cdv A outer s H vs Q E hg hr h), hm, F.kp, b⟩
end
end Su
/-! ### CG0: a def without arguments, called where nothing is being written out -/
namespace Su
open PySem PySem.Spec PyProof.Rows L2
section
variable {X : Cx} {k j : Nat} {C : Addr} {x : Str} {ps : List Str} {sp : Sp} {p pos : Pos} {dvs : List V}
theorem pe_ownG0 (C : CalG X.prog X.w X.K X.mg X.base k x ps sp) (hgd : X.A.guards = some []) (hr : Room j X.A) (hk : k ≤ j) (hg : Gl X x) (hdb : (x == ("__debug__" : Str)) = false := by decide) :
    PE X (.Call (.Name x p) [] [] pos) (tCall sp [] E0 tNil) := by
  obtain ⟨f, fd, F, hm, kp, b⟩ := C.ex
  refine ⟨fun pins s σ H Q I h => ?_⟩
  refine wpAny_Call_Name_kw (ld_glob I hg hm ?_ hdb)
  refine PySem.W.callWith_K0 I.kIn kp ?_
  exact run_fnG ⟨hr.mono hk, rfl⟩ hgd F b I (us := []) (vs := []) .nil h
end
end Su
namespace Su
open PySem PySem.Spec PyProof.Rows L2
def topS (i : Nat) : Stmt := PySem.Challenge.pw_surehand_k42_all_that_may_lie.main.body.getD i (.Pass ⟨0, 0, 0, 0⟩)
abbrev s_HandError : Stmt := topS 1
abbrev s_NoShelf : Stmt := topS 2
abbrev s_NoWeb : Stmt := topS 3
abbrev s_TooMany : Stmt := topS 4
abbrev s_is_whole : Stmt := topS 11
abbrev sIsWhole : Stmt := topS 11
abbrev s_is_room : Stmt := topS 12
abbrev sIsRoom : Stmt := topS 12
abbrev s_are_rising : Stmt := topS 13
abbrev s_are_rooms : Stmt := topS 14
abbrev s_is_way : Stmt := topS 15
abbrev sIsWay : Stmt := topS 15
abbrev s_is_size : Stmt := topS 16
abbrev sIsSize : Stmt := topS 16
abbrev s_how_many_bits : Stmt := topS 17
abbrev sHowMany : Stmt := topS 17
abbrev s_is_slot : Stmt := topS 18
abbrev sIsSlot : Stmt := topS 18
abbrev s_is_bit : Stmt := topS 19
abbrev sIsBit : Stmt := topS 19
abbrev s_are_slots : Stmt := topS 20
abbrev sAreSlots : Stmt := topS 20
abbrev s_are_bits : Stmt := topS 21
abbrev sAreBits : Stmt := topS 21
abbrev s_put_first : Stmt := topS 22
abbrev sPutFirst : Stmt := topS 22
abbrev s_slot_led_to : Stmt := topS 23
abbrev sLed : Stmt := topS 23
abbrev s_led_away : Stmt := topS 24
abbrev sAway : Stmt := topS 24
abbrev s_asked_by_tree : Stmt := topS 25
abbrev sByTree : Stmt := topS 25
abbrev s_asked : Stmt := topS 26
abbrev sAsked : Stmt := topS 26
abbrev s_are_tos : Stmt := topS 30
abbrev s_is_row : Stmt := topS 31
abbrev s_rooms_in : Stmt := topS 32
abbrev s_look_at_web : Stmt := topS 33
abbrev s_asks_of : Stmt := topS 35
abbrev s_all_states : Stmt := topS 36
abbrev s_wrong_part : Stmt := topS 38
abbrev s_look_at_kind : Stmt := topS 39
abbrev s_reckoned : Stmt := topS 42
abbrev s_look_at_many : Stmt := topS 43
abbrev s_all_lays : Stmt := topS 44
abbrev s_lays_come : Stmt := topS 45
abbrev s_table_of : Stmt := topS 46
abbrev s_stands : Stmt := topS 47
abbrev s_standsD : Stmt := s_stands
abbrev s_law_pool : Stmt := topS 49
abbrev sPool : Stmt := topS 49
abbrev s_law_take : Stmt := topS 50
abbrev sTake : Stmt := topS 50
abbrev s_law_picked : Stmt := topS 51
abbrev sPicked : Stmt := topS 51
abbrev s_law_tos : Stmt := topS 52
abbrev s_law_web : Stmt := topS 53
abbrev s_law_web_rooms : Stmt := topS 54
abbrev s_law_led : Stmt := topS 55
abbrev s_law_away : Stmt := topS 56
abbrev s_law_asked : Stmt := topS 57
abbrev s_law_all_lays : Stmt := topS 58
abbrev s_law_stands : Stmt := topS 59
abbrev s_law_way : Stmt := topS 60
abbrev s_law : Stmt := topS 61
abbrev sLaw : Stmt := topS 61
end Su
/-! ### AP0: the states that come to rows: what the program's dict, list and set hold -/
namespace Su
open PySem PySem.Spec PyProof.Rows L2
theorem units9 {k : Nat} {A : Around} (r : Room k A) : A.units + 9 < cLine := by
  have := r.un
  omega
theorem units12 {k : Nat} {A : Around} (r : Room k A) : A.units + 12 < cLine := by
  have := r.un
  omega
abbrev PK := Nat × NestedKey
/-- what came: a row and a state, and the step ahead of it -/
structure CE where
  row : Nat
  st : NestedKey
  frm : Option (Nat × NestedKey × Option Int)
abbrev CE.key (e : CE) : PK := (e.row, e.st)
def ckey (p : PK) : NestedKey := .tup [.num p.1, p.2]
theorem ckey_inj {p q : PK} (h : ckey p = ckey q) : p = q := by
  unfold ckey at h
  injection h with h
  injection h with h1 h2
  injection h1 with h1
  injection h2 with h2
  exact Prod.ext (by omega) h2
def asksL (r : Rw) : List (Option Int) := if r.1 = [] then [none] else r.1.map some
def nextS (bh : NestedKey → Int → NestedKey) (s : NestedKey) : Option Int → NestedKey
  | none => s
  | some k => bh s k
def aV : Option Int → V
  | none => .non
  | some k => .int k
/-- a web's rows, what an ask does to a state, the first states, the states that may be -/
structure Sys where
  rs : List Rw
  bh : NestedKey → Int → NestedKey
  ss : List NestedKey
  ok : NestedKey → Prop
/-- a step leads from the entry to the other one -/
def Sys.frmOk (Y : Sys) (cs : List CE) (i : Nat) (e : CE) : Prop := match e.frm with
  | none => e.row = 0 ∧ e.st ∈ Y.ss
  | some (r0, s0, a) => ∃ j e0 r, j < i ∧ cs[j]? = some e0 ∧ e0.key = (r0, s0) ∧ Y.rs[r0]? = some r ∧ a ∈ asksL r ∧ (e.row : Int) ∈ r.2 ∧ e.st = nextS Y.bh s0 a
/-- all that comes, and nothing else -/
structure Came (Y : Sys) (cs : List CE) : Prop where
  nd : (cs.map CE.key).Nodup
  st : ∀ s ∈ Y.ss, ((0, s) : PK) ∈ cs.map CE.key
  cl : ∀ e ∈ cs, ∀ r, Y.rs[e.row]? = some r → ∀ a ∈ asksL r, ∀ t ∈ r.2, ((t.toNat, nextS Y.bh e.st a) : PK) ∈ cs.map CE.key
  bk : ∀ i e, cs[i]? = some e → Y.frmOk cs i e
  ok : ∀ e ∈ cs, e.row < Y.rs.length ∧ Y.ok e.st
/-- what stands behind a row's ask -/
def Sys.then_ (Y : Sys) (p : PK) : Prop := ∃ s r a, Y.ok s ∧ Y.rs[p.1]? = some r ∧ a ∈ asksL r ∧ p.2 = nextS Y.bh s a
structure PInv (Y : Sys) (cs : List CE) (lf : List PK) : Prop where
  nd : (cs.map CE.key).Nodup
  st : ∀ s ∈ Y.ss, ((0, s) : PK) ∈ cs.map CE.key
  bk : ∀ i e, cs[i]? = some e → Y.frmOk cs i e
  ok : ∀ e ∈ cs, e.row < Y.rs.length ∧ Y.ok e.st
  lnd : lf.Nodup
  lth : ∀ p ∈ lf, Y.then_ p
  lcl : ∀ p ∈ lf, ∀ r, Y.rs[p.1]? = some r → ∀ t ∈ r.2, ((t.toNat, p.2) : PK) ∈ cs.map CE.key
/-- the entries below a number are gone through -/
def Gone (Y : Sys) (cs : List CE) (lf : List PK) (n : Nat) : Prop := ∀ i e, i < n → cs[i]? = some e → ∀ r, Y.rs[e.row]? = some r → ∀ a ∈ asksL r, ((e.row, nextS Y.bh e.st a) : PK) ∈ lf
theorem PInv.came {Y : Sys} {cs : List CE} {lf : List PK} (h : PInv Y cs lf) (g : Gone Y cs lf cs.length) : Came Y cs := by
  refine ⟨h.nd, h.st, fun e he r er a ha t ht => ?_, h.bk, h.ok⟩
  obtain ⟨i, hi⟩ := List.mem_iff_getElem?.mp he
  have z := g i e (List.getElem?_eq_some_iff.mp hi).1 hi r er a ha
  exact h.lcl _ z r er t ht
theorem frmOk_snoc {Y : Sys} {cs : List CE} {i : Nat} {e x : CE} (h : Y.frmOk cs i e) : Y.frmOk (cs ++ [x]) i e := by
  unfold Sys.frmOk at h ⊢
  split
  · rename_i z
    rw [z] at h
    exact h
  · rename_i r0 s0 a z
    rw [z] at h
    obtain ⟨j, e0, r, h1, h2, h3⟩ := h
    exact ⟨j, e0, r, h1, by rw [List.getElem?_append_left (List.getElem?_eq_some_iff.mp h2).1]; exact h2, h3⟩
theorem PInv.more {Y : Sys} {cs : List CE} {lf : List PK} (h : PInv Y cs lf) {x : CE} (new : x.key ∉ cs.map CE.key) (fr : Y.frmOk (cs ++ [x]) cs.length x) (ok : x.row < Y.rs.length ∧ Y.ok x.st) : PInv Y (cs ++ [x]) lf := by
  have up : ∀ {p : PK}, p ∈ cs.map CE.key → p ∈ (cs ++ [x]).map CE.key := fun z => by
    rw [List.map_append]
    exact List.mem_append_left _ z
  refine ⟨?_, fun s hs => up (h.st s hs), fun i e hi => ?_, fun e he => ?_, h.lnd, h.lth, fun p hp r er t ht => up (h.lcl p hp r er t ht)⟩
  · rw [List.map_append, List.nodup_append]
    refine ⟨h.nd, List.nodup_cons.mpr ⟨List.not_mem_nil, List.nodup_nil⟩, fun a ha b hb => ?_⟩
    rw [List.mem_singleton.mp hb]
    rintro rfl
    exact new ha
  · by_cases c : i < cs.length
    · rw [List.getElem?_append_left c] at hi
      exact frmOk_snoc (h.bk i e hi)
    · have lt := (List.getElem?_eq_some_iff.mp hi).1
      rw [List.length_append, List.length_singleton] at lt
      have ei : i = cs.length := by omega
      subst ei
      rw [List.getElem?_append_right (Nat.le_refl _), Nat.sub_self] at hi
      cases hi
      exact fr
  · rcases List.mem_append.mp he with he | he
    · exact h.ok e he
    · rw [List.mem_singleton.mp he]
      exact ok
theorem PInv.left {Y : Sys} {cs : List CE} {lf : List PK} (h : PInv Y cs lf) {p : PK} (new : p ∉ lf) (th : Y.then_ p) (cl : ∀ r, Y.rs[p.1]? = some r → ∀ t ∈ r.2, ((t.toNat, p.2) : PK) ∈ cs.map CE.key) : PInv Y cs (lf ++ [p]) := by
  refine ⟨h.nd, h.st, h.bk, h.ok, ?_, fun q hq => ?_, fun q hq => ?_⟩
  · rw [List.nodup_append]
    refine ⟨h.lnd, List.nodup_cons.mpr ⟨List.not_mem_nil, List.nodup_nil⟩, fun a ha b hb => ?_⟩
    rw [List.mem_singleton.mp hb]
    rintro rfl
    exact new ha
  · rcases List.mem_append.mp hq with hq | hq
    · exact h.lth q hq
    · rw [List.mem_singleton.mp hq]
      exact th
  · rcases List.mem_append.mp hq with hq | hq
    · exact h.lcl q hq
    · rw [List.mem_singleton.mp hq]
      exact cl
theorem Gone.mono {Y : Sys} {cs : List CE} {lf : List PK} {n : Nat} (g : Gone Y cs lf n) {x : List CE} {l2 : List PK} (hn : n ≤ cs.length) : Gone Y (cs ++ x) (lf ++ l2) n := fun i e hi he r er a ha => by
  rw [List.getElem?_append_left (by omega)] at he
  exact List.mem_append_left _ (g i e hi he r er a ha)
/-- all tuples stay, and what is known of their objects -/
structure KP (H H' : Hp) : Prop where
  p : ∀ a xs, PTup H a xs → PTup H' a xs
  k : K2 H H'
theorem KP.same {H H' : Hp} (s : Same H H') : KP H H' := ⟨fun _ _ h => h.same s, K2.same s⟩
theorem KP.refl (H : Hp) : KP H H := ⟨fun _ _ h => h, fun _ _ h => h⟩
theorem KP.trans {H H1 H2 : Hp} (a : KP H H1) (b : KP H1 H2) : KP H H2 := ⟨fun x xs h => b.p x xs (a.p x xs h), a.k.trans b.k⟩
theorem KP.upd {H : Hp} {a : Addr} {o u : HO} (e : H a = some o) (n : ∀ xs, o ≠ .tup xs) (n2 : ∀ b xs, o ≠ .frz b (.tup xs)) : KP H (L2.upd H a u) := by
  refine ⟨fun b xs ⟨ob, h, d⟩ => ⟨ob, ?_, d⟩, K2.upd e n n2⟩
  rw [upd_ne]
  · exact h
  · rintro rfl
    rw [e] at h
    cases h
    exact n2 _ _ rfl
theorem KP.lst {H : Hp} {a : Addr} {xs : List V} {u : HO} (e : H a = some (.lst xs)) : KP H (L2.upd H a u) := KP.upd e (fun _ z => nomatch z) (fun _ _ z => nomatch z)
theorem ND.kp {w : World} {H : Hp} {a : Addr} {kvs : List NEnt} (d : ND w H a kvs) (u : HO) : KP H (L2.upd H a u) := by
  rcases d.at_ with e | ⟨_, e⟩
  · exact KP.upd e (fun _ z => nomatch z) (fun _ _ z => nomatch z)
  · exact KP.upd e (fun _ z => nomatch z) (fun _ _ z => nomatch z)
theorem NS.kp {w : World} {H : Hp} {a : Addr} {L : List SRow} (d : NS w H a L) (u : HO) : KP H (L2.upd H a u) := KP.upd d.at_ (fun _ z => nomatch z) (fun _ _ z => nomatch z)
/-- what a state is as a value -/
structure SV where
  at_ : Hp → NestedKey → V → Prop
  key : ∀ {H : Hp} {s : NestedKey} {v : V}, at_ H s v → KeyV H s v
  keep : ∀ {H H' : Hp} {s : NestedKey} {v : V}, KP H H' → at_ H s v → at_ H' s v
/-! in the heap -/
/-- an entry with its places: the key in the dict, the value there, the tuple in the list -/
structure XE where
  e : CE
  T : Addr
  w : V
  A : Addr
def TupK (z : SV) (H : Hp) (T : Addr) (p : PK) : Prop := ∃ v, T2 H T [.int (p.1 : Nat), v] ∧ z.at_ H p.2 v
theorem TupK.keep {z : SV} {H H' : Hp} {T : Addr} {p : PK} (k : KP H H') (h : TupK z H T p) : TupK z H' T p := by
  obtain ⟨v, h1, h2⟩ := h
  exact ⟨v, k.k _ _ h1, z.keep k h2⟩
theorem TupK.key {z : SV} {H : Hp} {T : Addr} {p : PK} (h : TupK z H T p) : KeyV H (ckey p) (.ref T) := by
  obtain ⟨v, h1, h2⟩ := h
  exact .tup h1 (.cons (.int _) (.cons (z.key h2) .nil))
def FrmAt (z : SV) (H : Hp) (w : V) : Option (Nat × NestedKey × Option Int) → Prop
  | none => w = .non
  | some (r0, s0, a) => ∃ U v0, w = .ref U ∧ T2 H U [.int (r0 : Nat), v0, aV a] ∧ z.at_ H s0 v0
theorem FrmAt.keep {z : SV} {H H' : Hp} {w : V} (k : KP H H') : ∀ {o : Option (Nat × NestedKey × Option Int)}, FrmAt z H w o → FrmAt z H' w o
  | none, h => h
  | some (_, _, _), ⟨U, v0, h1, h2, h3⟩ => ⟨U, v0, h1, k.k _ _ h2, z.keep k h3⟩
structure XAt (z : SV) (H : Hp) (x : XE) : Prop where
  k : TupK z H x.T x.e.key
  a : TupK z H x.A x.e.key
  f : FrmAt z H x.w x.e.frm
  dp : x.e.st.depth ≤ 6
theorem XAt.keep {z : SV} {H H' : Hp} {x : XE} (k : KP H H') (h : XAt z H x) : XAt z H' x := ⟨h.k.keep k, h.a.keep k, h.f.keep k, h.dp⟩
def kvsX (xs : List XE) : List NEnt := xs.map fun x => (ckey x.e.key, x.T, x.w)
def rowsL (lf : List (PK × Addr)) : List SRow := lf.map fun p => (ckey p.1, p.2)
theorem ckey_depth {p : PK} {n : Nat} (h : p.2.depth ≤ n) : (ckey p).depth ≤ n + 1 := by
  show max (NestedKey.depth (.num _)) (max p.2.depth 0) + 1 ≤ _
  simp only [NestedKey.depth]
  omega
theorem kvsX_get {xs : List XE} {p : PK} : (nGet (kvsX xs) (ckey p)).isSome = decide (p ∈ xs.map fun x => x.e.key) := by
  cases z : nGet (kvsX xs) (ckey p) with
  | none =>
    have n := nGet_none z
    refine (decide_eq_false fun m => n ?_).symm
    obtain ⟨x, hx, rfl⟩ := List.mem_map.mp m
    unfold kvsX
    rw [List.map_map]
    exact List.mem_map.mpr ⟨x, hx, rfl⟩
  | some v =>
    refine (decide_eq_true ?_).symm
    unfold nGet kvsX at z
    obtain ⟨e, he, _⟩ := Option.map_eq_some_iff.mp z
    have h1 := List.mem_of_find?_eq_some he
    have h2 := List.find?_some he
    obtain ⟨x, hx, rfl⟩ := List.mem_map.mp h1
    exact List.mem_map.mpr ⟨x, hx, ckey_inj (of_decide_eq_true h2)⟩
theorem rowsL_has {lf : List (PK × Addr)} {p : PK} : nsHas (rowsL lf) (ckey p) = decide (p ∈ lf.map (·.1)) := by
  have e : nsHas (rowsL lf) (ckey p) = true ↔ p ∈ lf.map (·.1) := by
    rw [nsHas_iff]
    unfold rowsL
    rw [List.map_map]
    constructor
    · intro h
      obtain ⟨x, hx, ex⟩ := List.mem_map.mp h
      exact List.mem_map.mpr ⟨x, hx, ckey_inj ex⟩
    · intro h
      obtain ⟨x, hx, rfl⟩ := List.mem_map.mp h
      exact List.mem_map.mpr ⟨x, hx, rfl⟩
  rcases Classical.em (p ∈ lf.map (·.1)) with h | h
  · rw [decide_eq_true h, e.mpr h]
  · rw [decide_eq_false h]
    cases z : nsHas (rowsL lf) (ckey p) with
    | false => rfl
    | true => exact absurd (e.mp z) h
/-- the program's dict, list and set -/
structure ASt (w : World) (z : SV) (H0 H : Hp) (C L S : Addr) (xs : List XE) (lf : List (PK × Addr)) : Prop where
  sm : Same H0 H
  nc : H0 C = none
  nl : H0 L = none
  ns : H0 S = none
  cl : C ≠ L
  cs : C ≠ S
  ls : L ≠ S
  c : ND w H C (kvsX xs)
  l : H L = some (.lst (xs.map fun x => V.ref x.A))
  s : NS w H S (rowsL lf)
  es : ∀ x ∈ xs, XAt z H x
section
variable {w : World} {z : SV} {H0 H H' : Hp} {C L S : Addr} {xs : List XE} {lf : List (PK × Addr)}
theorem ASt.same (a : ASt w z H0 H C L S xs lf) (t : Same H H') : ASt w z H0 H' C L S xs lf :=
  ⟨a.sm.trans t, a.nc, a.nl, a.ns, a.cl, a.cs, a.ls, a.c.same t, t _ _ a.l, a.s.same t, fun x hx => (a.es x hx).keep (KP.same t)⟩
/-- put into the set -/
theorem ASt.left (a : ASt w z H0 H C L S xs lf) {p : PK} {b : Addr} (new : p ∉ lf.map (·.1)) (hk : TupK z H b p) (hd : p.2.depth ≤ 6) (few : lf.length < 20000) :
    ASt w z H0 (L2.upd H S (nsO w S (nsPut (rowsL lf) (ckey p) b))) C L S xs (lf ++ [(p, b)]) := by
  have k2 := a.s.kp (nsO w S (nsPut (rowsL lf) (ckey p) b))
  have put := a.s.put hk.key (by have := ckey_depth hd; omega) (by unfold rowsL; rw [List.length_map]; exact few)
  have e : nsPut (rowsL lf) (ckey p) b = rowsL (lf ++ [(p, b)]) := by
    unfold nsPut
    rw [rowsL_has, decide_eq_false new, if_neg (by simp)]
    unfold rowsL
    rw [List.map_append]
    rfl
  rw [e] at put k2 ⊢
  refine ⟨fun c o ec => ?_, a.nc, a.nl, a.ns, a.cl, a.cs, a.ls, a.c.keep k2.k (upd_ne a.cs), (upd_ne a.ls).trans a.l, put, fun x hx => (a.es x hx).keep k2⟩
  rw [upd_ne (ne_of_none ec a.ns)]
  exact a.sm _ _ ec
theorem kvsX_put {xs : List XE} {p : PK} (new : p ∉ xs.map fun x => x.e.key) (T : Addr) (w : V) : nPut (kvsX xs) (ckey p) T w = kvsX xs ++ [(ckey p, T, w)] := by
  unfold nPut
  rw [kvsX_get, decide_eq_false new, if_neg (by simp)]
/-- put into the dict, then behind the list -/
theorem ASt.more (a : ASt w z H0 H C L S xs lf) {p : PK} {T A : Addr} {v : V} {frm : Option (Nat × NestedKey × Option Int)} (new : p ∉ xs.map fun x => x.e.key) (hk : TupK z H T p) (hf : FrmAt z H v frm) (hd : p.2.depth ≤ 6) (few : xs.length < sizeLine) {H2 : Hp}
    (t : Same (L2.upd H C (ndO w C (nPut (kvsX xs) (ckey p) T v))) H2) (hA : TupK z H2 A p) :
    H2 L = some (.lst (xs.map fun x => V.ref x.A)) ∧ ASt w z H0 (L2.upd H2 L (.lst ((xs.map fun x => V.ref x.A) ++ [.ref A]))) C L S (xs ++ [⟨⟨p.1, p.2, frm⟩, T, v, A⟩]) lf := by
  have k1 := a.c.kp (ndO w C (nPut (kvsX xs) (ckey p) T v))
  have put := a.c.put (v := v) hk.key (by have := ckey_depth hd; omega) (by unfold kvsX; rw [List.length_map]; exact few)
  have hL1 : (L2.upd H C (ndO w C (nPut (kvsX xs) (ckey p) T v))) L = some (.lst (xs.map fun x => V.ref x.A)) := (upd_ne a.cl.symm).trans a.l
  have hL2 := t _ _ hL1
  have k2 : KP H H2 := k1.trans (KP.same t)
  have k3 : KP H2 (L2.upd H2 L (.lst ((xs.map fun x => V.ref x.A) ++ [.ref A]))) := KP.lst hL2
  have put2 := (put.same t).keep k3.k (upd_ne a.cl)
  have hS1 : NS w H2 S (rowsL lf) := (a.s.keep k1.k (upd_ne a.cs.symm)).same t
  refine ⟨hL2, ?_, a.nc, a.nl, a.ns, a.cl, a.cs, a.ls, ?_, ?_, hS1.keep k3.k (upd_ne a.ls.symm), fun x hx => ?_⟩
  · intro c o ec
    rw [upd_ne (ne_of_none ec a.nl)]
    refine t _ _ ?_
    rw [upd_ne (ne_of_none ec a.nc)]
    exact a.sm _ _ ec
  · have e : kvsX (xs ++ [⟨⟨p.1, p.2, frm⟩, T, v, A⟩]) = nPut (kvsX xs) (ckey p) T v := by
      rw [kvsX_put new]
      unfold kvsX
      rw [List.map_append]
      rfl
    rw [e]
    exact put2
  · rw [upd_same, List.map_append]
    rfl
  · rcases List.mem_append.mp hx with hx | hx
    · exact (a.es x hx).keep (k2.trans k3)
    · rw [List.mem_singleton.mp hx]
      exact ⟨hk.keep (k2.trans k3), hA.keep k3, hf.keep (k2.trans k3), hd⟩
end
theorem mid_row {te : TE} {i j : Nat} {v : V} {S : TS} {D : Ends} {σ : L2.St} {H : Hp} (M : V → Hp → Prop) (hR : ∀ y H', M y H' → S D ((σ.set j (some v)).set i (some y)) H') (h : ∀ R : VK, (∀ y H', M y H' → R y H') → te (σ.set j (some v)) H R) : gName j v σ H (fun σ2 H2 => tSeq (tAsg te (gName i)) S D σ2 H2) := h _ hR
theorem while_n {c : TT} {tb : TS} {D : Ends} {σ : L2.St} {H : Hp} (W : Nat → L2.St → Hp → Prop) (m0 : Nat) (h0 : W m0 σ H)
    (hs : ∀ m σ H, W m σ H → c σ H fun b H1 => if b = true then tb { D with nx := fun σ' H' => ∃ m', m' < m ∧ W m' σ' H', ct := fun σ' H' => ∃ m', m' < m ∧ W m' σ' H', bk := D.nx } σ H1 else D.nx σ H1)
    (mono : ∀ σ H Q Q', (∀ b H1, Q b H1 → Q' b H1) → c σ H Q → c σ H Q') : tWhile c tb D σ H := by
  refine ⟨W, ⟨m0, h0⟩, fun m σ H w => mono σ H _ _ (fun b H1 q => ?_) (hs m σ H w)⟩
  cases b with
  | true => exact ⟨_, fun _ _ z => z, q⟩
  | false => exact q
end Su
/-! ### AL: all states that come to rows, the program's -/
namespace Su
open PySem PySem.Spec PyProof.Rows L2
def spAsks : Sp := fun vs H Q _ => ∃ (b : Addr) (r : Rw), vs = [.ref b] ∧ T2 H b (r.1.map V.int) ∧ r.1.length ≤ 6 ∧ ∀ a H', Same H H' → T2 H' a ((asksL r).map aV) → Q (.ref a) H'
theorem sc_asks_of : FnScope ["rooms"] ["rooms"] (defScope s_asks_of) := ⟨rfl, rfl, rfl, by decide +kernel, rfl, by decide +kernel, by decide +kernel⟩
theorem sc_all_states : FnScope ["web", "starts", "behind", "most", "came", "ahead", "left", "at", "row", "state", "rooms", "tos", "room", "then", "to"] ["web", "starts", "behind", "most"] (defScope s_all_states) := ⟨rfl, rfl, rfl, by decide +kernel, rfl, by decide +kernel, by decide +kernel⟩
section
variable {P : Program} {w : World} {K : PySem.W.Frag} {mg : Str → Option Value} {base : Heap}
theorem ok_asks_of (T : At K mg "asks_of" s_asks_of ["rooms"]) (B : Bt mg) : Cal P w K mg base 1 "asks_of" ["rooms"] spAsks := by
  refine cal_of T sc_asks_of (fun vs H Q E h => ?_) (fun f cdv A outer s H vs Q E hr h => ?_)
  · obtain ⟨b, r, rfl, _⟩ := h
    rfl
  · obtain ⟨b, r, rfl, hb, few, q⟩ := h
    refine ⟨_, (pss_one (ps_ret (pe_ifExp (pt_cmpR op_eq (pe_callB call_len_seq (by rfl) B.len PySem.boot_len (pa_cons (pv 0) pa_nil)) pe_int (nomark _)) (pe_tupF (pa_cons pe_non pa_nil)) (pv 0)))), ?_⟩
    refine ⟨_, rfl, b, _, rfl, .inr hb.sq, rfl, _, rfl, iteB (fun z => ?_) (fun z => ?_)⟩
    · have e : r.1 = [] := by
        have z := V.int.inj (of_decide_eq_true z)
        rw [List.length_map] at z
        exact List.eq_nil_of_length_eq_zero (by omega)
      refine ⟨(by show 1 ≤ sizeLine; decide), fun v H' t _ pt => q v H' t ?_⟩
      unfold asksL
      rw [if_pos e]
      exact .inl pt
    · have ne : r.1 ≠ [] := fun e => by
        have z := of_decide_eq_false z
        rw [e] at z
        exact z rfl
      refine ⟨_, rfl, q b H (Same.refl H) ?_⟩
      unfold asksL
      rw [if_neg ne, List.map_map]
      exact hb
/-- a list of states -/
inductive SVs (z : SV) (H : Hp) : List NestedKey → List V → Prop
  | nil : SVs z H [] []
  | cons {k : NestedKey} {v : V} {ks : List NestedKey} {vs : List V} (h : z.at_ H k v) (t : SVs z H ks vs) : SVs z H (k :: ks) (v :: vs)
theorem SVs.get {z : SV} {H : Hp} : ∀ {ks : List NestedKey} {vs : List V}, SVs z H ks vs → ∀ {i : Nat} {v : V}, vs[i]? = some v → ∃ k, ks[i]? = some k ∧ z.at_ H k v
  | _, _, .nil, i, v, e => by simp at e
  | _, _, .cons h t, 0, v, e => by cases e; exact ⟨_, rfl, h⟩
  | _, _, .cons h t, i + 1, v, e => SVs.get t (i := i) (by simpa using e)
theorem SVs.len {z : SV} {H : Hp} : ∀ {ks : List NestedKey} {vs : List V}, SVs z H ks vs → vs.length = ks.length
  | _, _, .nil => rfl
  | _, _, .cons h t => by rw [List.length_cons, List.length_cons, SVs.len t]
theorem SVs.keep {z : SV} {H H' : Hp} (k : KP H H') : ∀ {ks : List NestedKey} {vs : List V}, SVs z H ks vs → SVs z H' ks vs
  | _, _, .nil => .nil
  | _, _, .cons h t => .cons (z.keep k h) (SVs.keep k t)
theorem SVs.app {z : SV} {H : Hp} : ∀ {ks ks2 : List NestedKey} {vs vs2 : List V}, SVs z H ks vs → SVs z H ks2 vs2 → SVs z H (ks ++ ks2) (vs ++ vs2)
  | _, _, _, _, .nil, g => g
  | _, _, _, _, .cons h t, g => .cons h (SVs.app t g)
/-- what the program's search for states asks, and what it tells -/
structure StIn (w : World) (z : SV) (Y : Sys) (H : Hp) (p ls : Addr) (svs : List V) (N : Nat) (kf : Hp → Prop) (beh : List V → Hp → VK → Prop) : Prop where
  web : WebAt H p Y.rs
  rows : ∀ r ∈ Y.rs, RowOk Y.rs.length r
  pos : 1 ≤ Y.rs.length
  r80 : Y.rs.length ≤ 80
  st : ∃ xs, H ls = some (.lst xs) ∧ SVs z H Y.ss xs ∧ xs = svs
  nd : Y.ss.Nodup
  sok : ∀ s ∈ Y.ss, Y.ok s
  dp : ∀ s, Y.ok s → s.depth ≤ 6
  cl : ∀ s r k, Y.ok s → r ∈ Y.rs → k ∈ r.1 → Y.ok (Y.bh s k)
  few : ∀ l : List PK, l.Nodup → (∀ q ∈ l, q.1 < Y.rs.length ∧ Y.ok q.2) → l.length ≤ N
  few2 : N ≤ 1000000
  left : ∀ l : List PK, l.Nodup → (∀ q ∈ l, Y.then_ q) → l.length ≤ 20000
  kf : ∀ H', Same H H' → kf H'
  beh : ∀ H1, Same H H1 → ∀ s k v r Q', Y.ok s → r ∈ Y.rs → k ∈ r.1 → z.at_ H1 s v → (∀ v' H2, Same H1 H2 → z.at_ H2 (Y.bh s k) v' → Q' v' H2) → beh [v, .int k] H1 Q'
def spStates (w : World) : SpA := fun f kf beh vs H Q => ∃ (z : SV) (p ls : Addr) (Y : Sys) (svs : List V) (N : Nat), vs = [.ref p, .ref ls, .ref f, .non] ∧ StIn w z Y H p ls svs N kf beh ∧
  ∀ C H' xs, Same H H' → H C = none → ND w H' C (kvsX xs) → (∀ x ∈ xs, XAt z H' x) → Came Y (xs.map (·.e)) → Q (.ref C) H'
theorem of_not {b : Bool} (z : (if true = true then !b else b) = true) : b = false := by
  cases b
  · rfl
  · exact absurd z (by decide)
theorem of_not2 {b : Bool} (z : (if true = true then !b else b) = false) : b = true := by
  cases b
  · exact absurd z (by decide)
  · rfl
theorem map_geti {l : List Int} {i : Nat} {v : V} (h : (l.map V.int)[i]? = some v) : ∃ x, l[i]? = some x ∧ v = .int x := by
  rw [List.getElem?_map] at h
  obtain ⟨x, hx, rfl⟩ := Option.map_eq_some_iff.mp h
  exact ⟨x, hx, rfl⟩
theorem ok_states (T : AtD K mg "all_states" s_all_states ["web", "starts", "behind", "most"] [.non]) (B : Bt mg) (c_asks_of : Cal P w K mg base 1 "asks_of" ["rooms"] spAsks) : CalA P w K mg base 7 6 "all_states" ["web", "starts", "behind", "most"] [.non] (spStates w) := by
  refine cal_ofA T sc_all_states (fun f kf beh vs H Q h => ?_) (fun g cdv A outer s H vs Q f kf beh hr act h => ?_)
  · obtain ⟨z, p, ls, Y, svs, N, rfl, _⟩ := h
    rfl
  · obtain ⟨sv, p, ls, Y, svs, N, rfl, hi, q⟩ := h
    refine ⟨_, (pss_cons (ps_setDcN (i := 4) (own := [("state", 9)]) (go := (gName 9)) (tk := (tTupF (tCons (tC (.int 0)) (tCons (tVar 9) tNil)))) (tv := (tC .non)) rfl rfl (sw_dict rfl rfl rfl (by decide +kernel)) (units9 hr) (by rfl) sc_all_states.nd (pi_list (pv 1)) (blkOk_by (own := [("state", 9)]) (N := ["web", "starts", "behind", "most", "came", "ahead", "left", "at", "row", "state", "rooms", "tos", "room", "then", "to"]) (sc := defScope s_all_states) (by decide +kernel)) (fun _ _ _ _ _ => (pg_name (i := 9) sc_all_states.nd rfl (Or.inl rfl))) (fun _ _ _ _ _ => (pe_tupF (pa_cons pe_int (pa_cons (pv 9) pa_nil)))) (fun _ _ _ _ _ => pe_non))
      (pss_cons (ps_set (i := 5) sc_all_states.nd rfl (Or.inl rfl) (pe_callTy (cr_listND rfl) (by rfl) B.list (by decide +kernel) (pa_cons (pv 4) pa_nil)))
      (pss_cons (ps_set (i := 6) sc_all_states.nd rfl (Or.inl rfl) (pe_callTy0 cr_set0N (by rfl) B.set (by decide +kernel)))
      (pss_cons (ps_set (i := 7) sc_all_states.nd rfl (Or.inl rfl) pe_int)
      (pss_cons (ps_while PassesOwn.never (pt_cmpR op_lt (pv 7) (pe_callB call_len_seq (by rfl) B.len PySem.boot_len (pa_cons (pv 5) pa_nil)) (nomark _)) (pss_cons (ps_if (PW.pt (pw_and (pt_cmpR op_notN (pv 3) pe_non (nomark _)) (pw_and1 (pt_cmpR op_gt (pe_callB call_len_seq (by rfl) B.len PySem.boot_len (pa_cons (pv 4) pa_nil)) (pv 3) (nomark _))))) (pss_one ps_never) pss_nil)
      (pss_cons (ps_asg (pe_ix ix_list (pv 5) (pv 7) (fun _ _ => rfl)) (pg_tup (by rfl) (pgs_cons (pg_name (i := 8) sc_all_states.nd rfl (Or.inl rfl)) (pgs_cons (pg_name (i := 9) sc_all_states.nd rfl (Or.inl rfl)) pgs_nil))))
      (pss_cons (ps_aug (i := 7) sc_all_states.nd rfl (Or.inl rfl) pe_int ip_add)
      (pss_cons (ps_asg (pe_ix ix_list (pv 0) (pv 8) (fun _ _ => rfl)) (pg_tup (by rfl) (pgs_cons (pg_name (i := 10) sc_all_states.nd rfl (Or.inl rfl)) (pgs_cons (pg_name (i := 11) sc_all_states.nd rfl (Or.inl rfl)) pgs_nil))))
      (pss_one (ps_for PassesOwn.never rfl (pi_tup (pe_own c_asks_of hr (by decide) (by rfl) (pa_cons (pv 10) pa_nil))) (pg_name (i := 12) sc_all_states.nd rfl (Or.inl rfl)) (pss_cons (ps_set (i := 13) sc_all_states.nd rfl (Or.inl rfl) (pe_ifExp (pt_cmpR op_isN (pv 12) pe_non (nomark _)) (pv 9) (pe_act (i := 2) act rfl (Or.inl rfl) (pa_cons (pv 9) (pa_cons (pv 12) pa_nil)))))
      (pss_one (ps_if (pt_cmpR (or_sNotInN (units12 hr)) (pe_tupF (pa_cons (pv 8) (pa_cons (pv 13) pa_nil))) (pv 6) (by rfl)) (pss_cons (ps_expr (pe_sAddN (units12 hr) (pv 6) (pa_cons (pe_tupF (pa_cons (pv 8) (pa_cons (pv 13) pa_nil))) pa_nil)))
      (pss_one (ps_for PassesOwn.never rfl (pi_tup (pv 11)) (pg_name (i := 14) sc_all_states.nd rfl (Or.inl rfl)) (pss_one (ps_if (pt_cmpR (op_nNotIn (units9 hr)) (pe_tupF (pa_cons (pv 14) (pa_cons (pv 13) pa_nil))) (pv 4) (by rfl)) (pss_cons (ps_nput (units9 hr) (pv 4) (pe_tupF (pa_cons (pv 14) (pa_cons (pv 13) pa_nil))) (pe_tupF (pa_cons (pv 8) (pa_cons (pv 9) (pa_cons (pv 12) pa_nil)))) rfl)
      (pss_one (ps_expr (pe_bm PySem.F.plainAttrs_list PySem.F.slot_list_append PySem.F.type_list_append mt_append (pv 5) (pa_cons (pe_tupF (pa_cons (pv 14) (pa_cons (pv 13) pa_nil))) pa_nil))))) pss_nil))))) pss_nil))))))))))
      (pss_one (ps_ret (pv 4)))))))), ?_⟩
    obtain ⟨xs0, hls, hks, rfl⟩ := hi.st
    refine ⟨_, rfl, ls, rfl, ⟨_, SqL.of hls⟩, fun C nC low => ?_⟩
    refine dcN_list (K := K) (a := ls) (xs := xs0) (fun i H1 => ∃ es : List (XE), es.length = i ∧ (∀ (j : Nat) (x : XE), es[j]? = some x → ∃ s, Y.ss[j]? = some s ∧ x.e = ⟨0, s, none⟩ ∧ x.w = .non ∧ x.A = x.T) ∧ ND w H1 C (kvsX es) ∧ (∀ x ∈ es, XAt sv H1 x) ∧ Same H H1) ?_ ?_ ?_ ?_
    · exact ⟨[], rfl, (fun j x e => by simp at e), ND.new upd_same low, (fun x hx => nomatch hx), same_upd nC⟩
    · rintro i H1 _ ⟨es, _, _, _, _, t1⟩
      exact SqL.of (t1 _ _ hls)
    · rintro i v H1 hv ⟨es, le, hes, nd, xa, t1⟩
      obtain ⟨s, es0, hkv⟩ := hks.get hv
      refine ⟨rfl, _, rfl, by show 2 ≤ sizeLine; decide, fun T H2 t2 nT pt => ?_⟩
      have dps := hi.dp s (hi.sok s (List.mem_of_getElem? es0))
      have tk : TupK sv H2 T (0, s) := ⟨v, .inl pt, sv.keep (KP.same (t1.trans t2)) hkv⟩
      have n2 := nd.same t2
      have new : ((0, s) : PK) ∉ es.map fun x => x.e.key := fun hm => by
        obtain ⟨x, hx, ex⟩ := List.mem_map.mp hm
        obtain ⟨j, hj⟩ := List.mem_iff_getElem?.mp hx
        obtain ⟨s2, e2, e3, _⟩ := hes j x hj
        rw [e3] at ex
        have es2 : s2 = s := congrArg Prod.snd ex
        subst es2
        have lj := (List.getElem?_eq_some_iff.mp hj).1
        have li := (List.getElem?_eq_some_iff.mp es0).1
        obtain ⟨q1, e2⟩ := List.getElem?_eq_some_iff.mp e2
        obtain ⟨q2, e0⟩ := List.getElem?_eq_some_iff.mp es0
        exact absurd (e2.trans e0.symm) (List.pairwise_iff_getElem.mp hi.nd j i q1 q2 (by omega))
      have few : es.length < sizeLine := by
        have li := (List.getElem?_eq_some_iff.mp es0).1
        have := hi.few (Y.ss.map fun s => ((0, s) : PK)) (List.pairwise_map.mpr (hi.nd.imp fun h e => h (congrArg Prod.snd e))) fun q hq => by
          obtain ⟨s, hs, rfl⟩ := List.mem_map.mp hq
          exact ⟨hi.pos, hi.sok s hs⟩
        rw [List.length_map] at this
        have f2 := hi.few2
        rw [sizeLine_eq]
        omega
      have put := n2.put (v := .non) tk.key (by have := ckey_depth (p := (0, s)) dps; omega) (by unfold kvsX; rw [List.length_map]; exact few)
      have k2 := n2.kp (ndO w C (nPut (kvsX es) (ckey (0, s)) T .non))
      refine ⟨T, kvsX es, ckey (0, s), rfl, n2, tk.key, by have := ckey_depth (p := (0, s)) dps; omega, by unfold kvsX; rw [List.length_map]; exact few, es ++ [⟨⟨0, s, none⟩, T, .non, T⟩], by rw [List.length_append, le]; rfl, fun j x hx => ?_, ?_, fun x hx => ?_, fun c o ec => ?_⟩
      · by_cases c : j < es.length
        · rw [List.getElem?_append_left c] at hx
          exact hes j x hx
        · have lt := (List.getElem?_eq_some_iff.mp hx).1
          rw [List.length_append, List.length_singleton] at lt
          have ej : j = es.length := by omega
          subst ej
          rw [List.getElem?_append_right (Nat.le_refl _), Nat.sub_self] at hx
          cases hx
          exact ⟨s, by rw [le]; exact es0, rfl, rfl, rfl⟩
      · have e : kvsX (es ++ [⟨⟨0, s, none⟩, T, .non, T⟩]) = nPut (kvsX es) (ckey (0, s)) T .non := by
          rw [kvsX_put new]
          unfold kvsX
          rw [List.map_append]
          rfl
        rw [e]
        exact put
      · rcases List.mem_append.mp hx with hx | hx
        · exact (xa x hx).keep ((KP.same t2).trans k2)
        · rw [List.mem_singleton.mp hx]
          exact ⟨tk.keep k2, tk.keep k2, rfl, dps⟩
      · rw [upd_ne (ne_of_none ec nC)]
        exact t2 _ _ (t1 _ _ ec)
    · rintro H1 ⟨es, le, hes, nd, xa, t1⟩
      refine ⟨_, rfl, C, _, rfl, nd, fun L nL => ?_⟩
      have nCL : C ≠ L := by
        rcases nd.at_ with e | ⟨_, e⟩
        · exact ne_of_none e nL
        · exact ne_of_none e nL
      have tL := same_upd (o := .lst ((kvsX es).map fun e => V.ref e.2.1)) nL
      refine ⟨rfl, fun S H2 t2 nS ns => ?_⟩
      have hL1 : H2 L = some (.lst (es.map fun x => V.ref x.A)) := by
        rw [t2 _ _ upd_same]
        unfold kvsX
        rw [List.map_map]
        refine congrArg (fun l => some (HO.lst l)) (List.map_congr_left fun x hx => ?_)
        obtain ⟨j, hj⟩ := List.mem_iff_getElem?.mp hx
        obtain ⟨_, _, _, _, e⟩ := hes j x hj
        show V.ref x.T = V.ref x.A
        rw [e]
      have t12 : Same H1 H2 := tL.trans t2
      have A0 : ASt w sv H H2 C L S es [] := by
        refine ⟨t1.trans t12, nC, t1.free nL, ?_, nCL, ?_, ?_, nd.same t12, hL1, ns, fun x hx => (xa x hx).keep (KP.same t12)⟩
        · exact t1.free (tL.free nS)
        · have e2 := (nd.same tL).at_
          rcases e2 with e | ⟨_, e⟩
          · exact ne_of_none e nS
          · exact ne_of_none e nS
        · exact ne_of_none (upd_same (H := H1) (a := L)) nS
      have eL : es.length = Y.ss.length := by
        rw [le, hks.len]
      have keys0 : es.map (fun x => x.e) = Y.ss.map fun s => (⟨0, s, none⟩ : CE) := by
        refine List.ext_getElem? fun j => ?_
        rw [List.getElem?_map, List.getElem?_map]
        cases hj : es[j]? with
        | none =>
          have := List.getElem?_eq_none_iff.mp hj
          rw [List.getElem?_eq_none (by omega)]
          rfl
        | some x =>
          obtain ⟨s, e1, e2, _⟩ := hes j x hj
          rw [e1]
          show some x.e = some _
          rw [e2]
      have I0 : PInv Y (es.map fun x => x.e) [] := by
        rw [keys0]
        refine ⟨?_, fun s hs => ?_, fun i e he => ?_, fun e he => ?_, List.nodup_nil, (fun p hp => nomatch hp), fun p hp => nomatch hp⟩
        · rw [List.map_map]
          exact List.pairwise_map.mpr (hi.nd.imp fun h e => h (congrArg Prod.snd e))
        · rw [List.map_map]
          exact List.mem_map.mpr ⟨s, hs, rfl⟩
        · rw [List.getElem?_map] at he
          obtain ⟨s, es1, rfl⟩ := Option.map_eq_some_iff.mp he
          exact ⟨rfl, List.mem_of_getElem? es1⟩
        · obtain ⟨s, hs, rfl⟩ := List.mem_map.mp he
          exact ⟨hi.pos, hi.sok s hs⟩
      refine while_n (fun m σ H4 => ∃ (xs : List XE) (lf : List (PK × Addr)) (a : Nat) (y8 y9 y10 y11 y12 y13 y14 : Option V), m = N - a ∧ σ = [some (.ref p), some (.ref ls), some (.ref f), some .non, some (.ref C), some (.ref L), some (.ref S), some (.int (a : Nat)), y8, y9, y10, y11, y12, y13, y14] ∧
        ASt w sv H H4 C L S xs lf ∧ PInv Y (xs.map fun x => x.e) (lf.map (·.1)) ∧ a ≤ xs.length ∧ Gone Y (xs.map fun x => x.e) (lf.map (·.1)) a) N ?_ ?_ ?_
      · exact ⟨es, [], 0, none, none, none, none, none, none, none, rfl, rfl, A0, I0, Nat.zero_le _, fun i e hi => absurd hi (Nat.not_lt_zero _)⟩
      · rintro m σ H4 ⟨xs, lf, a, y8, y9, y10, y11, y12, y13, y14, rfl, rfl, hA, hI, ha, hG⟩
        refine ⟨_, rfl, _, rfl, L, _, rfl, .inl (SqL.of hA.l), _, _, rfl, rfl, _, rfl, iteB (fun z => ?_) (fun z => ?_)⟩
        · have lt : a < xs.length := by
            have z := of_decide_eq_true z
            rw [List.length_map] at z
            omega
          obtain ⟨x, ex⟩ : ∃ x, xs[a]? = some x := ⟨_, List.getElem?_eq_getElem lt⟩
          have xm := List.mem_of_getElem? ex
          have xat := hA.es x xm
          obtain ⟨v, hT, hkv⟩ := xat.a
          refine ⟨_, rfl, rfl, _, rfl, iteB (fun z => absurd z (by rw [decide_eq_true rfl]; decide)) (fun _ => ?_)⟩
          refine iteB (fun z => absurd z (by decide)) (fun _ => ?_)
          refine ⟨_, rfl, _, rfl, L, _, _, _, rfl, rfl, SqL.of hA.l, atI_nat (j := a) (by rw [List.getElem?_map, ex]; rfl), x.A, _, rfl, hT.sq, rfl, _, _, rfl, _, _, rfl, rfl, ?_⟩
          refine ⟨_, rfl, _, _, rfl, rfl, ?_⟩
          obtain ⟨rlt, sok⟩ := hI.ok x.e (List.mem_map.mpr ⟨x, xm, rfl⟩)
          obtain ⟨ws, hpw, hrs⟩ := hi.web.same hA.sm
          have wl := hrs.len
          have ew : ws[x.e.row]? = some ws[x.e.row] := List.getElem?_eq_getElem (by omega)
          obtain ⟨r, er, ra, rb, rc, ewr, hra, hrb, hrc⟩ := hrs.get ew
          have rok := hi.rows r (List.mem_of_getElem? er)
          refine ⟨_, rfl, _, rfl, p, _, _, _, rfl, rfl, SqL.of hpw, atI_nat (j := x.e.row) (by rw [ew, ewr]), ra, _, rfl, hra.sq, rfl, _, _, rfl, _, _, rfl, rfl, ?_⟩
          refine ⟨_, rfl, rb, r, rfl, hrb, rok.few, fun aa H5 t5 haa => ?_⟩
          refine ⟨aa, rfl, ⟨_, haa.sq⟩, ?_⟩
          have hA5 := hA.same t5
          have k45 := KP.same t5
          have hrc5 := hrc.same t5
          have hv5 := sv.keep k45 hkv
          refine for_tup (K := K) (a := aa) (xs := (asksL r).map aV) (fun i σ H6 => ∃ (xs2 : List XE) (lf2 : List (PK × Addr)) (y12 y13 y14 : Option V), σ = [some (.ref p), some (.ref ls), some (.ref f), some .non, some (.ref C), some (.ref L), some (.ref S), some (.int ((a : Nat) + 1)), some (.int (x.e.row : Nat)), some v, some (.ref rb), some (.ref rc), y12, y13, y14] ∧
            ASt w sv H H6 C L S xs2 lf2 ∧ PInv Y (xs2.map fun x => x.e) (lf2.map (·.1)) ∧ (∃ mo, xs2 = xs ++ mo) ∧ (∃ ml, lf2 = lf ++ ml) ∧ (∀ q ∈ (asksL r).take i, ((x.e.row, nextS Y.bh x.e.st q) : PK) ∈ lf2.map (·.1)) ∧ KP H5 H6) ?_ ?_ ?_ ?_
          · exact ⟨xs, lf, y12, y13, y14, rfl, hA5, hI, ⟨[], by simp⟩, ⟨[], by simp⟩, (fun q hq => by simp at hq), KP.refl _⟩
          · rintro i σ H6 _ ⟨_, _, _, _, _, _, _, _, _, _, _, k6⟩
            exact (k6.k _ _ haa).sq
          · rintro i u σ H6 hu ⟨xs2, lf2, y12, y13, y14, rfl, hA6, hI6, ⟨mo, emo⟩, ⟨ml, eml⟩, hq6, k6⟩
            obtain ⟨q0, eq0, rfl⟩ : ∃ q0, (asksL r)[i]? = some q0 ∧ u = aV q0 := by
              rw [List.getElem?_map] at hu
              obtain ⟨q0, e1, e2⟩ := Option.map_eq_some_iff.mp hu
              exact ⟨q0, e1, e2.symm⟩
            have q0m := List.mem_of_getElem? eq0
            have hv6 := sv.keep k6 hv5
            have trc : Y.then_ (x.e.row, nextS Y.bh x.e.st q0) := ⟨x.e.st, r, q0, sok, er, q0m, rfl⟩
            have dpt : (nextS Y.bh x.e.st q0).depth ≤ 6 := by
              cases q0 with
              | none => exact hi.dp _ sok
              | some k =>
                refine hi.dp _ (hi.cl _ r k sok (List.mem_of_getElem? er) ?_)
                unfold asksL at q0m
                split at q0m
                · simp at q0m
                · obtain ⟨k2, hk2, e2⟩ := List.mem_map.mp q0m
                  cases e2
                  exact hk2
            refine mid_row (M := fun y H' => Same H6 H' ∧ sv.at_ H' (nextS Y.bh x.e.st q0) y) (fun v' H7 ⟨t7, hv7⟩ => ?_) (fun R hR => ?_)
            · have hA7 := hA6.same t7
              have pk : ∀ {T H8}, Same H7 H8 → PTup H8 T [.int (x.e.row : Nat), v'] → TupK sv H8 T (x.e.row, nextS Y.bh x.e.st q0) := fun t8 pt => ⟨v', .inl pt, sv.keep (KP.same t8) hv7⟩
              refine ⟨_, rfl, _, rfl, by show 2 ≤ sizeLine; decide, fun T1 H8 t8 nT1 pt1 => ?_⟩
              have hA8 := hA7.same t8
              refine ⟨_, rfl, T1, S, _, ckey (x.e.row, nextS Y.bh x.e.st q0), rfl, rfl, hA8.s, (pk t8 pt1).key, by have := ckey_depth (p := (x.e.row, nextS Y.bh x.e.st q0)) dpt; omega, _, rfl, iteB (fun z => ?_) (fun z => ?_)⟩
              · have z := of_not z
                rw [rowsL_has] at z
                have new := of_decide_eq_false z
                refine ⟨_, rfl, ⟨S, _, rfl, hA8.s⟩, _, rfl, _, rfl, by show 2 ≤ sizeLine; decide, fun T2 H9 t9 nT2 pt2 => ?_⟩
                have hA9 := hA8.same t9
                have tk2 : TupK sv H9 T2 (x.e.row, nextS Y.bh x.e.st q0) := pk (t8.trans t9) pt2
                have few2 : lf2.length < 20000 := by
                  have := hi.left (lf2.map (·.1) ++ [(x.e.row, nextS Y.bh x.e.st q0)]) ?_ fun q hq => ?_
                  · rw [List.length_append, List.length_map, List.length_singleton] at this
                    omega
                  · rw [List.nodup_append]
                    refine ⟨hI6.lnd, List.nodup_cons.mpr ⟨List.not_mem_nil, List.nodup_nil⟩, fun a1 h1 b1 h2 => ?_⟩
                    rw [List.mem_singleton.mp h2]
                    rintro rfl
                    exact new h1
                  · rcases List.mem_append.mp hq with hq | hq
                    · exact hI6.lth q hq
                    · rw [List.mem_singleton.mp hq]
                      exact trc
                have hA10 := hA9.left new tk2 dpt few2
                refine ⟨S, T2, _, ckey (x.e.row, nextS Y.bh x.e.st q0), rfl, rfl, hA9.s, tk2.key, by have := ckey_depth (p := (x.e.row, nextS Y.bh x.e.st q0)) dpt; omega, by unfold rowsL; rw [List.length_map]; exact few2, ?_⟩
                have k710 : KP H7 (L2.upd H9 S (nsO w S (nsPut (rowsL lf2) (ckey (x.e.row, nextS Y.bh x.e.st q0)) T2))) := (KP.same (t8.trans t9)).trans (hA9.s.kp _)
                have k510 : KP H5 (L2.upd H9 S (nsO w S (nsPut (rowsL lf2) (ckey (x.e.row, nextS Y.bh x.e.st q0)) T2))) := (k6.trans (KP.same t7)).trans k710
                have hrc10 := k510.k _ _ hrc5
                have hv10 := sv.keep k710 hv7
                have hs10 := sv.keep k510 hv5
                refine ⟨_, rfl, rc, rfl, ⟨_, hrc10.sq⟩, ?_⟩
                refine for_tup (K := K) (a := rc) (xs := r.2.map V.int) (fun j σ H11 => ∃ (xs3 : List XE) (y14 : Option V), σ = [some (.ref p), some (.ref ls), some (.ref f), some .non, some (.ref C), some (.ref L), some (.ref S), some (.int ((a : Nat) + 1)), some (.int (x.e.row : Nat)), some v, some (.ref rb), some (.ref rc), some (aV q0), some v', y14] ∧
                  ASt w sv H H11 C L S xs3 (lf2 ++ [((x.e.row, nextS Y.bh x.e.st q0), T2)]) ∧ PInv Y (xs3.map fun x => x.e) (lf2.map (·.1)) ∧ (∃ mo, xs3 = xs ++ mo) ∧ (∀ t ∈ r.2.take j, ((t.toNat, nextS Y.bh x.e.st q0) : PK) ∈ (xs3.map fun x => x.e).map CE.key) ∧ KP (L2.upd H9 S (nsO w S (nsPut (rowsL lf2) (ckey (x.e.row, nextS Y.bh x.e.st q0)) T2))) H11) ?_ ?_ ?_ ?_
                · exact ⟨xs2, y14, rfl, hA10, hI6, ⟨mo, emo⟩, (fun t ht => by simp at ht), KP.refl _⟩
                · rintro j σ H11 _ ⟨_, _, _, _, _, _, _, k11⟩
                  exact (k11.k _ _ hrc10).sq
                · rintro j u σ H11 hu ⟨xs3, y14', rfl, hA11, hI11, ⟨mo3, emo3⟩, ht11, k11⟩
                  obtain ⟨t, et, rfl⟩ := map_geti hu
                  have tm := List.mem_of_getElem? et
                  have t0 := rok.tos.lo t tm
                  have tn := rok.tos.hi t tm
                  obtain ⟨tt, rfl⟩ : ∃ tt : Nat, t = (tt : Int) := ⟨t.toNat, by omega⟩
                  have ht12 : ∀ u ∈ r.2.take (j + 1), u ∈ r.2.take j ∨ u = (tt : Int) := fun u hu => by
                    rw [List.take_add_one, et] at hu
                    rcases List.mem_append.mp hu with h | h
                    · exact .inl h
                    · exact .inr (by simpa using h)
                  have hv11 := sv.keep k11 hv10
                  refine ⟨_, rfl, _, rfl, by show 2 ≤ sizeLine; decide, fun T3 H12 t12 nT3 pt3 => ?_⟩
                  have hA12 := hA11.same t12
                  have tk3 : TupK sv H12 T3 (tt, nextS Y.bh x.e.st q0) := ⟨v', .inl pt3, sv.keep (KP.same t12) hv11⟩
                  have dk : (ckey (tt, nextS Y.bh x.e.st q0)).depth ≤ 8 := by
                    have := ckey_depth (p := (tt, nextS Y.bh x.e.st q0)) dpt
                    omega
                  refine ⟨_, rfl, T3, C, _, ckey (tt, nextS Y.bh x.e.st q0), rfl, rfl, hA12.c, tk3.key, dk, _, rfl, iteB (fun z => ?_) (fun z => ?_)⟩
                  · have z := of_not z
                    rw [kvsX_get] at z
                    have new3 := of_decide_eq_false z
                    refine ⟨_, rfl, _, rfl, _, rfl, by show 3 ≤ sizeLine; decide, fun U H13 t13 nU ptU => ?_⟩
                    refine ⟨_, rfl, _, rfl, _, rfl, by show 2 ≤ sizeLine; decide, fun T4 H14 t14 nT4 pt4 => ?_⟩
                    have hA14 := (hA12.same t13).same t14
                    have k1114 : KP H11 H14 := (KP.same t12).trans ((KP.same t13).trans (KP.same t14))
                    have tk4 : TupK sv H14 T4 (tt, nextS Y.bh x.e.st q0) := ⟨v', .inl pt4, sv.keep k1114 hv11⟩
                    have hf4 : FrmAt sv H14 (.ref U) (some (x.e.row, x.e.st, q0)) := ⟨U, v, rfl, .inl (ptU.same t14), sv.keep k1114 (sv.keep k11 hs10)⟩
                    have few3 : xs3.length < sizeLine := by
                      have := hi.few ((xs3.map fun x => x.e).map CE.key) hI11.nd fun q hq => by
                        obtain ⟨e, he, rfl⟩ := List.mem_map.mp hq
                        exact hI11.ok e he
                      have f2 := hi.few2
                      rw [List.length_map, List.length_map] at this
                      rw [sizeLine_eq]
                      omega
                    refine ⟨C, T4, _, ckey (tt, nextS Y.bh x.e.st q0), rfl, rfl, hA14.c, tk4.key, dk, by unfold kvsX; rw [List.length_map]; exact few3, ?_⟩
                    have hL15 : (L2.upd H14 C (ndO w C (nPut (kvsX xs3) (ckey (tt, nextS Y.bh x.e.st q0)) T4 (.ref U)))) L = some (.lst (xs3.map fun x => V.ref x.A)) := (upd_ne hA14.cl.symm).trans hA14.l
                    have k1415 : KP H14 (L2.upd H14 C (ndO w C (nPut (kvsX xs3) (ckey (tt, nextS Y.bh x.e.st q0)) T4 (.ref U)))) := hA14.c.kp _
                    refine ⟨_, rfl, .inl ⟨rfl, _, SqL.of hL15⟩, _, rfl, _, rfl, by show 2 ≤ sizeLine; decide, fun T5 H16 t16 nT5 pt5 => ?_⟩
                    have k1416 := k1415.trans (KP.same t16)
                    have tk5 : TupK sv H16 T5 (tt, nextS Y.bh x.e.st q0) := ⟨v', .inl pt5, sv.keep k1416 (sv.keep k1114 hv11)⟩
                    obtain ⟨hL16, hA17⟩ := hA14.more (v := .ref U) new3 tk4 hf4 dpt few3 t16 tk5
                    refine ⟨L, _, _, rfl, rfl, hL16, by rw [List.length_map]; exact few3, ?_⟩
                    have trow : tt < Y.rs.length := by omega
                    have okt : Y.ok (nextS Y.bh x.e.st q0) := by
                      cases q0 with
                      | none => exact sok
                      | some k =>
                        refine hi.cl _ r k sok (List.mem_of_getElem? er) ?_
                        unfold asksL at q0m
                        split at q0m
                        · simp at q0m
                        · obtain ⟨k2, hk2, e2⟩ := List.mem_map.mp q0m
                          cases e2
                          exact hk2
                    refine ⟨xs3 ++ [⟨⟨tt, nextS Y.bh x.e.st q0, some (x.e.row, x.e.st, q0)⟩, T4, .ref U, T5⟩], _, rfl, hA17, ?_, ⟨mo3 ++ [⟨⟨tt, nextS Y.bh x.e.st q0, some (x.e.row, x.e.st, q0)⟩, T4, .ref U, T5⟩], by rw [emo3, List.append_assoc]⟩, fun u hu => ?_, k11.trans (k1114.trans (k1416.trans (KP.lst hL16)))⟩
                    · rw [List.map_append]
                      refine hI11.more (x := ⟨tt, nextS Y.bh x.e.st q0, some (x.e.row, x.e.st, q0)⟩) (fun hm => new3 ?_) ?_ ⟨trow, okt⟩
                      · rw [List.map_map] at hm
                        exact hm
                      · refine ⟨a, x.e, r, ?_, ?_, rfl, er, q0m, tm, rfl⟩
                        · rw [List.length_map, emo3, List.length_append]
                          omega
                        · rw [List.getElem?_append_left (by rw [List.length_map, emo3, List.length_append]; omega), List.getElem?_map, emo3, List.getElem?_append_left lt, ex]
                          rfl
                    · rw [List.map_append, List.map_append]
                      rcases ht12 u hu with h | h
                      · exact List.mem_append_left _ (ht11 u h)
                      · subst h
                        exact List.mem_append_right _ (List.mem_singleton.mpr rfl)
                  · have z := of_not2 z
                    rw [kvsX_get] at z
                    have old3 := of_decide_eq_true z
                    refine ⟨xs3, _, rfl, hA12, hI11, ⟨mo3, emo3⟩, fun u hu => ?_, k11.trans (KP.same t12)⟩
                    rcases ht12 u hu with h | h
                    · exact ht11 u h
                    · subst h
                      rw [List.map_map]
                      exact old3
                · rintro σ H11 ⟨xs3, y14', rfl, hA11, hI11, ⟨mo3, emo3⟩, ht11, k11⟩
                  rw [List.length_map, List.take_length] at ht11
                  refine ⟨xs3, lf2 ++ [((x.e.row, nextS Y.bh x.e.st q0), T2)], _, _, _, rfl, hA11, ?_, ⟨mo3, emo3⟩, ⟨ml ++ [((x.e.row, nextS Y.bh x.e.st q0), T2)], by rw [eml, List.append_assoc]⟩, fun q hq => ?_, k510.trans k11⟩
                  · rw [List.map_append]
                    refine hI11.left new trc fun r2 er2 t ht => ?_
                    rw [er] at er2
                    cases er2
                    exact ht11 t ht
                  · rw [List.map_append]
                    rw [List.take_add_one, eq0] at hq
                    rcases List.mem_append.mp hq with h | h
                    · exact List.mem_append_left _ (hq6 q h)
                    · have h : q = q0 := by simpa using h
                      subst h
                      exact List.mem_append_right _ (List.mem_singleton.mpr rfl)
              · have z := of_not2 z
                rw [rowsL_has] at z
                have old := of_decide_eq_true z
                refine ⟨xs2, lf2, _, _, _, rfl, hA8, hI6, ⟨mo, emo⟩, ⟨ml, eml⟩, fun q hq => ?_, k6.trans (KP.same (t7.trans t8))⟩
                rw [List.take_add_one, eq0] at hq
                rcases List.mem_append.mp hq with h | h
                · exact hq6 q h
                · have h : q = q0 := by simpa using h
                  subst h
                  exact old
            · cases q0 with
              | none => exact ⟨_, rfl, rfl, _, rfl, iteB (fun _ => ⟨_, rfl, hR _ _ ⟨Same.refl _, hv6⟩⟩) (fun z => absurd (of_decide_eq_false z) (fun n => n rfl))⟩
              | some k =>
                have kin : k ∈ r.1 := by
                  unfold asksL at q0m
                  split at q0m
                  · simp at q0m
                  · obtain ⟨k2, hk2, e2⟩ := List.mem_map.mp q0m
                    cases e2
                    exact hk2
                refine ⟨_, rfl, rfl, _, rfl, iteB (fun z => absurd (of_decide_eq_true z) (fun z => nomatch z)) (fun _ => ?_)⟩
                refine ⟨rfl, _, rfl, _, rfl, hi.kf _ hA6.sm, hi.beh H6 hA6.sm x.e.st k v r _ sok (List.mem_of_getElem? er) kin hv6 fun v' H7 t7 hv7 => ?_⟩
                exact hR _ _ ⟨t7, hv7⟩
          · rintro σ H6 ⟨xs2, lf2, y12', y13', y14', rfl, hA6, hI6, ⟨mo, emo⟩, ⟨ml, eml⟩, hq6, k6⟩
            rw [List.length_map, List.take_length] at hq6
            refine ⟨N - (a + 1), ?_, xs2, lf2, a + 1, _, _, _, _, _, _, _, rfl, rfl, hA6, hI6, ?_, fun i e hie he r2 er2 q hq => ?_⟩
            · have := hi.few ((xs.map fun x => x.e).map CE.key) hI.nd fun q hq => by
                obtain ⟨e, he, rfl⟩ := List.mem_map.mp hq
                exact hI.ok e he
              rw [List.length_map, List.length_map] at this
              omega
            · rw [emo, List.length_append]
              omega
            · by_cases c : i < a
              · have g2 := hG.mono (x := mo.map fun x => x.e) (l2 := ml.map (·.1)) (by rw [List.length_map]; omega)
                rw [← List.map_append, ← List.map_append, ← emo, ← eml] at g2
                exact g2 i e c he r2 er2 q hq
              · have ei : i = a := by omega
                subst ei
                rw [List.getElem?_map, emo, List.getElem?_append_left lt, ex] at he
                cases he
                rw [er] at er2
                cases er2
                exact hq6 q hq
        · have en : a = xs.length := by
            have z := of_decide_eq_false z
            rw [List.length_map] at z
            omega
          subst en
          refine ⟨_, rfl, q C H4 xs hA.sm nC hA.c hA.es (hI.came ?_)⟩
          rw [List.length_map]
          exact hG
      · rintro σ H3 Q1 Q2 hQ ⟨v, e1, v2, e2, p2, ys, e3, e4, i, j, e5, e6, k, e7, e8⟩
        exact ⟨v, e1, v2, e2, p2, ys, e3, e4, i, j, e5, e6, k, e7, hQ _ _ e8⟩
end
end Su
/-! ### LX: all lays: which they are, how many -/
namespace Su
open PySem PySem.Spec PyProof.Rows L2
/-- what may stand next -/
def nextO (ms s : List Int) : List Int := ((-1) :: ms).filter fun o => decide (o = -1) || !decide (o ∈ s)
def extO (ms : List Int) (s : List Int) : List (List Int) := (nextO ms s).map fun o => s ++ [o]
def slotsL (ms : List Int) : Nat → List (List Int)
  | 0 => [[]]
  | n + 1 => (slotsL ms n).flatMap (extO ms)
def bitsL : Nat → List (List Int)
  | 0 => [[]]
  | n + 1 => (bitsL n).flatMap fun b => [b ++ [0], b ++ [1]]
def laysL (ms : List Int) (n m : Nat) : List (List Int × List Int) := (slotsL ms n).flatMap fun s => (bitsL m).map fun b => (s, b)
/-- slots with these rooms -/
structure SlotOk (ms s : List Int) : Prop where
  mem : ∀ x ∈ s, x = -1 ∨ x ∈ ms
  one : (s.filter fun x => !decide (x = -1)).Nodup
theorem filter_in (ms s : List Int) : (∀ x ∈ s.filter (fun x => !decide (x = -1)), x ∈ ms) ↔ ∀ x ∈ s, x = -1 ∨ x ∈ ms := by
  constructor
  · intro h x hx
    by_cases e : x = -1
    · exact .inl e
    · exact .inr (h x (List.mem_filter.mpr ⟨hx, by simp [e]⟩))
  · intro h x hx
    obtain ⟨h1, h2⟩ := List.mem_filter.mp hx
    rcases h x h1 with e | e
    · simp [e] at h2
    · exact e
theorem mem_next {ms s : List Int} {o : Int} : o ∈ nextO ms s ↔ o = -1 ∨ (o ∈ ms ∧ o ∉ s) := by
  unfold nextO
  rw [List.mem_filter, List.mem_cons]
  constructor
  · rintro ⟨h1 | h1, h2⟩
    · exact .inl h1
    · by_cases e : o = -1
      · exact .inl e
      · simp [e] at h2
        exact .inr ⟨h1, h2⟩
  · rintro (e | ⟨h1, h2⟩)
    · exact ⟨.inl e, by simp [e]⟩
    · exact ⟨.inr h1, by simp [h2]⟩
theorem SlotOk.ext {ms s : List Int} (h : SlotOk ms s) (hm : (-1 : Int) ∉ ms) {o : Int} (ho : o ∈ nextO ms s) : SlotOk ms (s ++ [o]) := by
  rcases mem_next.mp ho with rfl | ⟨h1, h2⟩
  · refine ⟨fun x hx => ?_, ?_⟩
    · rcases List.mem_append.mp hx with hx | hx
      · exact h.mem x hx
      · exact .inl (List.mem_singleton.mp hx)
    · rw [List.filter_append]
      simpa using h.one
  · refine ⟨fun x hx => ?_, ?_⟩
    · rcases List.mem_append.mp hx with hx | hx
      · exact h.mem x hx
      · rw [List.mem_singleton.mp hx]
        exact .inr h1
    · have ne : o ≠ -1 := fun e => hm (e ▸ h1)
      rw [List.filter_append]
      have e1 : ([o].filter fun x => !decide (x = -1)) = [o] := by simp [ne]
      rw [e1, List.nodup_append]
      refine ⟨h.one, List.nodup_cons.mpr ⟨List.not_mem_nil, List.nodup_nil⟩, fun a ha b hb => ?_⟩
      rw [List.mem_singleton.mp hb]
      rintro rfl
      exact h2 (List.mem_filter.mp ha).1
theorem mem_slots {ms : List Int} (hm : (-1 : Int) ∉ ms) : ∀ {n : Nat} {s : List Int}, s ∈ slotsL ms n ↔ s.length = n ∧ SlotOk ms s
  | 0, s => by
    unfold slotsL
    rw [List.mem_singleton]
    constructor
    · rintro rfl
      exact ⟨rfl, (fun x hx => nomatch hx), List.nodup_nil⟩
    · rintro ⟨h, _⟩
      exact List.eq_nil_of_length_eq_zero h
  | n + 1, s => by
    unfold slotsL
    rw [List.mem_flatMap]
    constructor
    · rintro ⟨t, ht, hs⟩
      obtain ⟨h1, h2⟩ := (mem_slots hm).mp ht
      obtain ⟨o, ho, rfl⟩ := List.mem_map.mp hs
      exact ⟨by rw [List.length_append, h1]; rfl, h2.ext hm ho⟩
    · rintro ⟨h1, h2⟩
      rcases List.eq_nil_or_concat s with rfl | ⟨t, o, rfl⟩
      · cases h1
      · rw [List.concat_eq_append] at h1 h2 ⊢
        rw [List.length_append, List.length_singleton] at h1
        have st : SlotOk ms t := by
          refine ⟨fun x hx => h2.mem x (List.mem_append_left _ hx), ?_⟩
          have z := h2.one
          rw [List.filter_append] at z
          exact (List.nodup_append.mp z).1
        refine ⟨t, (mem_slots hm).mpr ⟨by omega, st⟩, List.mem_map.mpr ⟨o, mem_next.mpr ?_, rfl⟩⟩
        rcases h2.mem o (List.mem_append_right _ (List.mem_singleton.mpr rfl)) with e | e
        · exact .inl e
        · refine .inr ⟨e, fun hx => ?_⟩
          have ne : o ≠ -1 := fun z => hm (z ▸ e)
          have z := h2.one
          rw [List.filter_append, List.nodup_append] at z
          exact z.2.2 o (List.mem_filter.mpr ⟨hx, by simp [ne]⟩) o (by simp [ne]) rfl
theorem mem_bits : ∀ {n : Nat} {b : List Int}, b ∈ bitsL n ↔ b.length = n ∧ ∀ x ∈ b, x = 0 ∨ x = 1
  | 0, b => by
    unfold bitsL
    rw [List.mem_singleton]
    constructor
    · rintro rfl
      exact ⟨rfl, fun x hx => nomatch hx⟩
    · rintro ⟨h, _⟩
      exact List.eq_nil_of_length_eq_zero h
  | n + 1, b => by
    unfold bitsL
    rw [List.mem_flatMap]
    constructor
    · rintro ⟨t, ht, hs⟩
      obtain ⟨h1, h2⟩ := mem_bits.mp ht
      have e : ∃ o : Int, (o = 0 ∨ o = 1) ∧ b = t ++ [o] := by
        rcases List.mem_cons.mp hs with e | hs
        · exact ⟨0, .inl rfl, e⟩
        · exact ⟨1, .inr rfl, List.mem_singleton.mp hs⟩
      obtain ⟨o, ho, rfl⟩ := e
      refine ⟨by rw [List.length_append, h1]; rfl, fun x hx => ?_⟩
      rcases List.mem_append.mp hx with hx | hx
      · exact h2 x hx
      · rw [List.mem_singleton.mp hx]
        exact ho
    · rintro ⟨h1, h2⟩
      rcases List.eq_nil_or_concat b with rfl | ⟨t, o, rfl⟩
      · cases h1
      · rw [List.concat_eq_append] at h1 h2 ⊢
        rw [List.length_append, List.length_singleton] at h1
        refine ⟨t, mem_bits.mpr ⟨by omega, fun x hx => h2 x (List.mem_append_left _ hx)⟩, ?_⟩
        rcases h2 o (List.mem_append_right _ (List.mem_singleton.mpr rfl)) with rfl | rfl
        · exact List.mem_cons_self
        · exact List.mem_cons_of_mem _ (List.mem_singleton.mpr rfl)
theorem mem_lays {ms : List Int} (hm : (-1 : Int) ∉ ms) {n m : Nat} {p : List Int × List Int} : p ∈ laysL ms n m ↔ (p.1.length = n ∧ SlotOk ms p.1) ∧ p.2.length = m ∧ ∀ x ∈ p.2, x = 0 ∨ x = 1 := by
  unfold laysL
  rw [List.mem_flatMap]
  constructor
  · rintro ⟨s, hs, h⟩
    obtain ⟨b, hb, rfl⟩ := List.mem_map.mp h
    exact ⟨(mem_slots hm).mp hs, mem_bits.mp hb⟩
  · rintro ⟨h1, h2⟩
    exact ⟨p.1, (mem_slots hm).mpr h1, List.mem_map.mpr ⟨p.2, mem_bits.mpr h2, rfl⟩⟩
/-! none twice -/
theorem nodup_flat {α β : Type} {f : α → List β} : ∀ {l : List α}, l.Nodup → (∀ a ∈ l, (f a).Nodup) → (∀ a ∈ l, ∀ b ∈ l, a ≠ b → ∀ x ∈ f a, x ∉ f b) → (l.flatMap f).Nodup
  | [], _, _, _ => List.nodup_nil
  | a :: l, h, h1, h2 => by
    obtain ⟨n1, n2⟩ := List.nodup_cons.mp h
    rw [List.flatMap_cons, List.nodup_append]
    refine ⟨h1 a List.mem_cons_self, nodup_flat n2 (fun b hb => h1 b (List.mem_cons_of_mem _ hb)) (fun b hb c hc => h2 b (List.mem_cons_of_mem _ hb) c (List.mem_cons_of_mem _ hc)), fun x hx y hy => ?_⟩
    rintro rfl
    obtain ⟨b, hb, hxb⟩ := List.mem_flatMap.mp hy
    exact h2 a List.mem_cons_self b (List.mem_cons_of_mem _ hb) (fun e => n1 (e ▸ hb)) x hx hxb
theorem nodup_map {α β : Type} {f : α → β} {l : List α} (h : l.Nodup) (inj : ∀ a ∈ l, ∀ b ∈ l, f a = f b → a = b) : (l.map f).Nodup := by
  refine List.pairwise_map.mpr (List.Pairwise.imp_of_mem (fun {a b} ha hb hab e => ?_) h)
  exact hab (inj a ha b hb e)
theorem snoc_inj {s t : List Int} {a b : Int} (h : s ++ [a] = t ++ [b]) : s = t ∧ a = b := by
  have := List.append_inj' h rfl
  exact ⟨this.1, by simpa using this.2⟩
theorem nodup_next {ms s : List Int} (hm : (-1 : Int) ∉ ms) (hn : ms.Nodup) : (nextO ms s).Nodup := (List.nodup_cons.mpr ⟨hm, hn⟩).filter _
theorem nodup_slots {ms : List Int} (hm : (-1 : Int) ∉ ms) (hn : ms.Nodup) : ∀ n, (slotsL ms n).Nodup
  | 0 => List.nodup_cons.mpr ⟨List.not_mem_nil, List.nodup_nil⟩
  | n + 1 => by
    refine nodup_flat (nodup_slots hm hn n) (fun s _ => nodup_map (nodup_next hm hn) fun a _ b _ e => (snoc_inj e).2) fun s _ t _ ne x hx hy => ?_
    obtain ⟨a, _, rfl⟩ := List.mem_map.mp hx
    obtain ⟨b, _, e⟩ := List.mem_map.mp hy
    exact ne (snoc_inj e).1.symm
theorem nodup_bits : ∀ n, (bitsL n).Nodup
  | 0 => List.nodup_cons.mpr ⟨List.not_mem_nil, List.nodup_nil⟩
  | n + 1 => by
    refine nodup_flat (nodup_bits n) (fun s _ => ?_) fun s _ t _ ne x hx hy => ?_
    · refine List.nodup_cons.mpr ⟨fun h => ?_, List.nodup_cons.mpr ⟨List.not_mem_nil, List.nodup_nil⟩⟩
      have := (snoc_inj (List.mem_singleton.mp h)).2
      omega
    · have f : ∀ {u : List Int}, x ∈ [u ++ [0], u ++ [(1 : Int)]] → ∃ o, x = u ++ [o] := fun h => by
        rcases List.mem_cons.mp h with e | h
        · exact ⟨0, e⟩
        · exact ⟨1, List.mem_singleton.mp h⟩
      obtain ⟨a, ea⟩ := f hx
      obtain ⟨b, eb⟩ := f hy
      exact ne (snoc_inj (ea.symm.trans eb)).1
theorem nodup_lays {ms : List Int} (hm : (-1 : Int) ∉ ms) (hn : ms.Nodup) (n m : Nat) : (laysL ms n m).Nodup := by
  refine nodup_flat (nodup_slots hm hn n) (fun s _ => nodup_map (nodup_bits m) fun a _ b _ e => congrArg Prod.snd e) fun s _ t _ ne x hx hy => ?_
  obtain ⟨a, _, rfl⟩ := List.mem_map.mp hx
  obtain ⟨b, _, e⟩ := List.mem_map.mp hy
  exact ne (congrArg Prod.fst e).symm
/-! how many -/
def itE (ms : List Int) : Nat → List (List Int) → List (List Int)
  | 0, l => l
  | n + 1, l => itE ms n (l.flatMap (extO ms))
theorem itE_slots (ms : List Int) : ∀ (n k : Nat), itE ms n (slotsL ms k) = slotsL ms (k + n)
  | 0, k => rfl
  | n + 1, k => by
    show itE ms n (slotsL ms (k + 1)) = _
    rw [itE_slots ms n (k + 1)]
    congr 1
    omega
theorem itE_app (ms : List Int) : ∀ (n : Nat) (l1 l2 : List (List Int)), itE ms n (l1 ++ l2) = itE ms n l1 ++ itE ms n l2
  | 0, _, _ => rfl
  | n + 1, l1, l2 => by
    show itE ms n ((l1 ++ l2).flatMap _) = _
    rw [List.flatMap_append, itE_app ms n]
    rfl
/-- so many slots more, so many rooms left -/
def cntS : Nat → Nat → Nat
  | 0, _ => 1
  | n + 1, r => cntS n r + r * cntS n (r - 1)
def leftN (ms s : List Int) : Nat := (ms.filter fun o => !decide (o ∈ s)).length
theorem itE_one (ms : List Int) (hm : (-1 : Int) ∉ ms) (hn : ms.Nodup) : ∀ (n : Nat) (s : List Int), (itE ms n [s]).length = cntS n (leftN ms s)
  | 0, s => rfl
  | n + 1, s => by
    show (itE ms n ([s].flatMap (extO ms))).length = _
    rw [List.flatMap_cons, List.flatMap_nil, List.append_nil]
    have e : nextO ms s = (-1) :: ms.filter fun o => !decide (o ∈ s) := by
      unfold nextO
      rw [List.filter_cons, if_pos (by simp)]
      congr 1
      refine List.filter_congr fun o ho => ?_
      have ne : o ≠ -1 := fun z => hm (z ▸ ho)
      simp [ne]
    unfold extO
    rw [e, List.map_cons]
    have gen : ∀ l : List Int, (∀ o ∈ l, o ∈ ms ∧ o ∉ s) → (itE ms n (l.map fun o => s ++ [o])).length = l.length * cntS n (leftN ms s - 1) := by
      intro l
      induction l with
      | nil =>
        intro _
        have : ∀ k, itE ms k [] = [] := fun k => by
          induction k with
          | zero => rfl
          | succ k ih => exact ih
        rw [List.map_nil, this]
        exact (Nat.zero_mul _).symm
      | cons o l ih =>
        intro h
        rw [List.map_cons, ← List.singleton_append, itE_app, List.length_append, ih fun x hx => h x (List.mem_cons_of_mem _ hx), itE_one ms hm hn n (s ++ [o]), List.length_cons, Nat.add_mul, Nat.one_mul, Nat.add_comm]
        congr 2
        obtain ⟨h1, h2⟩ := h o List.mem_cons_self
        -- one room less is left
        have sub : (ms.filter fun x => !decide (x ∈ s ++ [o])) = (ms.filter fun x => !decide (x ∈ s)).erase o := by
          have nd : (ms.filter fun x => !decide (x ∈ s)).Nodup := hn.filter _
          rw [nd.erase_eq_filter, List.filter_filter]
          refine List.filter_congr fun x _ => ?_
          by_cases e1 : x = o
          · subst e1
            simp
          · simp [e1]
        unfold leftN
        rw [sub, List.length_erase_of_mem (List.mem_filter.mpr ⟨h1, by simp [h2]⟩)]
    rw [← List.singleton_append, itE_app, List.length_append, itE_one ms hm hn n, gen _ fun o ho => by
      obtain ⟨h1, h2⟩ := List.mem_filter.mp ho
      exact ⟨h1, by simpa using h2⟩]
    have e0 : leftN ms (s ++ [-1]) = leftN ms s := by
      unfold leftN
      congr 1
      refine List.filter_congr fun o ho => ?_
      have ne : o ≠ -1 := fun z => hm (z ▸ ho)
      simp [ne]
    rw [e0]
    rfl
theorem slots_len {ms : List Int} (hm : (-1 : Int) ∉ ms) (hn : ms.Nodup) (n : Nat) : (slotsL ms n).length = cntS n ms.length := by
  have e := itE_slots ms n 0
  rw [Nat.zero_add] at e
  rw [← e, show slotsL ms 0 = [[]] from rfl, itE_one ms hm hn]
  unfold leftN
  congr 2
  exact List.filter_eq_self.mpr fun o _ => by simp
theorem bits_len : ∀ m, (bitsL m).length = 2 ^ m
  | 0 => rfl
  | m + 1 => by
    have : ∀ l : List (List Int), (l.flatMap fun b => [b ++ [0], b ++ [(1 : Int)]]).length = 2 * l.length := by
      intro l
      induction l with
      | nil => rfl
      | cons b l ih =>
        have e : (b :: l).length = l.length + 1 := rfl
        rw [List.flatMap_cons, List.length_append, ih, e]
        show 2 + _ = _
        omega
    show (List.flatMap _ (bitsL m)).length = _
    rw [this, bits_len m, Nat.pow_succ]
    omega
theorem lays_len {ms : List Int} (hm : (-1 : Int) ∉ ms) (hn : ms.Nodup) (n m : Nat) : (laysL ms n m).length = cntS n ms.length * 2 ^ m := by
  have : ∀ l : List (List Int), (l.flatMap fun s => (bitsL m).map fun b => (s, b)).length = l.length * 2 ^ m := by
    intro l
    induction l with
    | nil => simp
    | cons s l ih => rw [List.flatMap_cons, List.length_append, ih, List.length_map, bits_len, List.length_cons, Nat.add_mul, Nat.one_mul, Nat.add_comm]
  unfold laysL
  rw [this, slots_len hm hn]
end Su
/-! ### W1: how a row of a web is looked at, of a row that is one -/
namespace Su
open PySem PySem.Spec PyProof.Rows L2
structure GbW (mg : Str → Option Value) : Prop where
  last : ∃ t, mg "LAST_ROOM" = some (.int 99 t)
  rows : ∃ t, mg "MOST_ROWS" = some (.int 80 t)
  rooms : ∃ t, mg "MOST_ROOMS" = some (.int 12 t)
def spWholeI : Sp := fun vs H Q _ => ∃ (i : Int), vs = [.int i] ∧ Q (.bl true) H
def spRoomI : Sp := fun vs H Q _ => ∃ (i : Int), vs = [.int i] ∧ 0 ≤ i ∧ i ≤ 99 ∧ Q (.bl true) H
def spRising (K : PySem.W.Frag) : Sp := fun vs H Q _ => ∃ (a : Addr) (ns : List Int), vs = [.ref a] ∧ T2 H a (ns.map V.int) ∧ ns.Pairwise (· < ·) ∧ ns.length ≤ 1000 ∧ ∀ H', Same H H' → Q (.bl true) H'
def spRooms (K : PySem.W.Frag) : Sp := fun vs H Q _ => ∃ (a : Addr) (ns : List Int) (lo hi : Int), vs = [.ref a, .int lo, .int hi] ∧ T2 H a (ns.map V.int) ∧ Ris 0 99 ns ∧ lo ≤ ns.length ∧ ns.length ≤ hi ∧ ns.length ≤ 1000 ∧ ∀ H', Same H H' → Q (.bl true) H'
def spTos (K : PySem.W.Frag) : Sp := fun vs H Q _ => ∃ (a : Addr) (ns : List Int) (n : Nat), vs = [.ref a, .int n] ∧ T2 H a (ns.map V.int) ∧ Ris 0 ((n : Int) - 1) ns ∧ n ≤ 80 ∧ ∀ H', Same H H' → Q (.bl true) H'
def spRow (K : PySem.W.Frag) : Sp := fun vs H Q _ => ∃ (v : V) (r : Rw) (n : Nat), vs = [v, .int n] ∧ RowAt H v r ∧ RowOk n r ∧ n ≤ 80 ∧ ∀ H', Same H H' → Q (.bl true) H'
theorem sc_is_whole : FnScope ["thing"] ["thing"] (defScope s_is_whole) := ⟨rfl, rfl, rfl, by decide +kernel, rfl, by decide +kernel, by decide +kernel⟩
theorem sc_is_room : FnScope ["thing"] ["thing"] (defScope s_is_room) := ⟨rfl, rfl, rfl, by decide +kernel, rfl, by decide +kernel, by decide +kernel⟩
theorem sc_are_rising : FnScope ["numbers", "one", "other"] ["numbers"] (defScope s_are_rising) := ⟨rfl, rfl, rfl, by decide +kernel, rfl, by decide +kernel, by decide +kernel⟩
theorem sc_are_rooms : FnScope ["thing", "least", "most", "room"] ["thing", "least", "most"] (defScope s_are_rooms) := ⟨rfl, rfl, rfl, by decide +kernel, rfl, by decide +kernel, by decide +kernel⟩
theorem sc_are_tos : FnScope ["thing", "rows", "to"] ["thing", "rows"] (defScope s_are_tos) := ⟨rfl, rfl, rfl, by decide +kernel, rfl, by decide +kernel, by decide +kernel⟩
theorem sc_is_row : FnScope ["thing", "rows"] ["thing", "rows"] (defScope s_is_row) := ⟨rfl, rfl, rfl, by decide +kernel, rfl, by decide +kernel, by decide +kernel⟩
section
variable {P : Program} {w : World} {K : PySem.W.Frag} {mg : Str → Option Value} {base : Heap}
theorem ok_whole (T : At K mg "is_whole" s_is_whole ["thing"]) (B : Bt mg) : Cal P w K mg base 1 "is_whole" ["thing"] spWholeI := by
  refine cal_of T sc_is_whole (fun vs H Q E h => ?_) (fun f cdv A outer s H vs Q E hr h => ?_)
  · obtain ⟨i, rfl, _⟩ := h
    rfl
  · obtain ⟨i, rfl, q⟩ := h
    refine ⟨_, (pss_one (ps_ret (pe_and (pe_callB call_isi (by rfl) B.isinstance (by decide +kernel) (pa_cons (pv 0) (pa_cons (pe_bltn (v := .ty "int") (u := .type "int") (by rfl) B.int (by decide +kernel) rfl) pa_nil))) (pe_one (pe_not (pe_callB call_isi (by rfl) B.isinstance (by decide +kernel) (pa_cons (pv 0) (pa_cons (pe_bltn (v := .ty "bool") (u := .type "bool") (by rfl) B.bool (by decide +kernel) rfl) pa_nil)))))))), ?_⟩
    refine ⟨_, rfl, .int i, .ty "int", .type "int", .type "int", true, rfl, .ty "int", .base (.int i), kit_ty (by decide +kernel), _, rfl, iteT ?_⟩
    exact ⟨_, rfl, .int i, .ty "bool", .type "int", .type "bool", false, rfl, .ty "bool", .base (.int i), kit_ty (by decide +kernel), _, rfl, q⟩
theorem ok_room (T : At K mg "is_room" s_is_room ["thing"]) (D : GbW mg) (c_is_whole : Cal P w K mg base 1 "is_whole" ["thing"] spWholeI) : Cal P w K mg base 2 "is_room" ["thing"] spRoomI := by
  obtain ⟨tl, mLast⟩ := D.last
  refine cal_of T sc_is_room (fun vs H Q E h => ?_) (fun f cdv A outer s H vs Q E hr h => ?_)
  · obtain ⟨i, rfl, _⟩ := h
    rfl
  · obtain ⟨i, rfl, i0, i1, q⟩ := h
    refine ⟨_, (pss_one (ps_ret (pe_and (pe_own c_is_whole hr (by decide) (by rfl) (pa_cons (pv 0) pa_nil)) (pe_one (pe_chain op_le op_le pe_int (pv 0) (pe_glob (v := .int 99) rfl mLast ⟨_, rfl⟩)))))), ?_⟩
    refine ⟨_, rfl, i, rfl, _, rfl, iteT ?_⟩
    refine ⟨_, rfl, _, _, rfl, rfl, _, rfl, iteB (fun _ => ?_) (fun z => absurd (of_decide_eq_false z) (by omega))⟩
    refine ⟨_, _, rfl, rfl, ?_⟩
    have z : (V.bl (decide (i ≤ 99))) = .bl true := congrArg V.bl (decide_eq_true i1)
    exact (congrArg (fun v => Q v H) z).mpr q
theorem ok_rising (T : At K mg "are_rising" s_are_rising ["numbers"]) (B : Bt mg) : Cal P w K mg base 1 "are_rising" ["numbers"] (spRising K) := by
  refine cal_of T sc_are_rising (fun vs H Q E h => ?_) (fun f cdv A outer s H vs Q E hr h => ?_)
  · obtain ⟨a, ns, rfl, _⟩ := h
    rfl
  · obtain ⟨a, ns, rfl, ha, pw, hl, q⟩ := h
    refine ⟨_, (pss_one (ps_ret (pe_callB (cr_all rfl) (by rfl) B.all (by decide +kernel) (pa_cons (pe_lc (own := [("one", 1), ("other", 2)]) (g := (gTup K 2 (gCons (gName 1) (gCons (gName 2) gNil)))) (tt := tYes) (te := (tOp (rI0 fun i j => .bl (decide (i < j))) (tVar 1) (tVar 2))) (by rfl) sc_are_rising.nd (RZ.pi_zipA (by rfl) B.zip (pa_cons (pv 0) (pa_cons (pe_slice sl_tup2 (pv 0) (po_some pe_int) po_none) pa_nil))) (blkOk_by (own := [("one", 1), ("other", 2)]) (N := ["numbers", "one", "other"]) (sc := defScope s_are_rising) (by decide +kernel)) (fun _ _ _ _ _ => (pg_tup (by rfl) (pgs_cons (pg_name (i := 1) sc_are_rising.nd rfl (Or.inl rfl)) (pgs_cons (pg_name (i := 2) sc_are_rising.nd rfl (Or.inl rfl)) pgs_nil)))) (fun _ _ _ _ _ => pts_nil) (fun _ _ _ _ _ => (pe_cmpR op_lt (pv 1) (pv 2) (nomark _)))) pa_nil)))), ?_⟩
    refine ⟨_, rfl, _, rfl, 1, rfl, a, _, rfl, ha, fun b H1 s1 hb => ?_⟩
    rw [cut_tail, ← List.map_drop] at hb
    refine ⟨a, b, _, _, rfl, .inr ⟨(ha.same s1).sq, hb.sq, fun D nD => ?_⟩⟩
    refine lc_zipT (K := K) (a := a) (b := b) (xs := ns.map V.int) (ys := (ns.drop 1).map V.int) (by rw [List.length_map, List.length_map, List.length_drop]; omega) (fun i H2 => Same H H2 ∧ T2 H2 a (ns.map V.int) ∧ T2 H2 b ((ns.drop 1).map V.int) ∧ H2 D = some (.lst (List.replicate i (V.bl true)))) ?_ ?_ ?_ ?_
    · have sD : Same H1 (upd H1 D (.lst [])) := same_upd nD
      exact ⟨s1.trans sD, (ha.same s1).same sD, hb.same sD, upd_same⟩
    · rintro i H2 _ ⟨_, h1, h2, _⟩
      exact ⟨h1.sq, h2.sq⟩
    · rintro i x y T H2 hx hy ⟨s2, h1, h2, hD⟩ nT
      have sT : Same H2 (upd H2 T (.tup [x, y])) := same_upd nT
      rw [List.getElem?_map] at hx hy
      rw [List.getElem?_drop] at hy
      obtain ⟨n1, e1, rfl⟩ := Option.map_eq_some_iff.mp hx
      obtain ⟨n2, e2, rfl⟩ := Option.map_eq_some_iff.mp hy
      have lt : n1 < n2 := by
        obtain ⟨l1, rfl⟩ := List.getElem?_eq_some_iff.mp e1
        obtain ⟨l2, rfl⟩ := List.getElem?_eq_some_iff.mp e2
        exact List.pairwise_iff_getElem.mp pw i (1 + i) l1 l2 (by omega)
      have hi : i < ns.length := (List.getElem?_eq_some_iff.mp e1).1
      refine ⟨T, _, rfl, SqT.of upd_same, rfl, _, _, rfl, _, _, rfl, rfl, rfl, tyes ?_⟩
      refine ⟨_, rfl, _, rfl, _, _, rfl, rfl, List.replicate i (V.bl true), sT _ _ hD, ?_, ?_⟩
      · rw [List.length_replicate]
        exact small1000 (by omega)
      · have z : (V.bl (decide (n1 < n2))) = .bl true := congrArg V.bl (decide_eq_true lt)
        have h3 := sT _ _ hD
        have k3 := (K2.same sT).trans (K2.lst (u := .lst (List.replicate (i + 1) (V.bl true))) h3)
        show _ ∧ _ ∧ _ ∧ _
        rw [show (fun i j => V.bl (decide (i < j))) n1 n2 = V.bl true from z, rep_snoc]
        refine ⟨fun c o ec => ?_, k3 _ _ h1, k3 _ _ h2, upd_same⟩
        rw [upd_ne (ne_of_none (s1 _ _ ec) nD)]
        exact sT _ _ (s2 _ _ ec)
    · rintro H2 ⟨s2, h1, h2, hD⟩
      refine ⟨D, List.replicate ((ns.drop 1).map V.int).length true, rfl, ?_, ?_⟩
      · rw [rep_map]
        exact SqL.of hD
      · rw [rep_all]
        exact q H2 s2
theorem ok_rooms (T : At K mg "are_rooms" s_are_rooms ["thing", "least", "most"]) (B : Bt mg) (c_is_room : Cal P w K mg base 2 "is_room" ["thing"] spRoomI) (c_are_rising : Cal P w K mg base 1 "are_rising" ["numbers"] (spRising K)) :
    Cal P w K mg base 3 "are_rooms" ["thing", "least", "most"] (spRooms K) := by
  refine cal_of T sc_are_rooms (fun vs H Q E h => ?_) (fun f cdv A outer s H vs Q E hr h => ?_)
  · obtain ⟨a, ns, lo, hi, rfl, _⟩ := h
    rfl
  · obtain ⟨a, ns, lo, hi, rfl, ha, ris, h1, h2, hl, q⟩ := h
    refine ⟨_, (pss_cons (ps_if (PW.pt (pw_or (pt_not (pt_val (pe_callB call_isi (by rfl) B.isinstance (by decide +kernel) (pa_cons (pv 0) (pa_cons (pe_bltn (v := .ty "tuple") (u := .type "tuple") (by rfl) B.tuple (by decide +kernel) rfl) pa_nil))))) (pw_or1 (pt_not (pt_chain op_le op_le (pv 1) (pe_callB call_len_seq (by rfl) B.len PySem.boot_len (pa_cons (pv 0) pa_nil)) (pv 2)))))) (pss_one (ps_ret pe_bl)) pss_nil)
      (pss_one (ps_ret (pe_and (pe_callB (cr_all rfl) (by rfl) B.all (by decide +kernel) (pa_cons (pe_lc (own := [("room", 3)]) (g := (gName 3)) (tt := tYes) (te := (tCall spRoomI [] E0 (tCons (tVar 3) tNil))) (by rfl) sc_are_rooms.nd (pi_tup (pv 0)) (blkOk_by (own := [("room", 3)]) (N := ["thing", "least", "most", "room"]) (sc := defScope s_are_rooms) (by decide +kernel)) (fun _ _ _ _ _ => (pg_name (i := 3) sc_are_rooms.nd rfl (Or.inl rfl))) (fun _ _ _ _ _ => pts_nil) (fun _ _ _ _ _ => (pe_own c_is_room hr (by decide) (by rfl) (pa_cons (pv 3) pa_nil)))) pa_nil)) (pe_one (pe_own c_are_rising hr (by decide) (by rfl) (pa_cons (pv 0) pa_nil))))))), ?_⟩
    refine ⟨_, rfl, .ref a, .ty "tuple", .type "tuple", .type "tuple", true, rfl, .ty "tuple", ha.ty, kit_ty (by decide +kernel), _, rfl, iteF ?_⟩
    refine ⟨_, rfl, _, rfl, a, _, rfl, .inr ha.sq, _, _, rfl, rfl, _, rfl, iteB (fun _ => ?_) (fun z => absurd (of_decide_eq_false z) (by rw [List.length_map]; omega))⟩
    refine ⟨_, rfl, _, _, rfl, rfl, _, rfl, ?_⟩
    rw [show decide (((ns.map V.int).length : Int) ≤ hi) = true from decide_eq_true (by rw [List.length_map]; omega)]
    refine iteF ?_
    refine ⟨_, rfl, a, rfl, ⟨_, ha.sq⟩, fun D nD => ?_⟩
    refine lc_tup (K := K) (a := a) (xs := ns.map V.int) (fun i H2 => Same H H2 ∧ T2 H2 a (ns.map V.int) ∧ H2 D = some (.lst (List.replicate i (V.bl true)))) ?_ ?_ ?_ ?_
    · have sD : Same H (upd H D (.lst [])) := same_upd nD
      exact ⟨sD, ha.same sD, upd_same⟩
    · rintro i H2 _ ⟨_, h3, _⟩
      exact h3.sq
    · rintro i x H2 hx ⟨s2, h3, hD⟩
      rw [List.getElem?_map] at hx
      obtain ⟨n1, e1, rfl⟩ := Option.map_eq_some_iff.mp hx
      have hi : i < ns.length := (List.getElem?_eq_some_iff.mp e1).1
      have hm := List.mem_of_getElem? e1
      refine ⟨rfl, tyes ?_⟩
      refine ⟨_, rfl, n1, rfl, ris.lo n1 hm, ris.hi n1 hm, List.replicate i (V.bl true), hD, (by rw [List.length_replicate]; exact small1000 (by omega)), ?_⟩
      rw [rep_snoc]
      refine ⟨fun c o ec => ?_, K2.lst hD _ _ h3, upd_same⟩
      rw [upd_ne (ne_of_none ec nD)]
      exact s2 _ _ ec
    · rintro H2 ⟨s2, h3, hD⟩
      refine ⟨D, List.replicate (ns.map V.int).length true, rfl, (by rw [rep_map]; exact SqL.of hD), ?_⟩
      rw [rep_all]
      refine ⟨_, rfl, iteT ?_⟩
      exact ⟨_, rfl, a, ns, rfl, h3, ris.pw, hl, fun H3 s3 => q H3 (s2.trans s3)⟩
theorem ok_tos (T : At K mg "are_tos" s_are_tos ["thing", "rows"]) (B : Bt mg) (c_is_whole : Cal P w K mg base 1 "is_whole" ["thing"] spWholeI) (c_are_rising : Cal P w K mg base 1 "are_rising" ["numbers"] (spRising K)) :
    Cal P w K mg base 2 "are_tos" ["thing", "rows"] (spTos K) := by
  refine cal_of T sc_are_tos (fun vs H Q E h => ?_) (fun f cdv A outer s H vs Q E hr h => ?_)
  · obtain ⟨a, ns, n, rfl, _⟩ := h
    rfl
  · obtain ⟨a, ns, n, rfl, ha, ris, n8, q⟩ := h
    have hl := ris_len ris
    refine ⟨_, (pss_cons (ps_if (PW.pt (pw_or (pt_not (pt_val (pe_callB call_isi (by rfl) B.isinstance (by decide +kernel) (pa_cons (pv 0) (pa_cons (pe_bltn (v := .ty "tuple") (u := .type "tuple") (by rfl) B.tuple (by decide +kernel) rfl) pa_nil))))) (pw_or1 (pt_cmpR op_gt (pe_callB call_len_seq (by rfl) B.len PySem.boot_len (pa_cons (pv 0) pa_nil)) (pv 1) (nomark _))))) (pss_one (ps_ret pe_bl)) pss_nil)
      (pss_one (ps_ret (pe_and (pe_callB (cr_all rfl) (by rfl) B.all (by decide +kernel) (pa_cons (pe_lc (own := [("to", 2)]) (g := (gName 2)) (tt := tYes) (te := (tAndV (tCall spWholeI [] E0 (tCons (tVar 2) tNil)) (tChain (rI0 fun i j => .bl (decide (i ≤ j))) (rI0 fun i j => .bl (decide (i < j))) (tC (.int 0)) (tVar 2) (tVar 1)))) (by rfl) sc_are_tos.nd (pi_tup (pv 0)) (blkOk_by (own := [("to", 2)]) (N := ["thing", "rows", "to"]) (sc := defScope s_are_tos) (by decide +kernel)) (fun _ _ _ _ _ => (pg_name (i := 2) sc_are_tos.nd rfl (Or.inl rfl))) (fun _ _ _ _ _ => pts_nil) (fun _ _ _ _ _ => (pe_and (pe_own c_is_whole hr (by decide) (by rfl) (pa_cons (pv 2) pa_nil)) (pe_one (pe_chain op_le op_lt pe_int (pv 2) (pv 1)))))) pa_nil)) (pe_one (pe_own c_are_rising hr (by decide) (by rfl) (pa_cons (pv 0) pa_nil))))))), ?_⟩
    refine ⟨_, rfl, .ref a, .ty "tuple", .type "tuple", .type "tuple", true, rfl, .ty "tuple", ha.ty, kit_ty (by decide +kernel), _, rfl, iteF ?_⟩
    refine ⟨_, rfl, a, _, rfl, .inr ha.sq, _, rfl, _, _, rfl, rfl, _, rfl, iteB (fun z => absurd (of_decide_eq_true z) (by rw [List.length_map]; omega)) (fun _ => ?_)⟩
    refine ⟨_, rfl, a, rfl, ⟨_, ha.sq⟩, fun D nD => ?_⟩
    refine lc_tup (K := K) (a := a) (xs := ns.map V.int) (fun i H2 => Same H H2 ∧ T2 H2 a (ns.map V.int) ∧ H2 D = some (.lst (List.replicate i (V.bl true)))) ?_ ?_ ?_ ?_
    · have sD : Same H (upd H D (.lst [])) := same_upd nD
      exact ⟨sD, ha.same sD, upd_same⟩
    · rintro i H2 _ ⟨_, h3, _⟩
      exact h3.sq
    · rintro i x H2 hx ⟨s2, h3, hD⟩
      rw [List.getElem?_map] at hx
      obtain ⟨n1, e1, rfl⟩ := Option.map_eq_some_iff.mp hx
      have hi : i < ns.length := (List.getElem?_eq_some_iff.mp e1).1
      have hm := List.mem_of_getElem? e1
      have g0 := ris.lo n1 hm
      have g1 := ris.hi n1 hm
      refine ⟨rfl, tyes ?_⟩
      refine ⟨_, rfl, n1, rfl, _, rfl, iteT ?_⟩
      refine ⟨_, rfl, _, _, rfl, rfl, _, rfl, iteB (fun _ => ?_) (fun z => absurd (of_decide_eq_false z) (by omega))⟩
      refine ⟨_, rfl, _, _, rfl, rfl, List.replicate i (V.bl true), hD, (by rw [List.length_replicate]; exact small1000 (by omega)), ?_⟩
      have z : (V.bl (decide (n1 < (n : Int)))) = .bl true := congrArg V.bl (decide_eq_true (by omega))
      show _ ∧ _ ∧ _
      rw [show (fun i j => V.bl (decide (i < j))) n1 (n : Int) = V.bl true from z, rep_snoc]
      refine ⟨fun c o ec => ?_, K2.lst hD _ _ h3, upd_same⟩
      rw [upd_ne (ne_of_none ec nD)]
      exact s2 _ _ ec
    · rintro H2 ⟨s2, h3, hD⟩
      refine ⟨D, List.replicate (ns.map V.int).length true, rfl, (by rw [rep_map]; exact SqL.of hD), ?_⟩
      rw [rep_all]
      refine ⟨_, rfl, iteT ?_⟩
      exact ⟨_, rfl, a, ns, rfl, h3, ris.pw, by omega, fun H3 s3 => q H3 (s2.trans s3)⟩
theorem ok_row (T : At K mg "is_row" s_is_row ["thing", "rows"]) (B : Bt mg) (c_are_rooms : Cal P w K mg base 3 "are_rooms" ["thing", "least", "most"] (spRooms K)) (c_are_tos : Cal P w K mg base 2 "are_tos" ["thing", "rows"] (spTos K)) :
    Cal P w K mg base 4 "is_row" ["thing", "rows"] (spRow K) := by
  refine cal_of T sc_is_row (fun vs H Q E h => ?_) (fun f cdv A outer s H vs Q E hr h => ?_)
  · obtain ⟨v, r, n, rfl, _⟩ := h
    rfl
  · obtain ⟨v, r, n, rfl, ⟨a, b, c, rfl, ha, hb, hc⟩, ok, n8, q⟩ := h
    refine ⟨_, (pss_cons (ps_if (PW.pt (pw_or (pt_not (pt_val (pe_callB call_isi (by rfl) B.isinstance (by decide +kernel) (pa_cons (pv 0) (pa_cons (pe_bltn (v := .ty "tuple") (u := .type "tuple") (by rfl) B.tuple (by decide +kernel) rfl) pa_nil))))) (pw_or1 (pt_cmpR op_ne (pe_callB call_len_seq (by rfl) B.len PySem.boot_len (pa_cons (pv 0) pa_nil)) pe_int (nomark _))))) (pss_one (ps_ret pe_bl)) pss_nil)
      (pss_one (ps_ret (pe_and (pe_own c_are_rooms hr (by decide) (by rfl) (pa_cons (pe_ix ix_tup (pv 0) pe_int (fun _ _ => rfl)) (pa_cons pe_int (pa_cons pe_int pa_nil)))) (pe_one (pe_own c_are_tos hr (by decide) (by rfl) (pa_cons (pe_ix ix_tup (pv 0) pe_int (fun _ _ => rfl)) (pa_cons (pv 1) pa_nil)))))))), ?_⟩
    refine ⟨_, rfl, .ref a, .ty "tuple", .type "tuple", .type "tuple", true, rfl, .ty "tuple", ha.ty, kit_ty (by decide +kernel), _, rfl, iteF ?_⟩
    refine ⟨_, rfl, a, _, rfl, .inr ha.sq, rfl, _, rfl, iteNS rfl ?_⟩
    refine ⟨_, rfl, _, _, _, _, rfl, rfl, ha.sq, atI_nat (j := 0) rfl, b, r.1, 0, 6, rfl, hb, ok.rooms, by omega, by have := ok.few; omega, by have := ok.few; omega, fun H1 s1 => ?_⟩
    refine ⟨_, rfl, iteT ?_⟩
    refine ⟨_, rfl, _, _, _, _, rfl, rfl, (ha.same s1).sq, atI_nat (j := 1) rfl, _, rfl, c, r.2, n, rfl, hc.same s1, ok.tos, n8, fun H2 s2 => q H2 (s1.trans s2)⟩
end
end Su
/-! ### W2: the rooms of a web; how a web is looked at, of one that is one -/
namespace Su
open PySem PySem.Spec PyProof.Rows L2
def spRoomsIn (w : World) : Sp := fun vs H Q _ => ∃ (p : Addr) (rs : List Rw) (A : List Int), vs = [.ref p] ∧ WebAt H p rs ∧ A.length < 64 ∧ (∀ k ∈ allRooms rs, k ∈ A) ∧
  ∀ (ms : List Int) (u : Addr) (H' : Hp), ms.Pairwise (· < ·) → (∀ k : Int, k ∈ ms ↔ k ∈ allRooms rs) → Same H H' → H u = none → H' u = some (.lst (ms.map V.int)) → Q (.ref u) H'
def spLook : Sp := fun vs H Q _ => ∃ (p : Addr) (rs : List Rw), vs = [.ref p] ∧ WebAt H p rs ∧ WebOk rs ∧ ∀ H', Same H H' → Q .non H'
theorem allRooms_app (a b : List Rw) : allRooms (a ++ b) = allRooms a ++ allRooms b := by
  unfold allRooms
  rw [List.map_append, List.flatten_append]
theorem allRooms_take {rs : List Rw} {i : Nat} {r : Rw} (h : rs[i]? = some r) : allRooms (rs.take (i + 1)) = allRooms (rs.take i) ++ r.1 := by
  rw [List.take_add_one, h, allRooms_app]
  show _ ++ (r.1 ++ []) = _
  rw [List.append_nil]
theorem allRooms_sub {rs : List Rw} {i : Nat} {k : Int} (h : k ∈ allRooms (rs.take i)) : k ∈ allRooms rs := by
  rw [← List.take_append_drop i rs, allRooms_app]
  exact List.mem_append_left _ h
theorem sc_rooms_in : FnScope ["rows", "rooms", "tos", "room"] ["rows"] (defScope s_rooms_in) := ⟨rfl, rfl, rfl, by decide +kernel, rfl, by decide +kernel, by decide +kernel⟩
theorem sc_look_at_web : FnScope ["thing", "number", "row"] ["thing"] (defScope s_look_at_web) := ⟨rfl, rfl, rfl, by decide +kernel, rfl, by decide +kernel, by decide +kernel⟩
section
variable {P : Program} {w : World} {K : PySem.W.Frag} {mg : Str → Option Value} {base : Heap}
theorem ok_rooms_in (T : At K mg "rooms_in" s_rooms_in ["rows"]) (B : Bt mg) : Cal P w K mg base 1 "rooms_in" ["rows"] (spRoomsIn w) := by
  refine cal_of T sc_rooms_in (fun vs H Q E h => ?_) (fun f cdv A outer s H vs Q E hr h => ?_)
  · obtain ⟨p, rs, A, rfl, _⟩ := h
    rfl
  · obtain ⟨p, rs, A, rfl, ⟨ws, hp, hrs⟩, hA, hin, q⟩ := h
    refine ⟨_, (pss_one (ps_ret (pe_callB (cr_sortedSet rfl) (by rfl) B.sorted (by decide +kernel) (pa_cons (pe_sc2 (own := [("rooms", 1), ("tos", 2), ("room", 3)]) (vs1 := [3]) (go := (gTup K 2 (gCons (gName 1) (gCons (gName 2) gNil)))) (wn := iTup K (tVar 1)) (gn := (gName 3)) (te := (tVar 3)) (by rfl) sc_rooms_in.nd (pi_list (pv 0)) (blkOk_by (own := [("rooms", 1), ("tos", 2), ("room", 3)]) (N := ["rows", "rooms", "tos", "room"]) (sc := defScope s_rooms_in) (by decide +kernel)) (by decide) (fun _ _ _ _ _ => (pg_tup (by rfl) (pgs_cons (pg_name (i := 1) sc_rooms_in.nd rfl (Or.inl rfl)) (pgs_cons (pg_name (i := 2) sc_rooms_in.nd rfl (Or.inl rfl)) pgs_nil)))) (fun _ _ _ _ _ => (pi_tup (pv 1))) (fun _ _ _ _ _ => (pg_name (i := 3) sc_rooms_in.nd rfl (Or.inl rfl))) (fun _ _ _ _ _ => (pv 3))) pa_nil)))), ?_⟩
    have hwl := hrs.len
    refine ⟨_, rfl, p, rfl, ⟨_, SqL.of hp⟩, fun D nD => ?_⟩
    refine ⟨fun i m H2 => m = ws.length - i ∧ i ≤ ws.length ∧ Same H H2 ∧ SetIs w H2 D (allRooms (rs.take i)), ⟨ws.length, (Nat.sub_zero _).symm, Nat.zero_le _, same_upd nD, ⟨_, 0, [], upd_same, List.nodup_nil, rfl, fun k => by simp, fun k => by simp [allRooms]⟩⟩, ?_⟩
    rintro i m H2 ⟨rfl, hi, s2, set2⟩
    by_cases hlt : i < ws.length
    · have hx : ws[i]? = some ws[i] := List.getElem?_eq_getElem hlt
      obtain ⟨r, er, a, b, c, ea, ha, hb, hc⟩ := hrs.get hx
      refine .inr ⟨⟨ws, ws[i], SqL.of (s2 _ _ hp), hx⟩, fun H3 => Same H H3 ∧ SetIs w H3 D (allRooms (rs.take (i + 1))), fun H' h => ⟨ws.length - (i + 1), by omega, rfl, hlt, h⟩, fun x H' y => ?_⟩
      obtain ⟨e1, y⟩ := y
      have ex : x = .ref a := by
        have z := y ws (SqL.of (s2 _ _ hp))
        rw [hx] at z
        injection z with z
        rw [← z, ea]
      rw [e1]
      clear e1 y
      subst ex
      refine ⟨a, _, rfl, (ha.same s2).sq, rfl, _, _, rfl, _, _, rfl, rfl, rfl, ?_⟩
      refine ⟨_, rfl, b, rfl, ⟨_, (hb.same s2).sq⟩, ?_⟩
      refine ⟨fun j k H3 => k = r.1.length - j ∧ j ≤ r.1.length ∧ Same H H3 ∧ SetIs w H3 D (allRooms (rs.take i) ++ r.1.take j), ⟨r.1.length, (Nat.sub_zero _).symm, Nat.zero_le _, s2, by rw [List.take_zero, List.append_nil]; exact set2⟩, ?_⟩
      rintro j k H3 ⟨rfl, hj, s3, set3⟩
      by_cases hjt : j < r.1.length
      · have hy : (r.1.map V.int)[j]? = some (V.int r.1[j]) := by
          rw [List.getElem?_map, List.getElem?_eq_getElem hjt]
          rfl
        refine .inr ⟨⟨_, _, (hb.same s3).sq, hy⟩, fun H4 => Same H H4 ∧ SetIs w H4 D (allRooms (rs.take i) ++ r.1.take (j + 1)), fun H' h => ⟨r.1.length - (j + 1), by omega, rfl, hjt, h⟩, fun y H' yl => ?_⟩
        obtain ⟨e2, yl⟩ := yl
        have ey : y = .int r.1[j] := by
          have z := yl _ (hb.same s3).sq
          rw [hy] at z
          injection z with z
          exact z.symm
        rw [e2]
        clear e2 yl
        subst ey
        refine ⟨rfl, _, rfl, ?_⟩
        have sub3 : ∀ k ∈ allRooms (rs.take i) ++ r.1.take j, k ∈ A := by
          intro k hk
          rcases List.mem_append.mp hk with z | z
          · exact hin k (allRooms_sub z)
          · refine hin k (allRooms_sub (i := i + 1) ?_)
            rw [allRooms_take er]
            exact List.mem_append_right _ (List.mem_of_mem_take z)
        obtain ⟨S, n, eD, few, nx⟩ := set3.add (A := A) (by omega) sub3 r.1[j]
        refine ⟨_, S, n, rfl, eD, few, fun c o ec => ?_, ?_⟩
        · rw [upd_ne (ne_of_none ec nD)]
          exact s3 _ _ ec
        · rw [List.take_add_one, List.getElem?_eq_getElem hjt, ← List.append_assoc]
          exact nx _ upd_same
      · have e : j = r.1.length := by omega
        subst e
        rw [List.take_length] at set3
        refine .inl ⟨⟨_, (hb.same s3).sq, by rw [List.length_map]; exact Nat.le_refl _⟩, s3, ?_⟩
        rw [allRooms_take er]
        exact set3
    · have e : i = ws.length := by omega
      subst e
      rw [hwl, List.take_length] at set2
      refine .inl ⟨⟨ws, SqL.of (s2 _ _ hp), Nat.le_refl _⟩, ?_⟩
      obtain ⟨S, n, d, eD, nd, hn, hS, hd⟩ := set2
      have z := nodup_few (S := A) nd fun k hk => hin k ((hd k).mp hk)
      refine ⟨D, S, n, rfl, eD, by omega, fun ms u pw mem _ nu => ?_⟩
      refine q ms u _ pw (fun k => (mem k).trans ((hS k).trans (hd k))) (s2.trans (same_upd nu)) ?_ upd_same
      exact s2.free nu
theorem ok_look (T : At K mg "look_at_web" s_look_at_web ["thing"]) (B : Bt mg) (D : GbW mg) (c_is_row : Cal P w K mg base 4 "is_row" ["thing", "rows"] (spRow K)) (c_rooms_in : Cal P w K mg base 1 "rooms_in" ["rows"] (spRoomsIn w)) : Cal P w K mg base 5 "look_at_web" ["thing"] spLook := by
  obtain ⟨tr, mRows⟩ := D.rows
  obtain ⟨tm, mRooms⟩ := D.rooms
  refine cal_of T sc_look_at_web (fun vs H Q E h => ?_) (fun f cdv A outer s H vs Q E hr h => ?_)
  · obtain ⟨p, rs, rfl, _⟩ := h
    rfl
  · obtain ⟨p, rs, rfl, ⟨ws, hp, hrs⟩, ok, q⟩ := h
    have hwl := hrs.len
    have hpos := ok.pos
    have hfew := ok.few
    refine ⟨_, (pss_cons (ps_if (PW.pt (pw_or (pt_not (pt_val (pe_callB call_isi (by rfl) B.isinstance (by decide +kernel) (pa_cons (pv 0) (pa_cons (pe_bltn (v := .ty "list") (u := .type "list") (by rfl) B.list (by decide +kernel) rfl) pa_nil))))) (pw_or1 (pt_not (pt_chain op_le op_le pe_int (pe_callB call_len_seq (by rfl) B.len PySem.boot_len (pa_cons (pv 0) pa_nil)) (pe_glob (v := .int 80) rfl mRows ⟨_, rfl⟩)))))) (pss_one ps_never) pss_nil)
      (pss_cons (ps_for PassesOwn.never rfl (pi_enum (by rfl) B.enumerate (pa_cons (pv 0) pa_nil)) (pg_tup (by rfl) (pgs_cons (pg_name (i := 1) sc_look_at_web.nd rfl (Or.inl rfl)) (pgs_cons (pg_name (i := 2) sc_look_at_web.nd rfl (Or.inl rfl)) pgs_nil))) (pss_one (ps_if (pt_not (pt_val (pe_own c_is_row hr (by decide) (by rfl) (pa_cons (pv 2) (pa_cons (pe_callB call_len_seq (by rfl) B.len PySem.boot_len (pa_cons (pv 0) pa_nil)) pa_nil))))) (pss_one ps_never) pss_nil)))
      (pss_one (ps_if (pt_cmpR op_gt (pe_callB call_len_seq (by rfl) B.len PySem.boot_len (pa_cons (pe_own c_rooms_in hr (by decide) (by rfl) (pa_cons (pv 0) pa_nil)) pa_nil)) (pe_glob (v := .int 12) rfl mRooms ⟨_, rfl⟩) (nomark _)) (pss_one ps_never) pss_nil)))), ?_⟩
    refine ⟨_, rfl, .ref p, .ty "list", .type "list", .type "list", true, rfl, .ty "list", .base (.lst hp), kit_ty (by decide +kernel), _, rfl, iteF ?_⟩
    refine ⟨_, rfl, p, _, rfl, .inl (SqL.of hp), _, _, rfl, rfl, _, rfl, iteB (fun _ => ?_) (fun z => absurd (of_decide_eq_false z) (by omega))⟩
    refine ⟨_, _, rfl, rfl, _, rfl, ?_⟩
    rw [show decide ((ws.length : Int) ≤ 80) = true from decide_eq_true (by omega)]
    refine iteF ?_
    refine ⟨_, rfl, p, _, rfl, SqL.of hp, ?_⟩
    refine for_enumS (K := K) (a := p) (xs := ws) (fun i σ H2 => ∃ y1 y2 : Option V, σ = [some (.ref p), y1, y2] ∧ Same H H2) ?_ ?_ ?_ ?_
    · exact ⟨none, none, rfl, Same.refl H⟩
    · rintro i σ H2 _ ⟨_, _, _, s2⟩
      exact SqL.of (s2 _ _ hp)
    · rintro i x σ H2 T hx ⟨y1, y2, rfl, s2⟩ nT
      obtain ⟨r, er, hrow⟩ := hrs.get hx
      have sT : Same H2 (upd H2 T (.tup [.int (i : Nat), x])) := same_upd nT
      refine ⟨T, _, rfl, SqT.of upd_same, rfl, _, _, rfl, _, _, rfl, rfl, ?_⟩
      refine ⟨_, rfl, _, rfl, p, _, rfl, .inl (SqL.of (sT _ _ (s2 _ _ hp))), x, r, ws.length, rfl, hrow.keep (K2.same (s2.trans sT)), (by rw [hwl]; exact ok.row r (List.mem_of_getElem? er)), by omega, fun H3 s3 => ?_⟩
      refine ⟨_, rfl, iteF ?_⟩
      exact ⟨_, _, rfl, (s2.trans sT).trans s3⟩
    · rintro σ H2 ⟨y1, y2, rfl, s2⟩
      obtain ⟨A, hA, hin⟩ := ok.all
      refine ⟨_, rfl, p, rs, A, rfl, ⟨ws, s2 _ _ hp, hrs.keep (K2.same s2)⟩, by omega, hin, fun ms u H3 pw mem s3 nu hu => ?_⟩
      have few := nodup_few (S := A) (ms := ms) (pw.imp fun h => Int.ne_of_lt h) fun k hk => hin k ((mem k).mp hk)
      refine ⟨u, _, rfl, .inl (SqL.of hu), _, _, rfl, rfl, _, rfl, iteB (fun z => absurd (of_decide_eq_true z) (by rw [List.length_map]; omega)) (fun _ => ?_)⟩
      exact q H3 (s2.trans s3)
end
end Su
namespace Su
open PySem PySem.Spec PyProof.Rows L2
theorem sc_law_take : FnScope ["_law_pool_here", "_law_many", "_law_found"] ["_law_pool_here", "_law_many"] (defScope s_law_take) := ⟨rfl, rfl, rfl, by decide +kernel, rfl, by decide +kernel, by decide +kernel⟩
theorem sc_law_pool : FnScope ["_law_script", "_law_k", "_law_cell", "_law_size", "_law_mixed"] ["_law_script", "_law_k"] (defScope s_law_pool) := ⟨rfl, rfl, rfl, by decide +kernel, rfl, by decide +kernel, by decide +kernel⟩
section
variable {P : Program} {w : World} {K : PySem.W.Frag} {mg : Str → Option Value} {base : Heap}
theorem ok_take (T : At K mg "_law_take" s_law_take ["_law_pool_here", "_law_many"]) : Cal P w K mg base 1 "_law_take" ["_law_pool_here", "_law_many"] spTake := by
  refine cal_of T sc_law_take (fun vs H Q E h => ?_) (fun f cdv A outer s H vs Q E hr h => ?_)
  · obtain ⟨p, many, rfl, _⟩ := h
    rfl
  · obtain ⟨p, many, rfl, ⟨o, hp, g, m, rfl, g0, m0, m1⟩, n1, n2, q⟩ := h
    refine ⟨_, (pss_cons (ps_if (pt_cmpR op_gt (pe_ix ix_list (pv 0) pe_int (fun _ _ => rfl)) pe_int (nomark _)) (pss_cons (ps_set (i := 2) sc_law_take.nd rfl (Or.inl rfl) (pe_op op_mod (pe_ix ix_list (pv 0) pe_int (fun _ _ => rfl)) (pv 1)))
      (pss_cons (ps_asg (pe_op op_fdiv (pe_ix ix_list (pv 0) pe_int (fun _ _ => rfl)) (pv 1)) (pg_sub (pv 0) pe_int set_list))
      (pss_one (ps_ret (pv 2))))) pss_nil)
      (pss_cons (ps_asg (pe_op op_mod (pe_op op_add (pe_op op_mul (pe_ix ix_list (pv 0) pe_int (fun _ _ => rfl)) pe_int) pe_int) pe_int) (pg_sub (pv 0) pe_int set_list))
      (pss_one (ps_ret (pe_op op_mod (pe_op op_fdiv (pe_op op_mod (pe_op op_mul (pe_ix ix_list (pv 0) pe_int (fun _ _ => rfl)) (pe_ix ix_list (pv 0) pe_int (fun _ _ => rfl))) pe_int) pe_int) (pv 1)))))), ?_⟩
    refine ⟨_, rfl, p, _, _, _, rfl, rfl, SqL.of hp, atI_nat (j := 0) rfl, _, _, rfl, rfl, _, rfl, ite2 (fun e => ?_) (fun e => ?_)⟩
    · refine ⟨_, rfl, p, _, _, _, rfl, rfl, SqL.of hp, atI_nat (j := 0) rfl, _, rfl, _, _, rfl, rfl, (by omega), ?_⟩
      refine ⟨_, rfl, p, _, _, _, rfl, rfl, SqL.of hp, atI_nat (j := 0) rfl, _, rfl, _, _, rfl, rfl, ⟨by omega, by omega⟩, ?_⟩
      refine ⟨_, rfl, p, _, _, 0, rfl, rfl, hp, rfl, ?_⟩
      refine ⟨_, rfl, q _ _ (Int.emod_nonneg _ (by omega)) (Int.emod_lt_of_pos _ (by omega)) ⟨_, _, rfl, Int.ediv_nonneg g0 (by omega), m0, m1⟩⟩
    · refine ⟨_, rfl, p, _, _, _, rfl, rfl, SqL.of hp, atI_nat (j := 1) rfl, _, _, rfl, rfl, .inl ⟨by omega, by omega⟩, _, _, rfl, rfl, _, _, rfl, rfl, (by show (0 : Int) < 2147483647; decide), ?_⟩
      refine ⟨_, rfl, p, _, _, 1, rfl, rfl, hp, rfl, ?_⟩
      have e0 : 0 ≤ (m * 48271 + 11) % 2147483647 := Int.emod_nonneg _ (by decide)
      have e1 : (m * 48271 + 11) % 2147483647 < 2147483647 := Int.emod_lt_of_pos _ (by decide)
      refine ⟨_, rfl, p, _, _, _, rfl, rfl, SqL.of upd_same, atI_nat (j := 1) rfl, _, rfl, p, _, _, _, rfl, rfl, SqL.of upd_same, atI_nat (j := 1) rfl, _, _, rfl, rfl, .inl ⟨by omega, by omega⟩, _, _, rfl, rfl, (by show (0 : Int) < 2147483629; decide), _, _, rfl, rfl, ⟨by decide, by decide⟩, _, rfl, _, _, rfl, rfl, (by omega), ?_⟩
      exact q _ _ (Int.emod_nonneg _ (by omega)) (Int.emod_lt_of_pos _ (by omega)) ⟨_, _, rfl, g0, e0, e1⟩
theorem ok_pool (T : At K mg "_law_pool" s_law_pool ["_law_script", "_law_k"]) (B : Bt mg) : Cal P w K mg base 1 "_law_pool" ["_law_script", "_law_k"] (spPool K) := by
  refine cal_of T sc_law_pool (fun vs H Q E h => ?_) (fun f cdv A outer s H vs Q E hr h => ?_)
  · obtain ⟨a, ns, k, rfl, _⟩ := h
    rfl
  · obtain ⟨a, ns, k, rfl, hS, k0, k1, q⟩ := h
    refine ⟨_, (pss_cons (ps_set (i := 2) sc_law_pool.nd rfl (Or.inl rfl) (pe_op op_add (pe_op op_mul pe_int (pe_callB (cr_sum rfl) (by rfl) B.sum (by decide +kernel) (pa_cons (pe_slice sl_list (pv 0) po_none (po_some pe_int)) pa_nil))) (pv 1)))
      (pss_cons (ps_if (pt_cmpR op_lt (pv 1) (pe_callB call_len_seq (by rfl) B.len PySem.boot_len (pa_cons (pv 0) pa_nil)) (nomark _)) (pss_one (ps_set (i := 2) sc_law_pool.nd rfl (Or.inl rfl) (pe_ix ix_list (pv 0) (pv 1) (fun _ _ => rfl)))) pss_nil)
      (pss_cons (ps_set (i := 3) sc_law_pool.nd rfl (Or.inl rfl) (pe_callB call_abs (by rfl) B.abs (by decide +kernel) (pa_cons (pv 2) pa_nil)))
      (pss_cons (ps_set (i := 4) sc_law_pool.nd rfl (Or.inl rfl) (pe_op op_mod (pe_op op_mul (pe_op op_add (pe_op op_add (pe_op op_add (pe_op op_mod (pv 3) pe_int) (pe_op op_mul (pe_op op_mul pe_int (pv 1)) (pv 1))) (pe_op op_mul pe_int (pv 1))) pe_int) pe_int) pe_int))
      (pss_one (ps_ret (pe_lst (pa_cons (pe_op op_mul (pv 3) (pe_callTy call_int1 (by rfl) B.int (by decide +kernel) (pa_cons (pe_cmpR op_ge (pv 3) (pe_op op_pow pe_int pe_int) (nomark _)) pa_nil))) (pa_cons (pe_op op_mod (pe_op op_mul (pv 4) (pv 4)) pe_int) pa_nil))))))))), ?_⟩
    obtain ⟨ms, ems⟩ := cutV_ints ns none (some 63)
    refine ⟨_, rfl, 63, rfl, a, _, rfl, hS, fun c nc => ?_⟩
    rw [ems]
    have s1 : Same H (upd H c (.lst (ms.map V.int))) := same_upd nc
    refine ⟨c, ms, rfl, SqL.of upd_same, _, _, rfl, rfl, .inl ⟨by decide, by decide⟩, _, rfl, _, _, rfl, rfl, ?_⟩
    refine ⟨_, rfl, _, rfl, a, _, rfl, .inl (s1.seq hS), _, _, rfl, rfl, _, rfl, ite2 (fun e => ?_) (fun e => ?_)⟩
    rw [decide_eq_true_eq, List.length_map] at e
    obtain ⟨z, g⟩ : ∃ z : Int, atI (ns.map V.int) k = some (V.int z) := by
      have hk : k.toNat < ns.length := by omega
      exact ⟨_, atI_int (v := V.int ns[k.toNat]) k0 (by rw [List.getElem?_map, List.getElem?_eq_getElem hk]; rfl)⟩
    refine ⟨_, rfl, _, rfl, a, _, k, .int z, rfl, rfl, s1.seq hS, g, ?_⟩
    all_goals
      refine ⟨_, rfl, _, rfl, ?_⟩
      refine ⟨_, rfl, _, _, rfl, rfl, (by show (0 : Int) < 2147483629; decide), _, rfl, _, _, rfl, rfl, .inl ⟨by decide, by decide⟩, _, rfl, _, _, rfl, rfl, .inr ⟨by omega, by omega⟩, _, _, rfl, rfl, _, rfl, _, _, rfl, rfl, .inl ⟨by decide, by decide⟩, _, _, rfl, rfl, _, _, rfl, rfl, _, _, rfl, rfl, .inr ⟨by decide, by decide⟩, _, _, rfl, rfl, (by show (0 : Int) < 2147483647; decide), ?_⟩
      refine ⟨_, rfl, _, rfl, _, _, rfl, rfl, ⟨by decide, by decide, by decide⟩, _, _, rfl, rfl, .inr ⟨_, rfl, _, _, rfl, rfl, .inr ?_, ?_⟩⟩
      · exact b01 _
      refine ⟨_, rfl, _, rfl, _, _, rfl, rfl, .inl ?_, _, _, rfl, rfl, (by show (0 : Int) < 2147483629; decide), (by show 2 ≤ sizeLine; decide), fun p np => ?_⟩
      · refine ⟨Int.lt_of_lt_of_le (by decide) (Int.emod_nonneg _ (by decide)), Int.lt_trans (Int.emod_lt_of_pos _ (by decide)) (by decide)⟩
      refine q p _ (s1.trans (same_upd np)) (s1.free np) ⟨_, upd_same, _, _, rfl, ?_, Int.emod_nonneg _ (by decide), Int.lt_trans (Int.emod_lt_of_pos _ (by decide)) (by decide)⟩
      refine Int.mul_nonneg ?_ ?_ <;> split <;> omega
end
theorem sc_law_picked : FnScope ["_law_pool_here", "_law_some", "_law_many", "_law_left", "_law_k"] ["_law_pool_here", "_law_some", "_law_many"] (defScope s_law_picked) := ⟨rfl, rfl, rfl, by decide +kernel, rfl, by decide +kernel, by decide +kernel⟩
section
variable {P : Program} {w : World} {K : PySem.W.Frag} {mg : Str → Option Value} {base : Heap}
theorem ok_picked (T : At K mg "_law_picked" s_law_picked ["_law_pool_here", "_law_some", "_law_many"]) (B : Bt mg) (c_take : Cal P w K mg base 1 "_law_take" ["_law_pool_here", "_law_many"] spTake) :
    Cal P w K mg base 2 "_law_picked" ["_law_pool_here", "_law_some", "_law_many"] (spPicked K) := by
  refine cal_of T sc_law_picked (fun vs H Q E h => ?_) (fun f cdv A outer s H vs Q E hr h => ?_)
  · obtain ⟨p, b, ns, many, rfl, _⟩ := h
    rfl
  · obtain ⟨p, b, ns, many, rfl, hp, hS, hbp, nd, hl, m0, q⟩ := h
    refine ⟨_, (pss_cons (ps_set (i := 3) sc_law_picked.nd rfl (Or.inr rfl) (pe_callTy call_list_of (by rfl) B.list (by decide +kernel) (pa_cons (pv 1) pa_nil)))
      (pss_one (ps_ret (pe_callB cr_sortedI (by rfl) B.sorted (by decide +kernel) (pa_cons (pe_lc (own := [("_law_k", 4)]) (g := (gName 4)) (tt := tYes) (te := (tBM K "list" rPopAt (tVar 3) (tCons (tCall spTake [] E0 (tCons (tVar 0) (tCons (tCB (rLenK K) (tCons (tVar 3) tNil)) tNil))) tNil))) (by rfl) sc_law_picked.nd (pi_range1 (by rfl) B.range (pa_cons (pe_callB (call_min2 rfl) (by rfl) B.min (by decide +kernel) (pa_cons (pv 2) (pa_cons (pe_callB call_len_seq (by rfl) B.len PySem.boot_len (pa_cons (pv 3) pa_nil)) pa_nil))) pa_nil)) (blkOk_by (own := [("_law_k", 4)]) (N := ["_law_pool_here", "_law_some", "_law_many", "_law_left", "_law_k"]) (sc := defScope s_law_picked) (by decide +kernel)) (fun _ _ _ _ _ => (pg_name (i := 4) sc_law_picked.nd rfl (Or.inl rfl))) (fun _ _ _ _ _ => pts_nil) (fun _ _ _ _ _ => (pe_bm PySem.F.plainAttrs_list PySem.F.slot_list_pop PySem.F.type_list_pop mt_popAt (pv 3) (pa_cons (pe_own c_take hr (by decide) (by rfl) (pa_cons (pv 0) (pa_cons (pe_callB call_len_seq (by rfl) B.len PySem.boot_len (pa_cons (pv 3) pa_nil)) pa_nil))) pa_nil)))) pa_nil))))), ?_⟩
    refine ⟨_, rfl, b, _, rfl, .inl hS, fun l nl => ?_⟩
    have elp : l ≠ p := pool_ne hp nl
    have hl0 : (if ((ns.map V.int).length : Int) < many then ((ns.map V.int).length : Int) else many) = ((min many.toNat ns.length : Nat) : Int) := by
      rw [List.length_map]
      split <;> omega
    refine ⟨_, rfl, _, rfl, l, _, rfl, .inl (SqL.of upd_same), _, _, rfl, _, rfl, (by omega), (by omega), fun D nD => ?_⟩
    rw [hl0]
    refine lc_range (lo := 0) (n := min many.toNat ns.length) (fun i H2 => ∃ lf acc : List Int, H2 l = some (.lst (lf.map V.int)) ∧ H2 D = some (.lst (acc.map V.int)) ∧ acc.length = i ∧ (acc ++ lf).Perm ns ∧ PoolAt H2 p ∧ Kept p H H2) ?_ ?_ ?_
    · obtain ⟨eDl, nD0⟩ := free_upd nD
      refine ⟨ns, [], (by rw [upd_ne eDl.symm, upd_same]), upd_same, rfl, List.Perm.refl _, (hp.upd elp.symm).upd (pool_ne hp nD0).symm, ((Kept.refl p H).set nl).set nD0⟩
    · rintro i H2 hi ⟨lf, acc, h1, h2, hlen, hpm, hpo, hk⟩
      obtain ⟨eDl, nD0⟩ := free_upd nD
      have eDp : D ≠ p := pool_ne hp nD0
      have hll : acc.length + lf.length = ns.length := by
        have := hpm.length_eq
        rw [List.length_append] at this
        exact this
      refine ⟨rfl, tyes ?_⟩
      refine ⟨_, rfl, .inl ⟨rfl, _, SqL.of h1⟩, _, rfl, _, rfl, l, _, rfl, .inl (SqL.of h1), p, _, rfl, hpo, ?_, ?_, fun r o r0 r1 po => ?_⟩
      · rw [List.length_map]
        omega
      · rw [List.length_map]
        omega
      · rw [List.length_map] at r1
        have hr1 : r.toNat < lf.length := by omega
        refine ⟨l, lf.map V.int, r, r.toNat, V.int lf[r.toNat], rfl, rfl, (by rw [upd_ne elp]; exact h1), by omega, by omega, seqIx r0 (by rw [List.length_map]; exact r1), (by rw [List.getElem?_map, List.getElem?_eq_getElem hr1]; rfl), ?_⟩
        have hg : lf[r.toNat]? = some lf[r.toNat] := List.getElem?_eq_getElem hr1
        generalize lf[r.toNat] = y at *
        refine ⟨acc.map V.int, (by rw [upd_ne eDl, upd_ne eDp]; exact h2), ?_, lf.eraseIdx r.toNat, acc ++ [y], ?_, ?_, ?_, ?_, ?_, ?_⟩
        · rw [List.length_map]
          exact small1000 (by omega)
        · rw [upd_ne eDl.symm, upd_same, erase_map]
        · rw [upd_same, List.map_append]
          rfl
        · rw [List.length_append, hlen]
          rfl
        · rw [List.append_assoc]
          exact ((erase_perm lf r.toNat y hg).append_left acc).trans hpm
        · refine PoolAt.upd (PoolAt.upd ⟨o, upd_same, po⟩ elp.symm) eDp.symm
        · exact (((hk.trans (Kept.upd p H2 o)).set nl).set nD0)
    · rintro H2 ⟨lf, acc, h1, h2, hlen, hpm, hpo, hk⟩
      obtain ⟨eDl, nD0⟩ := free_upd nD
      refine ⟨D, acc, rfl, SqL.of h2, fun ms c pm so nc => ?_⟩
      have ecp : c ≠ p := pool_ne hpo nc
      have hsub : ∀ x ∈ ms, x ∈ ns := fun x hx => hpm.subset (List.mem_append_left _ (pm.subset hx))
      have hnd : (acc ++ lf).Nodup := hpm.nodup_iff.mpr nd
      exact q c _ ms (hk.free ecp nc) (hk.trans (Kept.same (same_upd nc))) (hpo.upd ecp.symm) upd_same (pm.nodup_iff.mpr (List.nodup_append.mp hnd).1) hsub (by rw [pm.length_eq, hlen]) so
end
end Su
/-! ### K1: kinds of shelves, of such as are some; how many lays there are -/
namespace Su
open PySem PySem.Spec PyProof.Rows L2
abbrev wayVs : List V := [.str "last", .str "first", .str "tree"]
abbrev sizeVs : List V := [.int 1, .int 2, .int 4, .int 8]
structure GbK (K : PySem.W.Frag) (mg : Str → Option Value) : Prop where
  most : ∃ t, mg "MOST_SLOTS" = some (.int 8 t)
  ways : ∃ a, mg "WAYS" = some (.ref a) ∧ ∀ H, SqT K H a wayVs
  sizes : ∃ a, mg "TREE_SIZES" = some (.ref a) ∧ ∀ H, SqT K H a sizeVs
/-- there are shelves of this size and way -/
structure Kind (n : Int) (s : Str) : Prop where
  way : s = "last" ∨ s = "first" ∨ s = "tree"
  lo : 1 ≤ n
  hi : n ≤ 8
  tree : s = "tree" → n = 1 ∨ n = 2 ∨ n = 4 ∨ n = 8
def bitsN (n : Int) (s : Str) : Int := if s = "tree" then n - 1 else 0
def spWayS : Sp := fun vs H Q _ => ∃ (s : Str), vs = [.str s] ∧ (s = "last" ∨ s = "first" ∨ s = "tree") ∧ Q (.bl true) H
def spSizeS : Sp := fun vs H Q _ => ∃ (n : Int) (s : Str), vs = [.int n, .str s] ∧ Kind n s ∧ Q (.bl true) H
def spBitsN : Sp := fun vs H Q _ => ∃ (n : Int) (s : Str), vs = [.int n, .str s] ∧ Q (.int (bitsN n s)) H
def spPart : Sp := fun vs H Q _ => ∃ (n : Int) (s : Str), vs = [.int n, .str s, .non, .non] ∧ Kind n s ∧ Q .non H
def spKind : Sp := fun vs H Q _ => ∃ (n : Int) (s : Str), vs = [.int n, .str s] ∧ Kind n s ∧ Q .non H
theorem sc_is_way : FnScope ["thing"] ["thing"] (defScope s_is_way) := ⟨rfl, rfl, rfl, by decide +kernel, rfl, by decide +kernel, by decide +kernel⟩
theorem sc_is_size : FnScope ["thing", "way"] ["thing", "way"] (defScope s_is_size) := ⟨rfl, rfl, rfl, by decide +kernel, rfl, by decide +kernel, by decide +kernel⟩
theorem sc_how_many_bits : FnScope ["size", "way"] ["size", "way"] (defScope s_how_many_bits) := ⟨rfl, rfl, rfl, by decide +kernel, rfl, by decide +kernel, by decide +kernel⟩
theorem sc_wrong_part : FnScope ["size", "way", "slots", "bits"] ["size", "way", "slots", "bits"] (defScope s_wrong_part) := ⟨rfl, rfl, rfl, by decide +kernel, rfl, by decide +kernel, by decide +kernel⟩
theorem sc_look_at_kind : FnScope ["size", "way", "part"] ["size", "way"] (defScope s_look_at_kind) := ⟨rfl, rfl, rfl, by decide +kernel, rfl, by decide +kernel, by decide +kernel⟩
section
variable {P : Program} {w : World} {K : PySem.W.Frag} {mg : Str → Option Value} {base : Heap}
theorem ok_way (T : At K mg "is_way" s_is_way ["thing"]) (B : Bt mg) (D : GbK K mg) : Cal P w K mg base 1 "is_way" ["thing"] spWayS := by
  obtain ⟨aWays, mWays, hW⟩ := D.ways
  refine cal_of T sc_is_way (fun vs H Q E h => ?_) (fun f cdv A outer s H vs Q E hr h => ?_)
  · obtain ⟨s, rfl, _⟩ := h
    rfl
  · obtain ⟨s, rfl, hs, q⟩ := h
    refine ⟨_, (pss_one (ps_ret (pe_and (pe_callB call_isi (by rfl) B.isinstance (by decide +kernel) (pa_cons (pv 0) (pa_cons (pe_bltn (v := .ty "str") (u := .type "str") (by rfl) B.str (by decide +kernel) rfl) pa_nil))) (pe_one (pe_cmpR op_in_seq (pv 0) (pe_glob (v := .ref aWays) rfl mWays rfl) (by rfl)))))), ?_⟩
    refine ⟨_, rfl, .str s, .ty "str", .type "str", .type "str", true, rfl, .ty "str", .base (.str s), kit_ty (by decide +kernel), _, rfl, iteT ?_⟩
    refine ⟨_, rfl, aWays, wayVs, rfl, .inr (hW H), rfl, rfl, ?_⟩
    rcases hs with rfl | rfl | rfl
    · exact q
    · exact q
    · exact q
theorem ok_size (T : At K mg "is_size" s_is_size ["thing", "way"]) (D : GbK K mg) (c_is_whole : Cal P w K mg base 1 "is_whole" ["thing"] spWholeI) : Cal P w K mg base 2 "is_size" ["thing", "way"] spSizeS := by
  obtain ⟨tm, mMost⟩ := D.most
  obtain ⟨aSizes, mSizes, hZ⟩ := D.sizes
  refine cal_of T sc_is_size (fun vs H Q E h => ?_) (fun f cdv A outer s H vs Q E hr h => ?_)
  · obtain ⟨n, s, rfl, _⟩ := h
    rfl
  · obtain ⟨n, s, rfl, ⟨hs, n1, n8, ht⟩, q⟩ := h
    refine ⟨_, (pss_cons (ps_if (PW.pt (pw_or (pt_not (pt_val (pe_own c_is_whole hr (by decide) (by rfl) (pa_cons (pv 0) pa_nil)))) (pw_or1 (pt_not (pt_chain op_le op_le pe_int (pv 0) (pe_glob (v := .int 8) rfl mMost ⟨_, rfl⟩)))))) (pss_one (ps_ret pe_bl)) pss_nil)
      (pss_one (ps_ret (pe_or (pe_cmpR op_ne (pv 1) pe_str (nomark _)) (pe_one (pe_cmpR op_in_seq (pv 0) (pe_glob (v := .ref aSizes) rfl mSizes rfl) (by rfl))))))), ?_⟩
    refine ⟨_, rfl, n, rfl, _, rfl, iteF ?_⟩
    refine ⟨_, rfl, _, _, rfl, rfl, _, rfl, iteB (fun _ => ?_) (fun z => absurd (of_decide_eq_false z) (by omega))⟩
    refine ⟨_, _, rfl, rfl, _, rfl, ?_⟩
    rw [show decide (n ≤ 8) = true from decide_eq_true n8]
    refine iteF ?_
    rcases hs with rfl | rfl | rfl
    · exact ⟨_, rfl, rfl, _, rfl, iteB (fun _ => q) (fun z => absurd z (by decide +kernel))⟩
    · exact ⟨_, rfl, rfl, _, rfl, iteB (fun _ => q) (fun z => absurd z (by decide +kernel))⟩
    · refine ⟨_, rfl, rfl, _, rfl, iteB (fun z => absurd z (by decide +kernel)) (fun _ => ?_)⟩
      refine ⟨_, rfl, aSizes, sizeVs, rfl, .inr (hZ H), rfl, rfl, ?_⟩
      rcases ht rfl with rfl | rfl | rfl | rfl
      · exact q
      · exact q
      · exact q
      · exact q
theorem ok_bitsN (T : At K mg "how_many_bits" s_how_many_bits ["size", "way"]) : Cal P w K mg base 1 "how_many_bits" ["size", "way"] spBitsN := by
  refine cal_of T sc_how_many_bits (fun vs H Q E h => ?_) (fun f cdv A outer s H vs Q E hr h => ?_)
  · obtain ⟨n, s, rfl, _⟩ := h
    rfl
  · obtain ⟨n, s, rfl, q⟩ := h
    refine ⟨_, (pss_one (ps_ret (pe_ifExp (pt_cmpR op_eq (pv 1) pe_str (nomark _)) (pe_op op_sub (pv 0) pe_int) pe_int))), ?_⟩
    refine ⟨_, rfl, rfl, _, rfl, iteB (fun z => ?_) (fun z => ?_)⟩
    · have e : s = "tree" := V.str.inj (of_decide_eq_true z)
      refine ⟨_, rfl, _, _, rfl, rfl, ?_⟩
      unfold bitsN at q
      rw [if_pos e] at q
      exact q
    · have e : ¬ s = "tree" := fun h => (of_decide_eq_false z) (by rw [h])
      unfold bitsN at q
      rw [if_neg e] at q
      exact q
theorem ok_part (T : At K mg "wrong_part" s_wrong_part ["size", "way", "slots", "bits"]) (c_is_way : Cal P w K mg base 1 "is_way" ["thing"] spWayS) (c_is_size : Cal P w K mg base 2 "is_size" ["thing", "way"] spSizeS) :
    Cal P w K mg base 3 "wrong_part" ["size", "way", "slots", "bits"] spPart := by
  refine cal_of T sc_wrong_part (fun vs H Q E h => ?_) (fun f cdv A outer s H vs Q E hr h => ?_)
  · obtain ⟨n, s, rfl, _⟩ := h
    rfl
  · obtain ⟨n, s, rfl, k, q⟩ := h
    have c_are_slots : True := trivial
    refine ⟨_, pss_cons (ps_if (pt_not (pt_val (pe_own c_is_way hr (by decide) (by rfl) (pa_cons (pv 1) pa_nil)))) (pss_one (ps_ret pe_str)) pss_nil) (pss_cons (ps_if (pt_not (pt_val (pe_own c_is_size hr (by decide) (by rfl) (pa_cons (pv 0) (pa_cons (pv 1) pa_nil))))) (pss_one (ps_ret pe_str)) pss_nil)
      (pss_cons (ps_if (PW.pt (pw_and (pt_cmpR op_notN (pv 2) pe_non (nomark _)) (pw_and1 pt_never))) (pss_one (ps_ret pe_str)) pss_nil) (pss_cons (ps_if (PW.pt (pw_and (pt_cmpR op_notN (pv 3) pe_non (nomark _)) (pw_and1 pt_never))) (pss_one (ps_ret pe_str)) pss_nil) (pss_one (ps_ret pe_non))))), ?_⟩
    refine ⟨_, rfl, s, rfl, k.way, _, rfl, iteF ?_⟩
    refine ⟨_, rfl, _, rfl, n, s, rfl, k, _, rfl, iteF ?_⟩
    refine ⟨_, rfl, rfl, _, rfl, iteF (iteF ?_)⟩
    refine ⟨_, rfl, rfl, _, rfl, iteF (iteF ?_)⟩
    exact q
theorem ok_kind (T : At K mg "look_at_kind" s_look_at_kind ["size", "way"]) (c_wrong_part : Cal P w K mg base 3 "wrong_part" ["size", "way", "slots", "bits"] spPart) : Cal P w K mg base 4 "look_at_kind" ["size", "way"] spKind := by
  refine cal_of T sc_look_at_kind (fun vs H Q E h => ?_) (fun f cdv A outer s H vs Q E hr h => ?_)
  · obtain ⟨n, s, rfl, _⟩ := h
    rfl
  · obtain ⟨n, s, rfl, k, q⟩ := h
    refine ⟨_, (pss_cons (ps_set (i := 2) sc_look_at_kind.nd rfl (Or.inl rfl) (pe_own c_wrong_part hr (by decide) (by rfl) (pa_cons (pv 0) (pa_cons (pv 1) (pa_cons pe_non (pa_cons pe_non pa_nil))))))
      (pss_one (ps_if (pt_cmpR op_notN (pv 2) pe_non (nomark _)) (pss_one ps_never) pss_nil))), ?_⟩
    refine ⟨_, rfl, _, rfl, n, s, rfl, k, ?_⟩
    exact ⟨_, rfl, rfl, _, rfl, iteF q⟩
end
end Su
namespace Su
open PySem PySem.Spec PyProof.Rows L2
/-- the next one of the sums' terms, with so many rooms filled -/
def nxt (n s : Nat) (x : Int) (t : Nat) : Int := x * ((n : Int) - (0 + (t : Int))) * ((s : Int) - (0 + (t : Int))) / ((0 + (t : Int)) + 1)
def ths (n s : Nat) : Nat → Int
  | 0 => 1
  | t + 1 => nxt n s (ths n s t) t
def sums (n s : Nat) : Nat → Int
  | 0 => 0
  | t + 1 => sums n s t + ths n s t
theorem ths_small : ∀ n < 13, ∀ s < 9, ∀ t < 10, (ths n s t).natAbs < 2 ^ 40 := by decide +kernel
theorem sums_small : ∀ n < 13, ∀ s < 9, ∀ t < 11, (sums n s t).natAbs < 2 ^ 44 := by decide +kernel
def spReckoned : Sp := fun vs H Q _ => ∃ (n s : Nat) (x : Str), vs = [.int n, .int s, .str x] ∧ n ≤ 12 ∧ Kind s x ∧ Q (.int (sums n s (s + 1) * 2 ^ (bitsN s x).toNat)) H
theorem sc_reckoned : FnScope ["rooms", "size", "way", "many", "these", "there"] ["rooms", "size", "way"] (defScope s_reckoned) := ⟨rfl, rfl, rfl, by decide +kernel, rfl, by decide +kernel, by decide +kernel⟩
section
variable {P : Program} {w : World} {K : PySem.W.Frag} {mg : Str → Option Value} {base : Heap}
theorem ok_reckoned (T : At K mg "reckoned" s_reckoned ["rooms", "size", "way"]) (B : Bt mg) (c_how_many_bits : Cal P w K mg base 1 "how_many_bits" ["size", "way"] spBitsN) : Cal P w K mg base 2 "reckoned" ["rooms", "size", "way"] spReckoned := by
  refine cal_of T sc_reckoned (fun vs H Q E h => ?_) (fun f cdv A outer s H vs Q E hr h => ?_)
  · obtain ⟨n, s, x, rfl, _⟩ := h
    rfl
  · obtain ⟨n, sz, x, rfl, hn, k, q⟩ := h
    have hs1 := k.lo
    have hs8 := k.hi
    refine ⟨_, (pss_cons (ps_set (i := 3) sc_reckoned.nd rfl (Or.inl rfl) pe_int)
      (pss_cons (ps_set (i := 4) sc_reckoned.nd rfl (Or.inl rfl) pe_int)
      (pss_cons (ps_for PassesOwn.never rfl (pi_range1 (by rfl) B.range (pa_cons (pe_op op_add (pv 1) pe_int) pa_nil)) (pg_name (i := 5) sc_reckoned.nd rfl (Or.inl rfl)) (pss_cons (ps_aug (i := 3) sc_reckoned.nd rfl (Or.inl rfl) (pv 4) ip_add)
      (pss_one (ps_set (i := 4) sc_reckoned.nd rfl (Or.inl rfl) (pe_op op_fdiv (pe_op op_mul (pe_op op_mul (pv 4) (pe_op op_sub (pv 0) (pv 5))) (pe_op op_sub (pv 1) (pv 5))) (pe_op op_add (pv 5) pe_int))))))
      (pss_one (ps_ret (pe_op op_shl (pv 3) (pe_own c_how_many_bits hr (by decide) (by rfl) (pa_cons (pv 1) (pa_cons (pv 2) pa_nil))))))))), ?_⟩
    refine ⟨_, rfl, _, _, rfl, rfl, (sz : Int) + 1, rfl, by omega, by omega, ?_⟩
    rw [show ((sz : Int) + 1).toNat = sz + 1 by omega]
    refine for_range (lo := 0) (n := sz + 1) (fun i σ H2 => ∃ y5 : Option V, σ = [some (.int n), some (.int sz), some (.str x), some (.int (sums n sz i)), some (.int (ths n sz i)), y5] ∧ H2 = H) ?_ ?_ ?_
    · exact ⟨none, rfl, rfl⟩
    · rintro i σ H2 hi ⟨y5, rfl, rfl⟩
      have b1 := ths_small n (by omega) sz (by omega) i (by omega)
      refine ⟨_, rfl, _, rfl, _, _, rfl, rfl, ?_⟩
      refine ⟨_, rfl, _, rfl, _, rfl, _, _, rfl, rfl, _, _, rfl, rfl, .inl ⟨by omega, by omega⟩, _, rfl, _, rfl, _, _, rfl, rfl, _, _, rfl, rfl, .inr ⟨by omega, by omega⟩, _, rfl, _, _, rfl, rfl, _, _, rfl, rfl, ⟨by omega, by omega⟩, ?_⟩
      exact ⟨_, rfl, rfl⟩
    · rintro σ H2 ⟨y5, rfl, rfl⟩
      have b2 := sums_small n (by omega) sz (by omega) (sz + 1) (by omega)
      have hb : 0 ≤ bitsN sz x ∧ bitsN sz x ≤ 7 := by
        unfold bitsN
        split <;> omega
      refine ⟨_, rfl, _, rfl, _, rfl, (sz : Int), x, rfl, _, _, rfl, rfl, ⟨by omega, by omega, by omega⟩, q⟩
end
end Su
/-! ### A4m: slots and bits -/
namespace Su
open PySem PySem.Spec PyProof.Rows L2
/-- what stands in slots: -1, or rooms, none twice -/
structure Slots (n : Nat) (xs : List Int) : Prop where
  len : xs.length = n
  rng : ∀ x ∈ xs, -1 ≤ x ∧ x < 100
  one : ∀ v, v ≠ -1 → xs.count v ≤ 1
structure Bits (n : Nat) (xs : List Int) : Prop where
  len : xs.length = n
  rng : ∀ x ∈ xs, x = 0 ∨ x = 1
theorem dp_ints {K : PySem.W.Frag} {H : Hp} : ∀ ns : List Int, DpAll K H (ns.map V.int) (ns.map PyData.int)
  | [] => .nil
  | n :: ns => .cons (.int n) (dp_ints ns)
theorem fine_ints {ns : List Int} (h : ∀ x ∈ ns, -1 ≤ x ∧ x < 100) : FineL (ns.map PyData.int) 0 (41 * ns.length) := FineL.ints ns fun z hz => by
  have := h z hz
  omega
theorem set_nil_count (acc : List Int) (y v : Int) : ((acc ++ [-1]).set acc.length y).count v = acc.count v + (if y = v then 1 else 0) := by
  have e : (acc ++ [-1]).set acc.length y = acc ++ [y] := by
    rw [List.set_append_right _ _ (Nat.le_refl _), Nat.sub_self]
    rfl
  rw [e, List.count_append]
  by_cases h : y = v
  · subst h
    simp
  · simp [h, List.count_cons, List.count_nil]
end Su
namespace Su
open PySem PySem.Spec PyProof.Rows L2
theorem same_T {K : PySem.W.Frag} {H H' : Hp} {a : Addr} {xs : List V} (e : Same H H') (h : SqT K H a xs) : SqT K H' a xs := by
  rcases h with (h | ⟨o, h⟩) | h
  · exact .inl (.inl (e _ _ h))
  · exact .inl (.inr ⟨o, e _ _ h⟩)
  · exact .inr h
theorem cut_toI (xs : List Int) (g : Nat) (h : g ≤ xs.length) : cutV (xs.map V.int) none (some (g : Int)) = (xs.take g).map V.int := by
  unfold cutV
  rw [HT.sIx_nat, HT.sIx_none, List.length_map, Nat.min_eq_left h, Nat.sub_zero, List.drop_zero, List.map_take]
theorem cut_fromI (xs : List Int) (g : Nat) (h : g ≤ xs.length) : cutV (xs.map V.int) (some (g : Int)) none = (xs.drop g).map V.int := by
  unfold cutV
  rw [HT.sIx_nat, HT.sIx_none, List.length_map, Nat.min_eq_left h, List.map_drop, List.take_of_length_le]
  rw [List.length_drop, List.length_map]
  exact Nat.le_refl _
theorem flat_ints : ∀ xs : List Int, (xs.map V.int).all flatV = true
  | [] => rfl
  | _ :: xs => flat_ints xs
theorem in_ints (x : Int) : ∀ xs : List Int, inV (.int x) (xs.map V.int) = decide (x ∈ xs)
  | [] => rfl
  | y :: xs => by
    have ih := in_ints x xs
    unfold inV at ih ⊢
    rw [List.map_cons, List.any_cons, ih]
    show ((y == x) || decide (x ∈ xs)) = decide (x ∈ y :: xs)
    by_cases e : y = x
    · subst e
      simp
    · have e2 : ¬ x = y := fun z => e z.symm
      simp [e, e2]
/-! what a shelf's asks do, in numbers -/
def goneAt (xs : List Int) (r : Int) : Nat := if r ∈ xs then xs.idxOf r else xs.length - 1
def putF (xs : List Int) (r : Int) : List Int := r :: (xs.take (goneAt xs r) ++ xs.drop (goneAt xs r + 1))
theorem gone_lt {xs : List Int} {r : Int} (h : 0 < xs.length) : goneAt xs r < xs.length := by
  unfold goneAt
  split
  · rename_i e
    exact List.idxOf_lt_length_of_mem e
  · omega
def spPut : Sp := fun vs H Q _ => ∃ (a : Addr) (xs : List Int) (r : Int), vs = [.ref a, .int r] ∧ PTup H a (xs.map V.int) ∧ 0 < xs.length ∧ xs.length ≤ 100 ∧ ∀ (v : Addr) (H' : Hp), Same H H' → PTup H' v ((putF xs r).map V.int) → Q (.ref v) H'
theorem scPutFirst : FnScope ["slots", "room", "gone"] ["slots", "room"] (defScope sPutFirst) := ⟨rfl, rfl, rfl, by decide +kernel, rfl, by decide +kernel, by decide +kernel⟩
section
variable {P : Program} {w : World} {K : PySem.W.Frag} {mg : Str → Option Value} {base : Heap}
theorem ok_put (T : At K mg "put_first" sPutFirst ["slots", "room"]) (B : Bt mg) : Cal P w K mg base 1 "put_first" ["slots", "room"] spPut := by
  refine cal_of T scPutFirst (fun vs H Q E h => ?_) (fun f cdv A outer s H vs Q E hr h => ?_)
  · obtain ⟨a, xs, r, rfl, _⟩ := h
    rfl
  · obtain ⟨a, xs, r, rfl, hx, h0, hl, q⟩ := h
    refine ⟨_, (pss_cons (ps_set (i := 2) scPutFirst.nd rfl (Or.inl rfl) (pe_ifExp (pt_cmpR op_in_seq (pv 1) (pv 0) (by rfl)) (pe_mT PySem.F.slot_tuple_index PySem.F.type_tuple_index mt_tindex (pv 0) (pa_cons (pv 1) pa_nil)) (pe_op op_sub (pe_callB call_len_seq (by rfl) B.len PySem.boot_len (pa_cons (pv 0) pa_nil)) pe_int)))
      (pss_one (ps_ret (pe_op op_catF (pe_op op_catF (pe_tupF (pa_cons (pv 1) pa_nil)) (pe_slice sl_tupF (pv 0) po_none (po_some (pv 2)))) (pe_slice sl_tupF (pv 0) (po_some (pe_op op_add (pv 2) pe_int)) po_none))))), ?_⟩
    have hg : goneAt xs r < xs.length := gone_lt h0
    refine ⟨_, rfl, _, rfl, a, _, rfl, .inr hx.sq, rfl, flat_ints xs, _, rfl, ?_⟩
    rw [show (if false = true then !inV (V.int r) (xs.map V.int) else inV (V.int r) (xs.map V.int)) = decide (r ∈ xs) from in_ints r xs]
    refine ite2 (fun e => ?_) (fun e => ?_)
    rw [decide_eq_true_eq] at e
    refine ⟨_, rfl, ⟨a, _, rfl, hx⟩, _, rfl, a, xs, r, rfl, rfl, hx.sq, e, ?_⟩
    rw [show xs.idxOf r = goneAt xs r by unfold goneAt; rw [if_pos e]]
    rotate_left
    refine ⟨_, rfl, a, _, rfl, .inr hx.sq, _, _, rfl, rfl, ?_⟩
    rw [decide_eq_true_eq] at e
    rw [show (fun i j : Int => V.int (i - j)) ((xs.map V.int).length : Int) 1 = V.int ((goneAt xs r : Nat) : Int) from congrArg V.int (by
      unfold goneAt
      rw [if_neg e, List.length_map]
      omega)]
    all_goals
      refine ⟨_, rfl, (by show 1 ≤ sizeLine; decide), fun v1 H1 s1 n1 p1 => ?_⟩
      refine ⟨_, rfl, _, rfl, _, rfl, a, _, rfl, hx.same s1, fun v2 H2 s2 p2 => ?_⟩
      rw [cut_toI xs (goneAt xs r) (by omega)] at p2
      refine ⟨v1, v2, _, _, rfl, rfl, p1.same s2, p2, ?_, fun v3 H3 s3 p3 => ?_⟩
      · rw [List.length_map, List.length_take]
        exact Nat.le_of_lt (small1000 (by show 1 + _ ≤ 1000; omega))
      refine ⟨_, rfl, _, rfl, _, _, rfl, rfl, _, rfl, a, _, rfl, ((hx.same s1).same s2).same s3, fun v4 H4 s4 p4 => ?_⟩
      rw [show ((goneAt xs r : Nat) : Int) + 1 = ((goneAt xs r + 1 : Nat) : Int) by omega, cut_fromI xs (goneAt xs r + 1) (by omega)] at p4
      refine ⟨v3, v4, _, _, rfl, rfl, p3.same s4, p4, ?_, fun v5 H5 s5 p5 => ?_⟩
      · rw [List.length_append, List.length_map, List.length_map, List.length_take, List.length_drop]
        exact Nat.le_of_lt (small1000 (by show 1 + _ + _ ≤ 1000; omega))
      refine q v5 H5 ((((s1.trans s2).trans s3).trans s4).trans s5) ?_
      unfold putF
      rw [List.map_cons, List.map_append]
      exact p5
end
end Su
namespace Su
open PySem PySem.Spec PyProof.Rows L2
/-- where the bits lead -/
def ledF : Nat → List Int → Int → Int → Int → Int
  | 0, _, slot, _, _ => slot
  | f + 1, bs, slot, bit, half => if 0 < half then ledF f bs (slot + bs.getD bit.toNat 0 * half) (2 * bit + 1 + bs.getD bit.toNat 0) (half / 2) else slot
/-- .. by places that are there -/
def ledOk : Nat → List Int → Int → Int → Int → Bool
  | 0, _, _, _, half => decide (half ≤ 0)
  | f + 1, bs, slot, bit, half => if 0 < half then decide (0 ≤ bit) && decide (bit.toNat < bs.length) && decide (half ≤ 8) && ledOk f bs (slot + bs.getD bit.toNat 0 * half) (2 * bit + 1 + bs.getD bit.toNat 0) (half / 2) else true
/-- the bits turned away from a slot -/
def awayF : Nat → List Int → Int → Int → Int → List Int
  | 0, led, _, _, _ => led
  | f + 1, led, bit, half, wi => if 0 < half then awayF f (led.set bit.toNat (1 - (if half ≤ wi then 1 else 0))) (2 * bit + 1 + (if half ≤ wi then 1 else 0)) (half / 2) (wi - (if half ≤ wi then 1 else 0) * half) else led
def awayOk : Nat → Nat → Int → Int → Int → Bool
  | 0, _, _, half, _ => decide (half ≤ 0)
  | f + 1, m, bit, half, wi => if 0 < half then decide (0 ≤ bit) && decide (bit.toNat < m) && decide (half ≤ 8) && awayOk f m (2 * bit + 1 + (if half ≤ wi then 1 else 0)) (half / 2) (wi - (if half ≤ wi then 1 else 0) * half) else true
theorem awayF_len : ∀ (f : Nat) (led : List Int) (bit half wi : Int), (awayF f led bit half wi).length = led.length
  | 0, _, _, _, _ => rfl
  | f + 1, led, bit, half, wi => by
    unfold awayF
    split
    · rw [awayF_len, List.length_set]
    · rfl
def spLed : Sp := fun vs H Q _ => ∃ (b : Addr) (n : Int) (bs : List Int), vs = [.ref b, .int n] ∧ PTup H b (bs.map V.int) ∧ ledOk 4 bs 0 0 (n / 2) = true ∧ Q (.int (ledF 4 bs 0 0 (n / 2))) H
def spAway : Sp := fun vs H Q _ => ∃ (b : Addr) (sl n : Int) (bs : List Int), vs = [.ref b, .int sl, .int n] ∧ PTup H b (bs.map V.int) ∧ awayOk 4 bs.length 0 (n / 2) sl = true ∧ ∀ v H', Same H H' → PTup H' v ((awayF 4 bs 0 (n / 2) sl).map V.int) → Q (.ref v) H'
theorem scLed : FnScope ["bits", "size", "slot", "bit", "half", "turn"] ["bits", "size"] (defScope sLed) := ⟨rfl, rfl, rfl, by decide +kernel, rfl, by decide +kernel, by decide +kernel⟩
theorem scAway : FnScope ["bits", "slot", "size", "led", "bit", "half", "within", "turn"] ["bits", "slot", "size"] (defScope sAway) := ⟨rfl, rfl, rfl, by decide +kernel, rfl, by decide +kernel, by decide +kernel⟩
def num (σ : L2.St) (i : Nat) : Nat := match σ[i]? with
  | some (some (.int h)) => h.toNat
  | _ => 0
theorem ite3 {c A B : Prop} [Decidable c] (h1 : c → A) (h2 : ¬ c → B) : if decide c = true then A else B := by
  by_cases h : c
  · rw [if_pos (decide_eq_true h)]
    exact h1 h
  · rw [if_neg (by simp [h])]
    exact h2 h
section
variable {P : Program} {w : World} {K : PySem.W.Frag} {mg : Str → Option Value} {base : Heap}
theorem ok_led (T : At K mg "slot_led_to" sLed ["bits", "size"]) : Cal P w K mg base 1 "slot_led_to" ["bits", "size"] spLed := by
  refine cal_of T scLed (fun vs H Q E h => ?_) (fun f cdv A outer s H vs Q E hr h => ?_)
  · obtain ⟨b, n, bs, rfl, _⟩ := h
    rfl
  · obtain ⟨b, n, bs, rfl, hb, hok, q⟩ := h
    refine ⟨_, (pss_cons (ps_set (i := 2) scLed.nd rfl (Or.inl rfl) pe_int)
      (pss_cons (ps_set (i := 3) scLed.nd rfl (Or.inl rfl) pe_int)
      (pss_cons (ps_set (i := 4) scLed.nd rfl (Or.inl rfl) (pe_op op_fdiv (pv 1) pe_int))
      (pss_cons (ps_while PassesOwn.never (pt_cmpR op_gt (pv 4) pe_int (nomark _)) (pss_cons (ps_set (i := 5) scLed.nd rfl (Or.inl rfl) (pe_ix ix_tup (pv 0) (pv 3) (fun _ _ => rfl)))
      (pss_cons (ps_aug (i := 2) scLed.nd rfl (Or.inl rfl) (pe_op op_mul (pv 5) (pv 4)) ip_add)
      (pss_cons (ps_set (i := 3) scLed.nd rfl (Or.inl rfl) (pe_op op_add (pe_op op_add (pe_op op_mul pe_int (pv 3)) pe_int) (pv 5)))
      (pss_one (ps_set (i := 4) scLed.nd rfl (Or.inl rfl) (pe_op op_fdiv (pv 4) pe_int)))))))
      (pss_one (ps_ret (pv 2))))))), ?_⟩
    refine ⟨_, rfl, _, _, rfl, rfl, ⟨by decide, by decide⟩, ?_⟩
    refine while_by (fun σ H' => ∃ (f : Nat) (slot bit half : Int) (y : Option V), σ = [some (.ref b), some (.int n), some (.int slot), some (.int bit), some (.int half), y] ∧ H' = H ∧ ledOk f bs slot bit half = true ∧ ledF f bs slot bit half = ledF 4 bs 0 0 (n / 2)) (fun σ _ => num σ 4) ?_ ?_ ?_
    · exact ⟨4, 0, 0, n / 2, none, rfl, rfl, hok, rfl⟩
    · rintro σ H' ⟨f, slot, bit, half, y, rfl, rfl, h1, h2⟩
      refine ⟨_, rfl, _, _, rfl, rfl, _, rfl, ite3 (fun e => ?_) (fun e => ?_)⟩
      · cases f with
        | zero =>
          unfold ledOk at h1
          rw [decide_eq_true_eq] at h1
          exact absurd e (by omega)
        | succ f =>
          unfold ledOk at h1
          unfold ledF at h2
          rw [if_pos e] at h1 h2
          simp only [Bool.and_eq_true, decide_eq_true_eq] at h1
          obtain ⟨⟨⟨b0, b1⟩, b2⟩, b3⟩ := h1
          have g : atI (bs.map V.int) bit = some (V.int (bs.getD bit.toNat 0)) := atI_int b0 (by
            rw [List.getElem?_map, List.getElem?_eq_getElem b1, List.getD_eq_getElem?_getD, List.getElem?_eq_getElem b1]
            rfl)
          refine ⟨_, rfl, _, rfl, b, _, bit, _, rfl, rfl, hb.sq, g, ?_⟩
          refine ⟨_, rfl, _, rfl, _, rfl, _, _, rfl, rfl, .inr ⟨by omega, by omega⟩, _, _, rfl, rfl, ?_⟩
          refine ⟨_, rfl, _, _, rfl, rfl, .inl ⟨by decide, by decide⟩, _, _, rfl, rfl, _, rfl, _, _, rfl, rfl, ?_⟩
          refine ⟨_, rfl, _, _, rfl, rfl, ⟨by decide, by decide⟩, ?_⟩
          refine ⟨⟨f, _, _, _, _, rfl, rfl, b3, h2⟩, ?_⟩
          show (half / 2).toNat < half.toNat
          omega
      · refine ⟨_, rfl, ?_⟩
        have e2 : slot = ledF 4 bs 0 0 (n / 2) := by
          rw [← h2]
          cases f with
          | zero => rfl
          | succ f =>
            unfold ledF
            rw [if_neg e]
        rw [e2]
        exact q
    · rintro σ H' Q1 Q2 hq ⟨v, hv, i, j, e1, e2, k, e3, z⟩
      exact ⟨v, hv, i, j, e1, e2, k, e3, hq _ _ z⟩
theorem ok_away (T : At K mg "led_away" sAway ["bits", "slot", "size"]) (B : Bt mg) : Cal P w K mg base 1 "led_away" ["bits", "slot", "size"] spAway := by
  refine cal_of T scAway (fun vs H Q E h => ?_) (fun f cdv A outer s H vs Q E hr h => ?_)
  · obtain ⟨b, sl, n, bs, rfl, _⟩ := h
    rfl
  · obtain ⟨b, sl, n, bs, rfl, hb, hok, q⟩ := h
    refine ⟨_, (pss_cons (ps_set (i := 3) scAway.nd rfl (Or.inl rfl) (pe_callTy call_list_of (by rfl) B.list (by decide +kernel) (pa_cons (pv 0) pa_nil)))
      (pss_cons (ps_set (i := 4) scAway.nd rfl (Or.inl rfl) pe_int)
      (pss_cons (ps_set (i := 5) scAway.nd rfl (Or.inl rfl) (pe_op op_fdiv (pv 2) pe_int))
      (pss_cons (ps_set (i := 6) scAway.nd rfl (Or.inl rfl) (pv 1))
      (pss_cons (ps_while PassesOwn.never (pt_cmpR op_gt (pv 5) pe_int (nomark _)) (pss_cons (ps_set (i := 7) scAway.nd rfl (Or.inl rfl) (pe_ifExp (pt_cmpR op_ge (pv 6) (pv 5) (nomark _)) pe_int pe_int))
      (pss_cons (ps_asg (pe_op op_sub pe_int (pv 7)) (pg_sub (pv 3) (pv 4) set_list))
      (pss_cons (ps_aug (i := 6) scAway.nd rfl (Or.inl rfl) (pe_op op_mul (pv 7) (pv 5)) ip_sub)
      (pss_cons (ps_set (i := 4) scAway.nd rfl (Or.inl rfl) (pe_op op_add (pe_op op_add (pe_op op_mul pe_int (pv 4)) pe_int) (pv 7)))
      (pss_one (ps_set (i := 5) scAway.nd rfl (Or.inl rfl) (pe_op op_fdiv (pv 5) pe_int))))))))
      (pss_one (ps_ret (pe_callTy call_tupleF (by rfl) B.tuple (by decide +kernel) (pa_cons (pv 3) pa_nil))))))))), ?_⟩
    refine ⟨_, rfl, b, _, rfl, .inr hb.sq, fun l nl => ?_⟩
    refine ⟨_, rfl, _, _, rfl, rfl, ⟨by decide, by decide⟩, ?_⟩
    refine ⟨_, rfl, ?_⟩
    refine while_by (fun σ H' => ∃ (f : Nat) (led : List Int) (bit half wi : Int) (y : Option V), σ = [some (.ref b), some (.int sl), some (.int n), some (.ref l), some (.int bit), some (.int half), some (.int wi), y] ∧ H' = upd H l (.lst (led.map V.int)) ∧ awayOk f led.length bit half wi = true ∧ awayF f led bit half wi = awayF 4 bs 0 (n / 2) sl) (fun σ _ => num σ 5) ?_ ?_ ?_
    · exact ⟨4, bs, 0, n / 2, sl, none, rfl, rfl, hok, rfl⟩
    · rintro σ H' ⟨f, led, bit, half, wi, y, rfl, rfl, h1, h2⟩
      refine ⟨_, rfl, _, _, rfl, rfl, _, rfl, ite3 (fun e => ?_) (fun e => ?_)⟩
      · cases f with
        | zero =>
          unfold awayOk at h1
          rw [decide_eq_true_eq] at h1
          exact absurd e (by omega)
        | succ f =>
          unfold awayOk at h1
          unfold awayF at h2
          rw [if_pos e] at h1 h2
          simp only [Bool.and_eq_true, decide_eq_true_eq] at h1
          obtain ⟨⟨⟨b0, b1⟩, b2⟩, b3⟩ := h1
          refine ⟨_, rfl, _, rfl, _, _, rfl, rfl, _, rfl, ite3 (fun e1 => ?_) (fun e1 => ?_)⟩
          all_goals
            first
              | rw [if_pos e1] at h2 b3
              | rw [if_neg e1] at h2 b3
            refine ⟨_, rfl, _, _, rfl, rfl, ?_⟩
            refine ⟨_, rfl, _, rfl, l, led.map V.int, bit, bit.toNat, rfl, rfl, upd_same, ?_, ?_⟩
            · unfold ixN
              rw [if_pos b0, if_pos (by rw [List.length_map]; omega)]
            rw [upd_upd]
            refine ⟨_, rfl, _, rfl, _, rfl, _, _, rfl, rfl, .inl ⟨by decide, by decide⟩, _, _, rfl, rfl, ?_⟩
            refine ⟨_, rfl, _, _, rfl, rfl, .inl ⟨by decide, by decide⟩, _, _, rfl, rfl, _, rfl, _, _, rfl, rfl, ?_⟩
            refine ⟨_, rfl, _, _, rfl, rfl, ⟨by decide, by decide⟩, ?_⟩
            refine ⟨⟨f, led.set bit.toNat _, _, _, _, _, rfl, ?_, ?_, h2⟩, ?_⟩
            · rw [List.map_set]
            · rw [List.length_set]
              exact b3
            · show (half / 2).toNat < half.toNat
              omega
      · refine ⟨_, rfl, l, _, rfl, SqL.of upd_same, fun v H2 sm nv pt => ?_⟩
        have e2 : led = awayF 4 bs 0 (n / 2) sl := by
          rw [← h2]
          cases f with
          | zero => rfl
          | succ f =>
            unfold awayF
            rw [if_neg e]
        rw [e2] at pt
        exact q v H2 ((same_upd nl).trans sm) pt
    · rintro σ H' Q1 Q2 hq ⟨v, hv, i, j, e1, e2, k, e3, z⟩
      exact ⟨v, hv, i, j, e1, e2, k, e3, hq _ _ z⟩
end
end Su
namespace Su
open PySem PySem.Spec PyProof.Rows L2
def allBits : Nat → List (List Int)
  | 0 => [[]]
  | k + 1 => (allBits k).flatMap fun l => [0 :: l, 1 :: l]
theorem mem_allBits : ∀ (k : Nat) (bs : List Int), Bits k bs → bs ∈ allBits k
  | 0, bs, h => by
    have e := List.length_eq_zero_iff.mp h.len
    rw [e]
    exact List.mem_singleton.mpr rfl
  | k + 1, [], h => by
    have := h.len
    cases this
  | k + 1, b :: bs, h => by
    have ih := mem_allBits k bs ⟨by have := h.len; rw [List.length_cons] at this; omega, fun x hx => h.rng x (List.mem_cons_of_mem _ hx)⟩
    refine List.mem_flatMap.mpr ⟨bs, ih, ?_⟩
    rcases h.rng b List.mem_cons_self with e | e
    · rw [e]
      exact List.mem_cons_self
    · rw [e]
      exact List.mem_cons_of_mem _ List.mem_cons_self
structure TreeOk (n : Nat) (bs : List Int) : Prop where
  sz : n = 1 ∨ n = 2 ∨ n = 4 ∨ n = 8
  bt : Bits (n - 1) bs
/-- a look at all bits of a tree -/
def lookT (n : Nat) (bs : List Int) : Bool := ledOk 4 bs 0 0 ((n : Int) / 2) && decide (0 ≤ ledF 4 bs 0 0 ((n : Int) / 2)) && decide (ledF 4 bs 0 0 ((n : Int) / 2) < n)
theorem look1 : ∀ bs ∈ allBits 0, lookT 1 bs = true := by decide +kernel
theorem look2 : ∀ bs ∈ allBits 1, lookT 2 bs = true := by decide +kernel
theorem look4 : ∀ bs ∈ allBits 3, lookT 4 bs = true := by decide +kernel
theorem look8 : ∀ bs ∈ allBits 7, lookT 8 bs = true := by decide +kernel
theorem led_ok {n : Nat} {bs : List Int} (h : TreeOk n bs) : ledOk 4 bs 0 0 ((n : Int) / 2) = true ∧ 0 ≤ ledF 4 bs 0 0 ((n : Int) / 2) ∧ ledF 4 bs 0 0 ((n : Int) / 2) < n := by
  have z : lookT n bs = true := by
    obtain ⟨s, b⟩ := h
    rcases s with rfl | rfl | rfl | rfl
    · exact look1 bs (mem_allBits _ _ b)
    · exact look2 bs (mem_allBits _ _ b)
    · exact look4 bs (mem_allBits _ _ b)
    · exact look8 bs (mem_allBits _ _ b)
  unfold lookT at z
  simp only [Bool.and_eq_true, decide_eq_true_eq] at z
  exact ⟨z.1.1, z.1.2, z.2⟩
theorem aw1 : ∀ s ∈ List.range 1, awayOk 4 0 0 ((1 : Nat) / 2 : Int) (s : Nat) = true := by decide +kernel
theorem aw2 : ∀ s ∈ List.range 2, awayOk 4 1 0 ((2 : Nat) / 2 : Int) (s : Nat) = true := by decide +kernel
theorem aw4 : ∀ s ∈ List.range 4, awayOk 4 3 0 ((4 : Nat) / 2 : Int) (s : Nat) = true := by decide +kernel
theorem aw8 : ∀ s ∈ List.range 8, awayOk 4 7 0 ((8 : Nat) / 2 : Int) (s : Nat) = true := by decide +kernel
theorem away_ok {n : Nat} {bs : List Int} (h : TreeOk n bs) {s : Nat} (hs : s < n) : awayOk 4 bs.length 0 ((n : Int) / 2) (s : Nat) = true := by
  obtain ⟨z, b⟩ := h
  rw [b.len]
  have hm := List.mem_range.mpr hs
  rcases z with rfl | rfl | rfl | rfl
  · exact aw1 s hm
  · exact aw2 s hm
  · exact aw4 s hm
  · exact aw8 s hm
/-- the slot to which an ask by tree goes -/
def treeAt (xs bs : List Int) (r : Int) : Nat := if r ∈ xs then xs.idxOf r else (ledF 4 bs 0 0 ((xs.length : Int) / 2)).toNat
theorem treeAt_lt {xs bs : List Int} {r : Int} (h : TreeOk xs.length bs) : treeAt xs bs r < xs.length := by
  unfold treeAt
  split
  · rename_i e
    exact List.idxOf_lt_length_of_mem e
  · have := led_ok h
    omega
def putAt (xs : List Int) (s : Nat) (r : Int) : List Int := xs.take s ++ [r] ++ xs.drop (s + 1)
def askF (way : Str) (xs bs : List Int) (r : Int) : List Int × List Int :=
  if way = "tree" then (putAt xs (treeAt xs bs r) r, awayF 4 bs 0 ((xs.length : Int) / 2) (treeAt xs bs r : Nat))
  else if way = "first" ∧ r ∈ xs then (xs, bs) else (putF xs r, bs)
def LayAt (H : Hp) (v : Addr) (xs bs : List Int) : Prop := ∃ a b : Addr, PTup H v [.ref a, .ref b] ∧ PTup H a (xs.map V.int) ∧ PTup H b (bs.map V.int)
def AnsAt (H : Hp) (v : Addr) (xs bs : List Int) (near : Bool) : Prop := ∃ l : Addr, PTup H v [.ref l, .bl near] ∧ LayAt H l xs bs
theorem LayAt.same {H H' : Hp} {v : Addr} {xs bs : List Int} (h : LayAt H v xs bs) (s : Same H H') : LayAt H' v xs bs := by
  obtain ⟨a, b, h1, h2, h3⟩ := h
  exact ⟨a, b, h1.same s, h2.same s, h3.same s⟩
theorem AnsAt.same {H H' : Hp} {v : Addr} {xs bs : List Int} {k : Bool} (h : AnsAt H v xs bs k) (s : Same H H') : AnsAt H' v xs bs k := by
  obtain ⟨l, h1, h2⟩ := h
  exact ⟨l, h1.same s, h2.same s⟩
def spTree : Sp := fun vs H Q _ => ∃ (a b : Addr) (xs bs : List Int) (r : Int), vs = [.ref a, .ref b, .int r] ∧ PTup H a (xs.map V.int) ∧ PTup H b (bs.map V.int) ∧ TreeOk xs.length bs ∧
  ∀ v H', Same H H' → LayAt H' v (putAt xs (treeAt xs bs r) r) (awayF 4 bs 0 ((xs.length : Int) / 2) (treeAt xs bs r : Nat)) → Q (.ref v) H'
def spAsked : Sp := fun vs H Q _ => ∃ (t : Addr) (xs bs : List Int) (r : Int) (way : Str), vs = [.ref t, .int r, .str way] ∧ LayAt H t xs bs ∧ (way = "tree" → TreeOk xs.length bs) ∧ 0 < xs.length ∧ xs.length ≤ 8 ∧
  ∀ v H', Same H H' → AnsAt H' v (askF way xs bs r).1 (askF way xs bs r).2 (decide (r ∈ xs)) → Q (.ref v) H'
theorem scByTree : FnScope ["slots", "bits", "room", "size", "slot"] ["slots", "bits", "room"] (defScope sByTree) := ⟨rfl, rfl, rfl, by decide +kernel, rfl, by decide +kernel, by decide +kernel⟩
theorem scAsked : FnScope ["lay", "room", "way", "slots", "bits", "near"] ["lay", "room", "way"] (defScope sAsked) := ⟨rfl, rfl, rfl, by decide +kernel, rfl, by decide +kernel, by decide +kernel⟩
section
variable {P : Program} {w : World} {K : PySem.W.Frag} {mg : Str → Option Value} {base : Heap}
theorem ok_tree (T : At K mg "asked_by_tree" sByTree ["slots", "bits", "room"]) (B : Bt mg) (c_slot_led_to : Cal P w K mg base 1 "slot_led_to" ["bits", "size"] spLed) (c_led_away : Cal P w K mg base 1 "led_away" ["bits", "slot", "size"] spAway) :
    Cal P w K mg base 2 "asked_by_tree" ["slots", "bits", "room"] spTree := by
  refine cal_of T scByTree (fun vs H Q E h => ?_) (fun f cdv A outer s H vs Q E hr h => ?_)
  · obtain ⟨a, b, xs, bs, r, rfl, _⟩ := h
    rfl
  · obtain ⟨a, b, xs, bs, r, rfl, hx, hb, ht, q⟩ := h
    have hn : xs.length ≤ 8 := by
      have := ht.sz
      omega
    have hs := treeAt_lt (r := r) ht
    refine ⟨_, (pss_cons (ps_set (i := 3) scByTree.nd rfl (Or.inl rfl) (pe_callB call_len_seq (by rfl) B.len PySem.boot_len (pa_cons (pv 0) pa_nil)))
      (pss_cons (ps_set (i := 4) scByTree.nd rfl (Or.inl rfl) (pe_ifExp (pt_cmpR op_in_seq (pv 2) (pv 0) (by rfl)) (pe_mT PySem.F.slot_tuple_index PySem.F.type_tuple_index mt_tindex (pv 0) (pa_cons (pv 2) pa_nil)) (pe_own c_slot_led_to hr (by decide) (by rfl) (pa_cons (pv 1) (pa_cons (pv 3) pa_nil)))))
      (pss_one (ps_ret (pe_tupF (pa_cons (pe_op op_catF (pe_op op_catF (pe_slice sl_tupF (pv 0) po_none (po_some (pv 4))) (pe_tupF (pa_cons (pv 2) pa_nil))) (pe_slice sl_tupF (pv 0) (po_some (pe_op op_add (pv 4) pe_int)) po_none)) (pa_cons (pe_own c_led_away hr (by decide) (by rfl) (pa_cons (pv 1) (pa_cons (pv 4) (pa_cons (pv 3) pa_nil)))) pa_nil))))))), ?_⟩
    refine ⟨_, rfl, a, _, rfl, .inr hx.sq, ?_⟩
    rw [List.length_map]
    refine ⟨_, rfl, _, rfl, a, _, rfl, .inr hx.sq, rfl, flat_ints xs, _, rfl, ?_⟩
    rw [show (if false = true then !inV (V.int r) (xs.map V.int) else inV (V.int r) (xs.map V.int)) = decide (r ∈ xs) from in_ints r xs]
    refine ite3 (fun e => ?_) (fun e => ?_)
    refine ⟨_, rfl, ⟨a, _, rfl, hx⟩, _, rfl, a, xs, r, rfl, rfl, hx.sq, e, ?_⟩
    rw [show xs.idxOf r = treeAt xs bs r by unfold treeAt; rw [if_pos e]]
    rotate_left
    refine ⟨_, rfl, _, rfl, b, _, bs, rfl, hb, (led_ok ht).1, ?_⟩
    rw [show ledF 4 bs 0 0 ((xs.length : Int) / 2) = ((treeAt xs bs r : Nat) : Int) by
      unfold treeAt
      rw [if_neg e]
      have := led_ok ht
      omega]
    all_goals
      refine ⟨_, rfl, _, rfl, _, rfl, a, _, rfl, hx, fun v1 H1 s1 p1 => ?_⟩
      rw [cut_toI xs (treeAt xs bs r) (by omega)] at p1
      refine ⟨_, rfl, (by show 1 ≤ sizeLine; decide), fun v2 H2 s2 n2 p2 => ?_⟩
      refine ⟨v1, v2, _, _, rfl, rfl, p1.same s2, p2, ?_, fun v3 H3 s3 p3 => ?_⟩
      · rw [List.length_map, List.length_take]
        exact Nat.le_of_lt (small1000 (by show _ + 1 ≤ 1000; omega))
      refine ⟨_, rfl, _, rfl, _, _, rfl, rfl, _, rfl, a, _, rfl, ((hx.same s1).same s2).same s3, fun v4 H4 s4 p4 => ?_⟩
      rw [show ((treeAt xs bs r : Nat) : Int) + 1 = ((treeAt xs bs r + 1 : Nat) : Int) by omega, cut_fromI xs (treeAt xs bs r + 1) (by omega)] at p4
      refine ⟨v3, v4, _, _, rfl, rfl, p3.same s4, p4, ?_, fun v5 H5 s5 p5 => ?_⟩
      · rw [List.length_append, List.length_map, List.length_map, List.length_take, List.length_drop]
        exact Nat.le_of_lt (small1000 (by show _ + 1 + _ ≤ 1000; omega))
      have s15 : Same H H5 := (((s1.trans s2).trans s3).trans s4).trans s5
      refine ⟨_, rfl, _, rfl, _, rfl, b, _, _, bs, rfl, hb.same s15, away_ok ht hs, fun v6 H6 s6 p6 => ?_⟩
      refine ⟨(by show 2 ≤ sizeLine; decide), fun v7 H7 s7 n7 p7 => q v7 H7 ((s15.trans s6).trans s7) ⟨v5, v6, p7, ?_, p6.same s7⟩⟩
      have e5 : List.map V.int (xs.take (treeAt xs bs r)) ++ [V.int r] ++ List.map V.int (xs.drop (treeAt xs bs r + 1)) = (putAt xs (treeAt xs bs r) r).map V.int := by
        unfold putAt
        rw [List.map_append, List.map_append]
        rfl
      rw [← e5]
      exact (p5.same s6).same s7
theorem ok_asked (T : At K mg "asked" sAsked ["lay", "room", "way"]) (c_asked_by_tree : Cal P w K mg base 2 "asked_by_tree" ["slots", "bits", "room"] spTree) (c_put_first : Cal P w K mg base 1 "put_first" ["slots", "room"] spPut) :
    Cal P w K mg base 3 "asked" ["lay", "room", "way"] spAsked := by
  refine cal_of T scAsked (fun vs H Q E h => ?_) (fun f cdv A outer s H vs Q E hr h => ?_)
  · obtain ⟨t, xs, bs, r, way, rfl, _⟩ := h
    rfl
  · obtain ⟨t, xs, bs, r, way, rfl, ⟨a, b, ht, hx, hb⟩, hok, h0, hn, q⟩ := h
    refine ⟨_, (pss_cons (ps_asg (pv 0) (pg_tup (by rfl) (pgs_cons (pg_name (i := 3) scAsked.nd rfl (Or.inl rfl)) (pgs_cons (pg_name (i := 4) scAsked.nd rfl (Or.inl rfl)) pgs_nil))))
      (pss_cons (ps_set (i := 5) scAsked.nd rfl (Or.inl rfl) (pe_cmpR op_in_seq (pv 1) (pv 3) (by rfl)))
      (pss_cons (ps_if (pt_cmpR op_eq (pv 2) pe_str (nomark _)) (pss_one (ps_ret (pe_tupF (pa_cons (pe_own c_asked_by_tree hr (by decide) (by rfl) (pa_cons (pv 3) (pa_cons (pv 4) (pa_cons (pv 1) pa_nil)))) (pa_cons (pv 5) pa_nil))))) pss_nil)
      (pss_cons (ps_if (PW.pt (pw_and (pt_cmpR op_eq (pv 2) pe_str (nomark _)) (pw_and1 (pt_val (pv 5))))) (pss_one (ps_ret (pe_tupF (pa_cons (pe_tupF (pa_cons (pv 3) (pa_cons (pv 4) pa_nil))) (pa_cons (pv 5) pa_nil))))) pss_nil)
      (pss_one (ps_ret (pe_tupF (pa_cons (pe_tupF (pa_cons (pe_own c_put_first hr (by decide) (by rfl) (pa_cons (pv 3) (pa_cons (pv 1) pa_nil))) (pa_cons (pv 4) pa_nil))) (pa_cons (pv 5) pa_nil))))))))), ?_⟩
    refine ⟨_, rfl, t, _, rfl, ht.sq, rfl, _, _, rfl, _, _, rfl, rfl, ?_⟩
    refine ⟨_, rfl, _, rfl, a, _, rfl, .inr hx.sq, rfl, flat_ints xs, ?_⟩
    rw [show (if false = true then !inV (V.int r) (xs.map V.int) else inV (V.int r) (xs.map V.int)) = decide (r ∈ xs) from in_ints r xs]
    refine ⟨_, rfl, rfl, _, rfl, ite3 (fun e => ?_) (fun e => ?_)⟩
    · have e1 : way = "tree" := V.str.inj e
      refine ⟨_, rfl, _, rfl, _, rfl, a, b, xs, bs, r, rfl, hx, hb, hok e1, fun v H1 s1 la => ?_⟩
      refine ⟨_, rfl, (by show 2 ≤ sizeLine; decide), fun v2 H2 s2 n2 p2 => q v2 H2 (s1.trans s2) ⟨v, p2, ?_⟩⟩
      unfold askF
      rw [if_pos e1]
      exact la.same s2
    · have e1 : ¬ way = "tree" := fun z => e (by rw [z])
      refine ⟨_, rfl, rfl, _, rfl, ite3 (fun e2 => ?_) (fun e2 => ?_)⟩
      · have e3 : way = "first" := V.str.inj e2
        refine ⟨_, rfl, _, rfl, ite3 (fun e4 => ?_) (fun e4 => ?_)⟩
        · refine ⟨_, rfl, _, rfl, (by show 2 ≤ sizeLine; decide), fun v1 H1 s1 n1 p1 => ?_⟩
          refine ⟨_, rfl, (by show 2 ≤ sizeLine; decide), fun v2 H2 s2 n2 p2 => q v2 H2 (s1.trans s2) ⟨v1, p2, ?_⟩⟩
          unfold askF
          rw [if_neg e1, if_pos ⟨e3, e4⟩]
          exact ⟨a, b, p1.same s2, (hx.same s1).same s2, (hb.same s1).same s2⟩
        · refine ⟨_, rfl, _, rfl, a, xs, r, rfl, hx, h0, by omega, fun v1 H1 s1 p1 => ?_⟩
          refine ⟨_, rfl, (by show 2 ≤ sizeLine; decide), fun v2 H2 s2 n2 p2 => ?_⟩
          refine ⟨_, rfl, (by show 2 ≤ sizeLine; decide), fun v3 H3 s3 n3 p3 => q v3 H3 ((s1.trans s2).trans s3) ⟨v2, p3, ?_⟩⟩
          unfold askF
          rw [if_neg e1, if_neg (fun z => e4 z.2)]
          exact ⟨v1, b, p2.same s3, (p1.same s2).same s3, ((hb.same s1).same s2).same s3⟩
      · have e3 : ¬ way = "first" := fun z => e2 (by rw [z])
        refine ⟨_, rfl, _, rfl, a, xs, r, rfl, hx, h0, by omega, fun v1 H1 s1 p1 => ?_⟩
        refine ⟨_, rfl, (by show 2 ≤ sizeLine; decide), fun v2 H2 s2 n2 p2 => ?_⟩
        refine ⟨_, rfl, (by show 2 ≤ sizeLine; decide), fun v3 H3 s3 n3 p3 => q v3 H3 ((s1.trans s2).trans s3) ⟨v2, p3, ?_⟩⟩
        unfold askF
        rw [if_neg e1, if_neg (fun z => e3 z.1)]
        exact ⟨v1, b, p2.same s3, (p1.same s2).same s3, ((hb.same s1).same s2).same s3⟩
end
end Su
/-! ### A11m: what an ask makes of a lay -/
namespace Su
open PySem PySem.Spec PyProof.Rows L2
theorem filter_len (r : Int) : ∀ xs : List Int, xs.length = xs.count r + (xs.filter fun x => !decide (x = r)).length
  | [] => rfl
  | x :: xs => by
    have ih := filter_len r xs
    by_cases e : x = r
    · subst e
      rw [List.length_cons, List.count_cons_self, List.filter_cons_of_neg (by simp)]
      omega
    · rw [List.length_cons, List.count_cons_of_ne e, List.filter_cons_of_pos (by simp [e]), List.length_cons]
      omega
theorem filter_none {r : Int} : ∀ {xs : List Int}, r ∉ xs → (xs.filter fun x => !decide (x = r)) = xs := fun {xs} h =>
  List.filter_eq_self.mpr fun x hx => by
    have : ¬ x = r := fun z => h (z ▸ hx)
    simp [this]
theorem filter_once {r : Int} : ∀ {xs : List Int}, r ∈ xs → xs.count r ≤ 1 → (xs.filter fun x => !decide (x = r)) = xs.take (xs.idxOf r) ++ xs.drop (xs.idxOf r + 1)
  | [], h, _ => (List.not_mem_nil h).elim
  | x :: xs, h, hc => by
    by_cases e : x = r
    · subst e
      rw [List.count_cons_self] at hc
      have hn : x ∉ xs := List.count_eq_zero.mp (by omega)
      rw [List.idxOf_cons_self, List.filter_cons_of_neg (by simp), filter_none hn]
      rfl
    · have hm : r ∈ xs := by
        rcases List.mem_cons.mp h with z | z
        · exact absurd z.symm e
        · exact z
      rw [List.count_cons_of_ne e] at hc
      have ei : (x :: xs).idxOf r = xs.idxOf r + 1 := by
        have z : (x == r) = false := by simpa using e
        rw [List.idxOf_cons, z]
        rfl
      rw [ei, List.filter_cons_of_pos (by simp [e]), filter_once hm hc]
      rfl
theorem put_filter {r : Int} {xs : List Int} (hc : xs.count r ≤ 1) (h0 : 0 < xs.length) : (r :: xs.filter fun x => !decide (x = r)).take xs.length = putF xs r := by
  have hl := filter_len r xs
  unfold putF goneAt
  by_cases h : r ∈ xs
  · rw [if_pos h, ← filter_once h hc]
    refine List.take_of_length_le ?_
    rw [List.length_cons]
    have := List.count_pos_iff.mpr h
    omega
  · rw [if_neg h, filter_none h]
    obtain ⟨m, hm⟩ : ∃ m, xs.length = m + 1 := ⟨xs.length - 1, by omega⟩
    rw [hm, List.take_succ_cons, Nat.add_sub_cancel, List.drop_of_length_le (by omega), List.append_nil]
/-! the mathematics of one ask: slots stay slots, bits stay bits -/
theorem putF_len {xs : List Int} {r : Int} (h : 0 < xs.length) : (putF xs r).length = xs.length := by
  have := gone_lt (r := r) h
  unfold putF
  rw [List.length_cons, List.length_append, List.length_take, List.length_drop]
  omega
theorem putF_ok {n : Nat} {xs : List Int} {r : Int} (h : Slots n xs) (h0 : 0 < xs.length) (r0 : 0 ≤ r) (r1 : r < 100) : Slots n (putF xs r) := by
  have hc := h.one r (by omega)
  refine ⟨by rw [putF_len h0, h.len], fun x hx => ?_, fun v hv => ?_⟩
  · unfold putF at hx
    rcases List.mem_cons.mp hx with z | z
    · omega
    · rcases List.mem_append.mp z with y | y
      · exact h.rng x (List.mem_of_mem_take y)
      · exact h.rng x (List.mem_of_mem_drop y)
  · rw [← put_filter hc h0]
    refine Nat.le_trans (List.Sublist.count_le v (List.take_sublist _ _)) ?_
    by_cases e : r = v
    · subst e
      have hz : r ∉ xs.filter fun x => !decide (x = r) := fun z => by
        have := (List.mem_filter.mp z).2
        simp at this
      rw [List.count_cons_self, List.count_eq_zero.mpr hz]
      exact Nat.le_refl _
    · rw [List.count_cons_of_ne e]
      exact Nat.le_trans (List.Sublist.count_le v List.filter_sublist) (h.one v hv)
theorem putAt_len {xs : List Int} {s : Nat} {r : Int} (h : s < xs.length) : (putAt xs s r).length = xs.length := by
  unfold putAt
  rw [List.length_append, List.length_append, List.length_take, List.length_drop]
  show min s xs.length + 1 + (xs.length - (s + 1)) = xs.length
  omega
theorem putAt_ok {n : Nat} {xs bs : List Int} {r : Int} (h : Slots n xs) (hs : treeAt xs bs r < xs.length) (r0 : 0 ≤ r) (r1 : r < 100) : Slots n (putAt xs (treeAt xs bs r) r) := by
  refine ⟨by rw [putAt_len hs, h.len], fun x hx => ?_, fun v hv => ?_⟩
  · unfold putAt at hx
    rcases List.mem_append.mp hx with z | z
    · rcases List.mem_append.mp z with y | y
      · exact h.rng x (List.mem_of_mem_take y)
      · rw [List.mem_singleton.mp y]
        omega
    · exact h.rng x (List.mem_of_mem_drop z)
  · have hx : xs = xs.take (treeAt xs bs r) ++ [xs[treeAt xs bs r]] ++ xs.drop (treeAt xs bs r + 1) := by
      rw [List.append_assoc, List.singleton_append, List.getElem_cons_drop, List.take_append_drop]
    have h1 := h.one v hv
    rw [hx, List.count_append, List.count_append] at h1
    unfold putAt
    rw [List.count_append, List.count_append]
    by_cases e : r ∈ xs
    · have e2 : xs[treeAt xs bs r] = r := by
        have e3 : treeAt xs bs r = xs.idxOf r := by
          unfold treeAt
          rw [if_pos e]
        simp only [e3]
        exact List.getElem_idxOf (List.idxOf_lt_length_of_mem e)
      rw [e2] at h1
      exact h1
    · by_cases ev : r = v
      · subst ev
        have a1 : (xs.take (treeAt xs bs r)).count r = 0 := List.count_eq_zero.mpr fun z => e (List.mem_of_mem_take z)
        have a2 : (xs.drop (treeAt xs bs r + 1)).count r = 0 := List.count_eq_zero.mpr fun z => e (List.mem_of_mem_drop z)
        rw [a1, a2, List.count_singleton_self]
        exact Nat.le_refl _
      · have a3 : [r].count v = 0 := by
          rw [List.count_cons_of_ne ev, List.count_nil]
        rw [a3]
        omega
theorem awayF_ok : ∀ (f : Nat) (led : List Int) (bit half wi : Int), (∀ x ∈ led, x = 0 ∨ x = 1) → ∀ x ∈ awayF f led bit half wi, x = 0 ∨ x = 1
  | 0, _, _, _, _, h => h
  | f + 1, led, bit, half, wi, h => by
    unfold awayF
    split
    · refine awayF_ok f _ _ _ _ fun x hx => ?_
      rcases List.mem_or_eq_of_mem_set hx with z | z
      · exact h x z
      · rw [z]
        split <;> omega
    · exact h
/-- what holds of a lay between two asks -/
structure LayOk (way : Str) (n : Nat) (xs bs : List Int) : Prop where
  sl : Slots n xs
  pos : 0 < n
  few : n ≤ 8
  tr : way = "tree" → TreeOk n bs
  no : way ≠ "tree" → bs = []
theorem LayOk.ask {way : Str} {n : Nat} {xs bs : List Int} {r : Int} (h : LayOk way n xs bs) (r0 : 0 ≤ r) (r1 : r < 100) : LayOk way n (askF way xs bs r).1 (askF way xs bs r).2 := by
  have hl := h.sl.len
  have h0 : 0 < xs.length := by
    rw [hl]
    exact h.pos
  unfold askF
  by_cases e : way = "tree"
  · rw [if_pos e]
    have ht := h.tr e
    have ht' : TreeOk xs.length bs := by
      rw [hl]
      exact ht
    refine ⟨putAt_ok h.sl (treeAt_lt ht') r0 r1, h.pos, h.few, fun _ => ⟨ht.sz, ?_, ?_⟩, fun z => absurd e z⟩
    · show (awayF 4 bs 0 _ _).length = n - 1
      rw [awayF_len]
      exact ht.bt.len
    · exact awayF_ok 4 bs 0 _ _ ht.bt.rng
  · rw [if_neg e]
    split
    · exact ⟨h.sl, h.pos, h.few, fun z => absurd z e, h.no⟩
    · exact ⟨putF_ok h.sl h0 r0 r1, h.pos, h.few, fun z => absurd z e, h.no⟩
/-! lays and answers as data -/
def layD (xs bs : List Int) : PyData := .tuple [.tuple (xs.map .int), .tuple (bs.map .int)]
def ansD (xs bs : List Int) (k : Bool) : PyData := .tuple [layD xs bs, .bool k]
theorem LayAt.dp {K : PySem.W.Frag} {H : Hp} {v : Addr} {xs bs : List Int} (h : LayAt H v xs bs) : Dp K H (.ref v) (layD xs bs) := by
  obtain ⟨a, b, h1, h2, h3⟩ := h
  exact .tup h1.sq (.cons (.tup h2.sq (dp_ints xs)) (.cons (.tup h3.sq (dp_ints bs)) .nil))
theorem AnsAt.dp {K : PySem.W.Frag} {H : Hp} {v : Addr} {xs bs : List Int} {k : Bool} (h : AnsAt H v xs bs k) : Dp K H (.ref v) (ansD xs bs k) := by
  obtain ⟨l, h1, h2⟩ := h
  exact .tup h1.sq (.cons h2.dp (.cons (.bl k) .nil))
theorem LayOk.fine {way : Str} {n : Nat} {xs bs : List Int} (h : LayOk way n xs bs) : Fine (layD xs bs) 2 1000 := by
  have l1 := h.sl.len
  have hf := h.few
  have l2 : bs.length ≤ 8 ∧ ∀ x ∈ bs, -1 ≤ x ∧ x < 100 := by
    by_cases e : way = "tree"
    · have b := (h.tr e).bt
      refine ⟨by rw [b.len]; omega, fun x hx => ?_⟩
      have := b.rng x hx
      omega
    · rw [h.no e]
      exact ⟨Nat.zero_le _, fun x hx => (List.not_mem_nil hx).elim⟩
  refine (Fine.tuple (FineL.cons (Fine.tuple (fine_ints h.sl.rng)) (FineL.cons (Fine.tuple (fine_ints l2.2)) FineL.nil))).up (Nat.le_refl _) ?_
  omega
theorem LayOk.fineA {way : Str} {n : Nat} {xs bs : List Int} (h : LayOk way n xs bs) (k : Bool) : Fine (ansD xs bs k) 3 2000 :=
  (Fine.tuple (FineL.cons h.fine (FineL.cons ((Fine.bool k).up (Nat.zero_le _) (Nat.le_refl _)) FineL.nil))).up (Nat.le_refl _) (by decide)
end Su
/-! ### LY: all lays, the program's -/
namespace Su
open PySem PySem.Spec PyProof.Rows L2
theorem sc_all_lays : FnScope ["rooms", "size", "way", "slots", "slot", "bits", "bit", "some", "others", "one"] ["rooms", "size", "way"] (defScope s_all_lays) := ⟨rfl, rfl, rfl, by decide +kernel, rfl, by decide +kernel, by decide +kernel⟩
section
variable {P : Program} {w : World} {K : PySem.W.Frag} {mg : Str → Option Value} {base : Heap}
/-- tuples of these numbers -/
inductive TsAt (H : Hp) : List V → List (List Int) → Prop
  | nil : TsAt H [] []
  | cons {a : Addr} {s : List Int} {vs : List V} {ss : List (List Int)} (h : PTup H a (s.map V.int)) (t : TsAt H vs ss) : TsAt H (.ref a :: vs) (s :: ss)
theorem TsAt.same {H H' : Hp} (e : Same H H') : ∀ {vs : List V} {ss : List (List Int)}, TsAt H vs ss → TsAt H' vs ss
  | _, _, .nil => .nil
  | _, _, .cons h t => .cons (h.same e) (TsAt.same e t)
theorem TsAt.keep {H H' : Hp} (e : KP H H') : ∀ {vs : List V} {ss : List (List Int)}, TsAt H vs ss → TsAt H' vs ss
  | _, _, .nil => .nil
  | _, _, .cons h t => .cons (e.p _ _ h) (TsAt.keep e t)
theorem TsAt.app {H : Hp} : ∀ {vs ws : List V} {ss ts : List (List Int)}, TsAt H vs ss → TsAt H ws ts → TsAt H (vs ++ ws) (ss ++ ts)
  | _, _, _, _, .nil, g => g
  | _, _, _, _, .cons h t, g => .cons h (TsAt.app t g)
theorem TsAt.len {H : Hp} : ∀ {vs : List V} {ss : List (List Int)}, TsAt H vs ss → vs.length = ss.length
  | _, _, .nil => rfl
  | _, _, .cons _ t => by rw [List.length_cons, List.length_cons, TsAt.len t]
theorem TsAt.get {H : Hp} : ∀ {vs : List V} {ss : List (List Int)}, TsAt H vs ss → ∀ {i : Nat} {v : V}, vs[i]? = some v → ∃ a s, v = .ref a ∧ ss[i]? = some s ∧ PTup H a (s.map V.int)
  | _, _, .nil, i, v, e => by simp at e
  | _, _, .cons h t, 0, v, e => by cases e; exact ⟨_, _, rfl, rfl, h⟩
  | _, _, .cons h t, i + 1, v, e => TsAt.get t (i := i) (by simpa using e)
inductive LsAt (H : Hp) : List V → List (List Int × List Int) → Prop
  | nil : LsAt H [] []
  | cons {a : Addr} {p : List Int × List Int} {vs : List V} {ps : List (List Int × List Int)} (h : LayAt H a p.1 p.2) (t : LsAt H vs ps) : LsAt H (.ref a :: vs) (p :: ps)
theorem LsAt.same {H H' : Hp} (e : Same H H') : ∀ {vs : List V} {ss : List (List Int × List Int)}, LsAt H vs ss → LsAt H' vs ss
  | _, _, .nil => .nil
  | _, _, .cons h t => .cons (h.same e) (LsAt.same e t)
theorem LayAt.kp {H H' : Hp} {v : Addr} {xs bs : List Int} (h : LayAt H v xs bs) (k : KP H H') : LayAt H' v xs bs := by
  obtain ⟨a, b, h1, h2, h3⟩ := h
  exact ⟨a, b, k.p _ _ h1, k.p _ _ h2, k.p _ _ h3⟩
theorem LsAt.keep {H H' : Hp} (e : KP H H') : ∀ {vs : List V} {ss : List (List Int × List Int)}, LsAt H vs ss → LsAt H' vs ss
  | _, _, .nil => .nil
  | _, _, .cons h t => .cons (h.kp e) (LsAt.keep e t)
theorem LsAt.app {H : Hp} : ∀ {vs ws : List V} {ss ts : List (List Int × List Int)}, LsAt H vs ss → LsAt H ws ts → LsAt H (vs ++ ws) (ss ++ ts)
  | _, _, _, _, .nil, g => g
  | _, _, _, _, .cons h t, g => .cons h (LsAt.app t g)
theorem LsAt.len {H : Hp} : ∀ {vs : List V} {ss : List (List Int × List Int)}, LsAt H vs ss → vs.length = ss.length
  | _, _, .nil => rfl
  | _, _, .cons _ t => by rw [List.length_cons, List.length_cons, LsAt.len t]
theorem cnt_mono (r : Nat) : ∀ {i n : Nat}, i ≤ n → cntS i r ≤ cntS n r := by
  intro i n h
  induction h with
  | refl => exact Nat.le_refl _
  | step _ ih => exact Nat.le_trans ih (Nat.le_add_right _ _)
def spAllLays : Sp := fun vs H Q _ => ∃ (rm : Addr) (ms : List Int) (n : Nat) (x : Str), vs = [.ref rm, .int n, .str x] ∧ H rm = some (.lst (ms.map V.int)) ∧ Kind n x ∧ ms.length ≤ 12 ∧ (-1 : Int) ∉ ms ∧ ms.Nodup ∧ cntS n ms.length * 2 ^ (bitsN n x).toNat ≤ 100000 ∧
  ∀ L us H', Same H H' → H L = none → H' L = some (.lst us) → LsAt H' us (laysL ms n (bitsN n x).toNat) → Q (.ref L) H'
theorem flatMap_take {α β : Type} {f : α → List β} {l : List α} {i : Nat} {x : α} (h : l[i]? = some x) : (l.take (i + 1)).flatMap f = (l.take i).flatMap f ++ f x := by
  rw [List.take_add_one, h, List.flatMap_append]
  simp
theorem ok_all_lays (T : At K mg "all_lays" s_all_lays ["rooms", "size", "way"]) (B : Bt mg) (mEmpty : ∃ t, mg "EMPTY" = some (.int (-1) t)) (c_how_many_bits : Cal P w K mg base 1 "how_many_bits" ["size", "way"] spBitsN) : Cal P w K mg base 2 "all_lays" ["rooms", "size", "way"] spAllLays := by
  obtain ⟨te, mEmpty⟩ := mEmpty
  refine cal_of T sc_all_lays (fun vs H Q E h => ?_) (fun f cdv A outer s H vs Q E hr h => ?_)
  · obtain ⟨rm, ms, n, x, rfl, _⟩ := h
    rfl
  · obtain ⟨rm, ms, n, x, rfl, hm, kd, m12, nm, nd, few, q⟩ := h
    have n8 := kd.hi
    refine ⟨_, (pss_cons (ps_set (i := 3) sc_all_lays.nd rfl (Or.inl rfl) (pe_lst (pa_cons (pe_tupF pa_nil) pa_nil)))
      (pss_cons (ps_for PassesOwn.never rfl (pi_range1 (by rfl) B.range (pa_cons (pv 1) pa_nil)) (pg_name (i := 4) sc_all_lays.nd rfl (Or.inl rfl)) (pss_one (ps_setLc2 (i := 3) (own := [("some", 7), ("one", 9)]) (vs1 := [9]) (g := (gName 7)) (tt := tYes) (wi1 := iList K (tOp rCat (tLst (tCons (tC (.int (-1))) tNil)) (tVar 0))) (g1 := (gName 9)) (tt1 := (tOr (tTest (tOp rEq (tVar 9) (tC (.int (-1))))) (tTest (tOp (rIn K true) (tVar 9) (tVar 7))))) (te := (tOp rCatF (tVar 7) (tTupF (tCons (tVar 9) tNil)))) (by rfl) sc_all_lays.nd rfl rfl (sw_true rfl rfl rfl (by decide +kernel)) (pi_list (pv 3)) (blkOk_by (own := [("some", 7), ("one", 9)]) (N := ["rooms", "size", "way", "slots", "slot", "bits", "bit", "some", "others", "one"]) (sc := defScope s_all_lays) (by decide +kernel)) (by decide) (fun _ _ _ _ _ => (pg_name (i := 7) sc_all_lays.nd rfl (Or.inl rfl))) (fun _ _ _ _ _ => pts_nil) (fun _ _ _ _ _ => (pi_list (pe_op op_cat (pe_lst (pa_cons (pe_glob (v := .int (-1)) rfl mEmpty ⟨_, rfl⟩) pa_nil)) (pv 0)))) (fun _ _ _ _ _ => (pg_name (i := 9) sc_all_lays.nd rfl (Or.inl rfl))) (fun _ _ _ _ _ => pts_one (PW.pt (pw_or (pt_cmpR op_eq (pv 9) (pe_glob (v := .int (-1)) rfl mEmpty ⟨_, rfl⟩) (nomark _)) (pw_or1 (pt_cmpR op_notIn_seq (pv 9) (pv 7) (by rfl)))))) (fun _ _ _ _ _ => (pe_op op_catF (pv 7) (pe_tupF (pa_cons (pv 9) pa_nil)))))))
      (pss_cons (ps_set (i := 5) sc_all_lays.nd rfl (Or.inr rfl) (pe_lst (pa_cons (pe_tupF pa_nil) pa_nil)))
      (pss_cons (ps_for PassesOwn.never rfl (pi_range1 (by rfl) B.range (pa_cons (pe_own c_how_many_bits hr (by decide) (by rfl) (pa_cons (pv 1) (pa_cons (pv 2) pa_nil))) pa_nil)) (pg_name (i := 6) sc_all_lays.nd rfl (Or.inl rfl)) (pss_one (ps_set (i := 5) sc_all_lays.nd rfl (Or.inr rfl) (pe_lc2 (own := [("some", 7), ("one", 9)]) (vs1 := [9]) (g := (gName 7)) (tt := tYes) (wi1 := iTup K (tTupF (tCons (tC (.int 0)) (tCons (tC (.int 1)) tNil)))) (g1 := (gName 9)) (tt1 := tYes) (te := (tOp rCatF (tVar 7) (tTupF (tCons (tVar 9) tNil)))) (by rfl) sc_all_lays.nd (pi_list (pv 5)) (blkOk_by (own := [("some", 7), ("one", 9)]) (N := ["rooms", "size", "way", "slots", "slot", "bits", "bit", "some", "others", "one"]) (sc := defScope s_all_lays) (by decide +kernel)) (by decide) (fun _ _ _ _ _ => (pg_name (i := 7) sc_all_lays.nd rfl (Or.inl rfl))) (fun _ _ _ _ _ => pts_nil) (fun _ _ _ _ _ => (pi_tup (pe_tupF (pa_cons pe_int (pa_cons pe_int pa_nil))))) (fun _ _ _ _ _ => (pg_name (i := 9) sc_all_lays.nd rfl (Or.inl rfl))) (fun _ _ _ _ _ => pts_nil) (fun _ _ _ _ _ => (pe_op op_catF (pv 7) (pe_tupF (pa_cons (pv 9) pa_nil))))))))
      (pss_one (ps_ret (pe_lc2 (own := [("some", 7), ("others", 8)]) (vs1 := [8]) (g := (gName 7)) (tt := tYes) (wi1 := iList K (tVar 5)) (g1 := (gName 8)) (tt1 := tYes) (te := (tTupF (tCons (tVar 7) (tCons (tVar 8) tNil)))) (by rfl) sc_all_lays.nd (pi_list (pv 3)) (blkOk_by (own := [("some", 7), ("others", 8)]) (N := ["rooms", "size", "way", "slots", "slot", "bits", "bit", "some", "others", "one"]) (sc := defScope s_all_lays) (by decide +kernel)) (by decide) (fun _ _ _ _ _ => (pg_name (i := 7) sc_all_lays.nd rfl (Or.inl rfl))) (fun _ _ _ _ _ => pts_nil) (fun _ _ _ _ _ => (pi_list (pv 5))) (fun _ _ _ _ _ => (pg_name (i := 8) sc_all_lays.nd rfl (Or.inl rfl))) (fun _ _ _ _ _ => pts_nil) (fun _ _ _ _ _ => (pe_tupF (pa_cons (pv 7) (pa_cons (pv 8) pa_nil))))))))))), ?_⟩
    have p2 : 1 ≤ 2 ^ (bitsN n x).toNat := Nat.one_le_two_pow
    have fewS : ∀ i, i ≤ n → (slotsL ms i).length ≤ 100000 := fun i hi => by
      rw [slots_len nm nd]
      refine Nat.le_trans (cnt_mono _ hi) (Nat.le_trans ?_ few)
      exact Nat.le_mul_of_pos_right _ p2
    have zl : (100000 : Nat) < sizeLine := by rw [sizeLine_eq]; omega
    refine ⟨(by show 0 ≤ sizeLine; exact Nat.zero_le _), fun e0 H1 t1 n1 p0 => ⟨by show 1 ≤ sizeLine; decide, fun S nS => ?_⟩⟩
    have s0 : Same H (upd H1 S (.lst [.ref e0])) := t1.trans (same_upd nS)
    refine ⟨_, rfl, (n : Int), rfl, by omega, by omega, ?_⟩
    rw [Int.toNat_natCast]
    refine for_range (lo := 0) (n := n) (fun i σ H2 => ∃ (S : Addr) (us : List V) (y4 : Option V), σ = [some (.ref rm), some (.int n), some (.str x), some (.ref S), y4, none, none, none, none, none] ∧ H2 S = some (.lst us) ∧ TsAt H2 us (slotsL ms i) ∧ Same H H2) ?_ ?_ ?_
    · exact ⟨S, _, none, rfl, upd_same, .cons (p0.same (same_upd nS)) .nil, s0⟩
    · rintro i σ H2 hi ⟨S, us, y4, rfl, hS, hus, t2⟩
      refine ⟨_, rfl, S, rfl, ⟨_, SqL.of hS⟩, fun D nD => ?_⟩
      have sD := same_upd (o := .lst []) nD
      refine lc2_list (K := K) (a := S) (xs := us) (fun j H3 => ∃ ws, H3 D = some (.lst ws) ∧ TsAt H3 ws (((slotsL ms i).take j).flatMap (extO ms)) ∧ Same H2 H3) ?_ ?_ ?_ ?_
      · exact ⟨[], upd_same, by simpa using TsAt.nil, sD⟩
      · rintro j H3 _ ⟨ws, _, _, t3⟩
        exact SqL.of (t3 _ _ hS)
      · rintro j v H3 hv ⟨ws, hD, hws, t3⟩
        obtain ⟨a, s, rfl, es, hs⟩ := hus.get hv
        refine ⟨rfl, tyes ?_⟩
        refine ⟨by show 1 ≤ sizeLine; decide, fun b nb => ?_⟩
        have hm3 : (upd H3 b (.lst [V.int (-1)])) rm = some (.lst (ms.map V.int)) := (same_upd nb) _ _ (t3 _ _ (t2 _ _ hm))
        refine ⟨_, rfl, b, rm, _, _, rfl, rfl, upd_same, hm3, by rw [List.length_map]; show 1 + _ ≤ _; omega, fun R nR => ?_⟩
        have sR : Same H3 (upd (upd H3 b (.lst [V.int (-1)])) R (.lst ([V.int (-1)] ++ ms.map V.int))) := (same_upd nb).trans (same_upd nR)
        have eR : [V.int (-1)] ++ ms.map V.int = ((-1) :: ms).map V.int := rfl
        rw [eR] at sR ⊢
        have hR : (upd (upd H3 b (.lst [V.int (-1)])) R (.lst (((-1) :: ms).map V.int))) R = some (.lst (((-1) :: ms).map V.int)) := upd_same
        have nD3 : ∀ {c : Addr}, H3 c = none → c ≠ D := fun nc z => by
          rw [z, hD] at nc
          cases nc
        generalize upd (upd H3 b (.lst [V.int (-1)])) R (.lst (((-1) :: ms).map V.int)) = H4 at sR hR ⊢
        refine ⟨R, rfl, ⟨_, SqL.of hR⟩, ?_⟩
        have RD : R ≠ D := nD3 ((same_upd nb).free nR)
        have hs2 := hs.same t3
        have few3 : ∀ k l, k ≤ (slotsL ms i).length → ((((slotsL ms i).take j).flatMap (extO ms)) ++ ((((-1) :: ms).take l).filter fun o => decide (o = -1) || !decide (o ∈ s)).map fun o => s ++ [o]).length ≤ 100000 := fun k l _ => by
          have z1 := fewS (i + 1) (by omega)
          have e1 : slotsL ms (i + 1) = ((slotsL ms i).take j).flatMap (extO ms) ++ (extO ms s ++ ((slotsL ms i).drop (j + 1)).flatMap (extO ms)) := by
            show (slotsL ms i).flatMap (extO ms) = _
            rw [← List.append_assoc, ← flatMap_take es, ← List.flatMap_append, List.take_append_drop]
          rw [e1, List.length_append, List.length_append] at z1
          rw [List.length_append, List.length_map]
          have z2 : ((((-1) :: ms).take l).filter fun o => decide (o = -1) || !decide (o ∈ s)).length ≤ (extO ms s).length := by
            unfold extO nextO
            rw [List.length_map]
            exact ((List.take_sublist l _).filter _).length_le
          omega
        refine inn_list (K := K) (a := R) (xs := ((-1) :: ms).map V.int) (fun l H5 => ∃ ws, H5 D = some (.lst ws) ∧ TsAt H5 ws (((slotsL ms i).take j).flatMap (extO ms) ++ ((((-1) :: ms).take l).filter fun o => decide (o = -1) || !decide (o ∈ s)).map fun o => s ++ [o]) ∧ Same H2 H5 ∧ H5 R = some (.lst (((-1) :: ms).map V.int))) ?_ ?_ ?_ ?_
        · exact ⟨ws, sR _ _ hD, by simpa using hws.same sR, t3.trans sR, hR⟩
        · rintro l H5 _ ⟨_, _, _, _, hR5⟩
          exact SqL.of hR5
        · rintro l v H5 hv ⟨ws5, hD5, hws5, t5, hR5⟩
          rw [List.getElem?_map] at hv
          obtain ⟨o, eo, rfl⟩ := Option.map_eq_some_iff.mp hv
          have hs5 := hs.same t5
          refine ⟨rfl, ?_⟩
          have fin : (decide (o = -1) || !decide (o ∈ s)) = true → tOp rCatF (tVar 7) (tTupF (tCons (tVar 9) tNil)) [some (.ref rm), some (.int n), some (.str x), some (.ref S), some (.int (0 + i)), none, none, some (.ref a), none, some (.int o)] H5 fun y H7 => ∃ acc, H7 D = some (.lst acc) ∧ acc.length < sizeLine ∧
              ∃ ws, (upd H7 D (.lst (acc ++ [y]))) D = some (.lst ws) ∧ TsAt (upd H7 D (.lst (acc ++ [y]))) ws (((slotsL ms i).take j).flatMap (extO ms) ++ ((((-1) :: ms).take (l + 1)).filter fun o => decide (o = -1) || !decide (o ∈ s)).map fun o => s ++ [o]) ∧ Same H2 (upd H7 D (.lst (acc ++ [y]))) ∧ (upd H7 D (.lst (acc ++ [y]))) R = some (.lst (((-1) :: ms).map V.int)) := by
            intro z
            refine ⟨_, rfl, _, rfl, by show 1 ≤ sizeLine; decide, fun u H6 t6 nu pu => ?_⟩
            have sl : s.length = i := ((mem_slots nm).mp (List.mem_of_getElem? es)).1
            refine ⟨a, u, _, _, rfl, rfl, hs5.same t6, pu, ?_, fun y H7 t7 py => ?_⟩
            · rw [List.length_map]
              show _ + 1 ≤ _
              omega
            have py : PTup H7 y ((s ++ [o]).map V.int) := by
              rw [List.map_append]
              exact py
            have t57 := t6.trans t7
            have hD7 := t57 _ _ hD5
            have kD : KP H7 (upd H7 D (.lst (ws5 ++ [V.ref y]))) := KP.lst hD7
            have all := (hws5.same t57).app (.cons py .nil)
            have eT : ((((-1) :: ms).take (l + 1)).filter fun o => decide (o = -1) || !decide (o ∈ s)) = ((((-1) :: ms).take l).filter fun o => decide (o = -1) || !decide (o ∈ s)) ++ [o] := by
              rw [List.take_add_one, eo, List.filter_append]
              congr 1
              show [o].filter _ = [o]
              rw [List.filter_cons, if_pos z]
              rfl
            refine ⟨ws5, hD7, ?_, ws5 ++ [.ref y], upd_same, ?_, fun c o' ec => ?_, ?_⟩
            · have z3 := few3 j l (by have := (List.getElem?_eq_some_iff.mp es).1; omega)
              rw [← hws5.len] at z3
              omega
            · rw [eT, List.map_append, ← List.append_assoc]
              exact all.keep kD
            · rw [upd_ne (ne_of_none ec nD)]
              exact t57 _ _ (t5 _ _ ec)
            · rw [upd_ne RD]
              exact t57 _ _ hR5
          refine ⟨_, rfl, rfl, _, rfl, iteB (fun z => ?_) (fun z => ?_)⟩
          · have e1 : o = -1 := V.int.inj (of_decide_eq_true z)
            refine iteB (fun _ => fin (by simp [e1])) (fun z => absurd z (by decide))
          · have ne : o ≠ -1 := fun e => (of_decide_eq_false z) (by rw [e])
            refine ⟨_, rfl, _, rfl, a, _, rfl, .inr hs5.sq, rfl, flat_ints s, _, rfl, ?_⟩
            rw [show (if true = true then !inV (V.int o) (s.map V.int) else inV (V.int o) (s.map V.int)) = !decide (o ∈ s) by rw [if_pos rfl, in_ints]]
            refine iteB (fun z => fin (by rw [z, Bool.or_true])) (fun z => ?_)
            refine ⟨ws5, hD5, ?_, t5, hR5⟩
            have eT : ((((-1) :: ms).take (l + 1)).filter fun o => decide (o = -1) || !decide (o ∈ s)) = ((((-1) :: ms).take l).filter fun o => decide (o = -1) || !decide (o ∈ s)) := by
              rw [List.take_add_one, eo, List.filter_append]
              show _ ++ [o].filter _ = _
              rw [List.filter_cons, if_neg (by rw [z, decide_eq_false ne]; decide)]
              simp
            rw [eT]
            exact hws5
        · rintro H5 ⟨ws5, hD5, hws5, t5, _⟩
          rw [List.length_map, List.take_length] at hws5
          exact ⟨ws5, hD5, by rw [flatMap_take es]; exact hws5, t5⟩
      · rintro H3 ⟨ws, hD, hws, t3⟩
        rw [hus.len, List.take_length] at hws
        exact ⟨D, ws, _, rfl, hD, hws, t2.trans t3⟩
    · rintro σ H2 ⟨S, us, y4, rfl, hS, hus, t2⟩
      refine ⟨(by show 0 ≤ sizeLine; exact Nat.zero_le _), fun e0 H3 t3 n3 p3 => ⟨by show 1 ≤ sizeLine; decide, fun B0 nB => ?_⟩⟩
      have t4 : Same H2 (upd H3 B0 (.lst [.ref e0])) := t3.trans (same_upd nB)
      have b7 : 0 ≤ bitsN n x ∧ bitsN n x ≤ 7 := by
        have := kd.lo
        unfold bitsN
        split <;> omega
      refine ⟨_, rfl, _, rfl, (n : Int), x, rfl, bitsN n x, rfl, by omega, by omega, ?_⟩
      refine for_range (lo := 0) (n := (bitsN n x).toNat) (fun i σ H5 => ∃ (B : Addr) (bs : List V) (y6 : Option V), σ = [some (.ref rm), some (.int n), some (.str x), some (.ref S), y4, some (.ref B), y6, none, none, none] ∧ H5 B = some (.lst bs) ∧ TsAt H5 bs (bitsL i) ∧ Same H2 H5) ?_ ?_ ?_
      · exact ⟨B0, _, none, rfl, upd_same, .cons (p3.same (same_upd nB)) .nil, t4⟩
      · rintro i σ H5 hi ⟨B, bs, y6, rfl, hB, hbs, t5⟩
        refine ⟨_, rfl, B, rfl, ⟨_, SqL.of hB⟩, fun D nD => ?_⟩
        have sD := same_upd (o := .lst []) nD
        have bl : ∀ k, k ≤ 7 → (bitsL k).length ≤ 128 := fun k hk => by
          rw [bits_len]
          exact Nat.pow_le_pow_right (by decide) hk
        refine lc2_list (K := K) (a := B) (xs := bs) (fun j H6 => ∃ ws, H6 D = some (.lst ws) ∧ TsAt H6 ws (((bitsL i).take j).flatMap fun b => [b ++ [0], b ++ [1]]) ∧ Same H5 H6) ?_ ?_ ?_ ?_
        · exact ⟨[], upd_same, by simpa using TsAt.nil, sD⟩
        · rintro j H6 _ ⟨ws, _, _, t6⟩
          exact SqL.of (t6 _ _ hB)
        · rintro j v H6 hv ⟨ws, hD, hws, t6⟩
          obtain ⟨a, s, rfl, es, hs⟩ := hbs.get hv
          refine ⟨rfl, tyes ?_⟩
          refine ⟨by show 2 ≤ sizeLine; decide, fun tt H7 t7 ntt ptt => ?_⟩
          refine ⟨tt, rfl, ⟨_, ptt.sq⟩, ?_⟩
          have sl : s.length = i := (mem_bits.mp (List.mem_of_getElem? es)).1
          have f4 : (((bitsL i).take j).flatMap fun b => [b ++ [0], b ++ [(1 : Int)]]).length + 2 ≤ 256 := by
            have z1 := bl (i + 1) (by omega)
            have e1 : bitsL (i + 1) = ((bitsL i).take j).flatMap (fun b => [b ++ [0], b ++ [1]]) ++ ([s ++ [0], s ++ [1]] ++ ((bitsL i).drop (j + 1)).flatMap fun b => [b ++ [0], b ++ [1]]) := by
              show (bitsL i).flatMap _ = _
              rw [← List.append_assoc, ← flatMap_take (f := fun b => [b ++ [0], b ++ [(1 : Int)]]) es, ← List.flatMap_append, List.take_append_drop]
            rw [e1, List.length_append, List.length_append] at z1
            have z2 : [s ++ [0], s ++ [(1 : Int)]].length = 2 := rfl
            omega
          refine inn_tup (K := K) (a := tt) (xs := [V.int 0, V.int 1]) (fun l H8 => ∃ ws, H8 D = some (.lst ws) ∧ TsAt H8 ws (((bitsL i).take j).flatMap (fun b => [b ++ [0], b ++ [1]]) ++ [s ++ [0], s ++ [1]].take l) ∧ Same H5 H8 ∧ PTup H8 tt [V.int 0, V.int 1]) ?_ ?_ ?_ ?_
          · exact ⟨ws, t7 _ _ hD, by simpa using hws.same t7, t6.trans t7, ptt⟩
          · rintro l H8 _ ⟨_, _, _, _, p8⟩
            exact p8.sq
          · rintro l v H8 hv ⟨ws8, hD8, hws8, t8, p8⟩
            obtain ⟨o, rfl, el⟩ : ∃ o : Int, v = .int o ∧ [s ++ [0], s ++ [1]][l]? = some (s ++ [o]) := by
              match l, hv with
              | 0, hv => exact ⟨0, by cases hv; rfl, rfl⟩
              | 1, hv => exact ⟨1, by cases hv; rfl, rfl⟩
            refine ⟨rfl, tyes ?_⟩
            have hs8 := hs.same t8
            refine ⟨_, rfl, _, rfl, by show 1 ≤ sizeLine; decide, fun u H9 t9 nu pu => ?_⟩
            refine ⟨a, u, _, _, rfl, rfl, hs8.same t9, pu, ?_, fun y H10 t10 py => ?_⟩
            · rw [List.length_map]
              show _ + 1 ≤ _
              omega
            have py : PTup H10 y ((s ++ [o]).map V.int) := by
              rw [List.map_append]
              exact py
            have t810 := t9.trans t10
            have hD10 := t810 _ _ hD8
            have kD : KP H10 (upd H10 D (.lst (ws8 ++ [V.ref y]))) := KP.lst hD10
            refine ⟨ws8, hD10, ?_, ws8 ++ [.ref y], upd_same, ?_, fun c o' ec => ?_, kD.p _ _ (p8.same t810)⟩
            · rw [hws8.len, List.length_append]
              have : ([s ++ [0], s ++ [(1 : Int)]].take l).length ≤ 2 := List.length_take_le' _ _
              omega
            · rw [List.take_add_one, el, ← List.append_assoc]
              exact ((hws8.same t810).app (.cons py .nil)).keep kD
            · rw [upd_ne (ne_of_none ec nD)]
              exact t810 _ _ (t8 _ _ ec)
          · rintro H8 ⟨ws8, hD8, hws8, t8, _⟩
            exact ⟨ws8, hD8, by rw [flatMap_take (f := fun b => [b ++ [0], b ++ [(1 : Int)]]) es]; exact hws8, t8⟩
        · rintro H6 ⟨ws, hD, hws, t6⟩
          rw [hbs.len, List.take_length] at hws
          exact ⟨D, ws, _, rfl, hD, hws, t5.trans t6⟩
      · rintro σ H5 ⟨B, bs, y6, rfl, hB, hbs, t5⟩
        refine ⟨_, rfl, S, rfl, ⟨_, SqL.of (t5 _ _ hS)⟩, fun D nD => ?_⟩
        have hS5 := t5 _ _ hS
        have hus5 := hus.same t5
        have sD := same_upd (o := .lst []) nD
        refine lc2_list (K := K) (a := S) (xs := us) (fun j H6 => ∃ ws, H6 D = some (.lst ws) ∧ LsAt H6 ws (((slotsL ms n).take j).flatMap fun s => (bitsL (bitsN n x).toNat).map fun b => (s, b)) ∧ Same H5 H6) ?_ ?_ ?_ ?_
        · exact ⟨[], upd_same, by simpa using LsAt.nil, sD⟩
        · rintro j H6 _ ⟨ws, _, _, t6⟩
          exact SqL.of (t6 _ _ hS5)
        · rintro j v H6 hv ⟨ws, hD, hws, t6⟩
          obtain ⟨a, s, rfl, es, hs⟩ := hus5.get hv
          refine ⟨rfl, tyes ?_⟩
          have hB6 := t6 _ _ hB
          refine ⟨_, rfl, B, rfl, ⟨_, SqL.of hB6⟩, ?_⟩
          have f4 : ∀ l, (((slotsL ms n).take j).flatMap fun s => (bitsL (bitsN n x).toNat).map fun b => (s, b)).length + (((bitsL (bitsN n x).toNat).take l).map fun b => (s, b)).length ≤ 100000 := fun l => by
            have z1 := few
            rw [← lays_len nm nd] at z1
            have e1 : laysL ms n (bitsN n x).toNat = ((slotsL ms n).take j).flatMap (fun s => (bitsL (bitsN n x).toNat).map fun b => (s, b)) ++ ((bitsL (bitsN n x).toNat).map (fun b => (s, b)) ++ ((slotsL ms n).drop (j + 1)).flatMap fun s => (bitsL (bitsN n x).toNat).map fun b => (s, b)) := by
              show (slotsL ms n).flatMap _ = _
              rw [← List.append_assoc, ← flatMap_take (f := fun s => (bitsL (bitsN n x).toNat).map fun b => (s, b)) es, ← List.flatMap_append, List.take_append_drop]
            rw [e1, List.length_append, List.length_append] at z1
            have z2 : (((bitsL (bitsN n x).toNat).take l).map fun b => (s, b)).length ≤ ((bitsL (bitsN n x).toNat).map fun b => (s, b)).length := by
              rw [List.length_map, List.length_map]
              exact (List.take_sublist l _).length_le
            omega
          refine inn_list (K := K) (a := B) (xs := bs) (fun l H8 => ∃ ws, H8 D = some (.lst ws) ∧ LsAt H8 ws (((slotsL ms n).take j).flatMap (fun s => (bitsL (bitsN n x).toNat).map fun b => (s, b)) ++ ((bitsL (bitsN n x).toNat).take l).map fun b => (s, b)) ∧ Same H5 H8) ?_ ?_ ?_ ?_
          · exact ⟨ws, hD, by simpa using hws, t6⟩
          · rintro l H8 _ ⟨_, _, _, t8⟩
            exact SqL.of (t8 _ _ hB)
          · rintro l v H8 hv ⟨ws8, hD8, hws8, t8⟩
            obtain ⟨bq, b, rfl, eb, hb⟩ := hbs.get hv
            refine ⟨rfl, tyes ?_⟩
            refine ⟨_, rfl, _, rfl, by show 2 ≤ sizeLine; decide, fun y H9 t9 ny py => ?_⟩
            have hD9 := t9 _ _ hD8
            have kD : KP H9 (upd H9 D (.lst (ws8 ++ [V.ref y]))) := KP.lst hD9
            have la : LayAt H9 y s b := ⟨a, bq, py, (hs.same t8).same t9, (hb.same t8).same t9⟩
            refine ⟨ws8, hD9, ?_, ws8 ++ [.ref y], upd_same, ?_, fun c o' ec => ?_⟩
            · have := f4 l
              rw [hws8.len, List.length_append]
              omega
            · rw [List.take_add_one, eb, List.map_append, ← List.append_assoc]
              exact ((hws8.same t9).app (.cons (p := (s, b)) la .nil)).keep kD
            · rw [upd_ne (ne_of_none ec nD)]
              exact t9 _ _ (t8 _ _ ec)
          · rintro H8 ⟨ws8, hD8, hws8, t8⟩
            rw [hbs.len, List.take_length] at hws8
            exact ⟨ws8, hD8, by rw [flatMap_take (f := fun s => (bitsL (bitsN n x).toNat).map fun b => (s, b)) es]; exact hws8, t8⟩
        · rintro H6 ⟨ws, hD, hws, t6⟩
          rw [hus5.len, List.take_length] at hws
          exact q D ws H6 ((t2.trans t5).trans t6) (t2.free (t5.free nD)) hD hws
end
end Su
/-! ### LW: lays as states -/
namespace Su
open PySem PySem.Spec PyProof.Rows L2
abbrev Ly := List Int × List Int
def layK (p : Ly) : NestedKey := .tup [.tup (p.1.map NestedKey.num), .tup (p.2.map NestedKey.num)]
def numsOf (ks : List NestedKey) : List Int := ks.map fun k => match k with | .num i => i | _ => 0
def unlay : NestedKey → Ly
  | .tup [.tup a, .tup b] => (numsOf a, numsOf b)
  | _ => ([], [])
theorem nums_of (l : List Int) : numsOf (l.map NestedKey.num) = l := by
  unfold numsOf
  rw [List.map_map]
  exact List.map_id'' (fun _ => rfl) l
theorem unlay_lay (p : Ly) : unlay (layK p) = p := by
  show (numsOf (p.1.map NestedKey.num), numsOf (p.2.map NestedKey.num)) = p
  rw [nums_of, nums_of]
theorem layK_inj {p q : Ly} (h : layK p = layK q) : p = q := by rw [← unlay_lay p, h, unlay_lay]
theorem depth_nums (l : List Int) : NestedKey.depthAll (l.map NestedKey.num) = 0 := by
  induction l with
  | nil => rfl
  | cons x l ih =>
    show max 0 _ = 0
    rw [ih]
    rfl
theorem layK_depth (p : Ly) : (layK p).depth ≤ 6 := by
  show max (NestedKey.depth (.tup _)) (max (NestedKey.depth (.tup _)) 0) + 1 ≤ 6
  show max (NestedKey.depthAll _ + 1) (max (NestedKey.depthAll _ + 1) 0) + 1 ≤ 6
  rw [depth_nums, depth_nums]
  decide
theorem LayAt.key {H : Hp} {u : Addr} {p : Ly} (h : LayAt H u p.1 p.2) : KeyV H (layK p) (.ref u) := by
  obtain ⟨a, b, h1, h2, h3⟩ := h
  exact .tup (.inl h1) (.cons (.tup (.inl h2) (KeyVs.ints _)) (.cons (.tup (.inl h3) (KeyVs.ints _)) .nil))
/-- lays as values -/
def layV : SV where
  at_ := fun H s v => ∃ (p : Ly) (u : Addr), s = layK p ∧ v = .ref u ∧ LayAt H u p.1 p.2
  key := by
    rintro H s v ⟨p, u, rfl, rfl, h⟩
    exact h.key
  keep := by
    rintro H H' s v k ⟨p, u, rfl, rfl, h⟩
    exact ⟨p, u, rfl, rfl, h.kp k⟩
def laySys (rs : List Rw) (ms : List Int) (n : Nat) (x : Str) : Sys where
  rs := rs
  bh := fun s k => layK (askF x (unlay s).1 (unlay s).2 k)
  ss := (laysL ms n (bitsN n x).toNat).map layK
  ok := fun s => ∃ p ∈ laysL ms n (bitsN n x).toNat, s = layK p
theorem SlotOk.slots {ms s : List Int} (hm : ∀ x ∈ ms, 0 ≤ x ∧ x ≤ 99) (h : SlotOk ms s) : Slots s.length s := by
  refine ⟨rfl, fun x hx => ?_, fun v hv => ?_⟩
  · rcases h.mem x hx with e | e
    · omega
    · have := hm x e
      omega
  · have c := List.nodup_iff_count.mp h.one v
    rw [List.count_filter (by simp [hv])] at c
    exact c
theorem slotOk_of {ms s : List Int} {n : Nat} (h : Slots n s) (hm : ∀ x ∈ s, x = -1 ∨ x ∈ ms) : SlotOk ms s := by
  refine ⟨hm, List.nodup_iff_count.mpr fun v => ?_⟩
  by_cases e : v = -1
  · subst e
    refine Nat.le_trans (Nat.le_of_eq (List.count_eq_zero.mpr fun hx => ?_)) (Nat.zero_le 1)
    have := (List.mem_filter.mp hx).2
    simp at this
  · rw [List.count_filter (by simp [e])]
    exact h.one v e
theorem putF_mem {xs : List Int} {r x : Int} (h : x ∈ putF xs r) : x = r ∨ x ∈ xs := by
  unfold putF at h
  rcases List.mem_cons.mp h with h | h
  · exact .inl h
  · rcases List.mem_append.mp h with h | h
    · exact .inr (List.mem_of_mem_take h)
    · exact .inr (List.mem_of_mem_drop h)
theorem putAt_mem {xs : List Int} {s : Nat} {r x : Int} (h : x ∈ putAt xs s r) : x = r ∨ x ∈ xs := by
  unfold putAt at h
  rcases List.mem_append.mp h with h | h
  · rcases List.mem_append.mp h with h | h
    · exact .inr (List.mem_of_mem_take h)
    · exact .inl (List.mem_singleton.mp h)
  · exact .inr (List.mem_of_mem_drop h)
theorem askF_mem {way : Str} {xs bs : List Int} {r x : Int} (h : x ∈ (askF way xs bs r).1) : x = r ∨ x ∈ xs := by
  unfold askF at h
  split at h
  · exact putAt_mem h
  · split at h
    · exact .inr h
    · exact putF_mem h
/-- what holds of lays of the web -/
theorem layOk_of {ms : List Int} {n : Nat} {x : Str} (hm : ∀ z ∈ ms, 0 ≤ z ∧ z ≤ 99) (kd : Kind n x) {p : Ly} (h : p ∈ laysL ms n (bitsN n x).toNat) : LayOk x n p.1 p.2 := by
  have nm : (-1 : Int) ∉ ms := fun z => by
    have := hm _ z
    omega
  obtain ⟨⟨h1, h2⟩, h3, h4⟩ := (mem_lays nm).mp h
  have hs := h2.slots hm
  rw [h1] at hs
  have l1 := kd.lo
  have l2 := kd.hi
  refine ⟨hs, by omega, by omega, fun e => ?_, fun e => ?_⟩
  · unfold bitsN at h3
    rw [if_pos e] at h3
    have := kd.tree e
    exact ⟨by omega, ⟨by omega, h4⟩⟩
  · unfold bitsN at h3
    rw [if_neg e] at h3
    exact List.eq_nil_of_length_eq_zero h3
theorem lays_ask {ms : List Int} {n : Nat} {x : Str} (hm : ∀ z ∈ ms, 0 ≤ z ∧ z ≤ 99) (kd : Kind n x) {p : Ly} (h : p ∈ laysL ms n (bitsN n x).toNat) {r : Int} (hr : r ∈ ms) : askF x p.1 p.2 r ∈ laysL ms n (bitsN n x).toNat := by
  have nm : (-1 : Int) ∉ ms := fun z => by
    have := hm _ z
    omega
  have ok := layOk_of hm kd h
  have rr := hm r hr
  obtain ⟨⟨h1, h2⟩, h3, h4⟩ := (mem_lays nm).mp h
  have ok2 := ok.ask (r := r) rr.1 (by omega)
  refine (mem_lays nm).mpr ⟨⟨ok2.sl.len, slotOk_of ok2.sl fun z hz => ?_⟩, ?_, ?_⟩
  · rcases askF_mem hz with e | e
    · rw [e]
      exact .inr hr
    · exact h2.mem z e
  · unfold bitsN
    split
    · rename_i e
      have := (ok2.tr e).bt.len
      omega
    · rename_i e
      rw [ok2.no e]
      rfl
  · by_cases e : x = "tree"
    · exact (ok2.tr e).bt.rng
    · rw [ok2.no e]
      exact fun z hz => nomatch hz
theorem few_pk {Y : Sys} {ps : List Ly} (hok : ∀ s, Y.ok s ↔ ∃ p ∈ ps, s = layK p) {l : List PK} (nd : l.Nodup) (h : ∀ q ∈ l, q.1 < Y.rs.length ∧ Y.ok q.2) : l.length ≤ Y.rs.length * ps.length := by
  have sub : l ⊆ (List.range Y.rs.length).flatMap fun i => ps.map fun p => ((i, layK p) : PK) := fun q hq => by
    obtain ⟨h1, h2⟩ := h q hq
    obtain ⟨p, hp, e⟩ := (hok _).mp h2
    exact List.mem_flatMap.mpr ⟨q.1, List.mem_range.mpr h1, List.mem_map.mpr ⟨p, hp, Prod.ext rfl e.symm⟩⟩
  refine Nat.le_trans (nd.length_le_of_subset sub) (Nat.le_of_eq ?_)
  have : ∀ k, ((List.range k).flatMap fun i => ps.map fun p => ((i, layK p) : PK)).length = k * ps.length := fun k => by
    induction k with
    | zero => simp
    | succ k ih => rw [List.range_succ, List.flatMap_append, List.length_append, ih, Nat.add_mul, Nat.one_mul]; simp
  exact this _
end Su
/-! ### LZ: the lays with which runs come to rows, the program's -/
namespace Su
open PySem PySem.Spec PyProof.Rows L2 LamX
/-- a def in which lambdas are made, and its code object -/
structure AtC (K : PySem.W.Frag) (mg : Str → Option Value) (x : Str) (st : Stmt) (ps : List Str) (c : Addr) : Prop where
  ex : ∃ (f : Addr) (oc kV doc pm ct : Value) (od an : Option Addr) (osl : Array (Option Value)), K.lookup f = some ⟨oc, od, .func (PySem.W.fnOf x x (defArgs st) (defBody st) (defScope st) .none kV doc pm an (.ref c) ct), osl⟩ ∧ PySem.W.codeIn K (.ref c) x = true ∧ PySem.W.keepIn K (.ref f) = true ∧
    mg x = some (.ref f) ∧ Binds K (PySem.W.fnOf x x (defArgs st) (defBody st) (defScope st) .none kV doc pm an (.ref c) ct) ps []
section
variable {P : Program} {w : World} {K : PySem.W.Frag} {mg : Str → Option Value} {base : Heap}
theorem cal_ofC {x : Str} {st : Stmt} {N ps : List Str} {c : Addr} {k : Nat} {sp : Sp} (T : AtC K mg x st ps c) (S : FnScope N ps (defScope st)) (len : ∀ vs H Q E, sp vs H Q E → vs.length = ps.length)
    (hb : ∀ (f : Addr) (A : Around) (outer : List Env) (s : Shared) (H : Hp) (vs : List V) (Q : VK) (E : XK), Room k (A.deeper (envOfC x (defScope st) s.heap.objs.size f (.ref c))) → sp vs H Q E →
      ∃ t, PSs (cxOf CX0 P w K mg base N x (defScope st) f (.ref c) A outer s H E).nox (defBody st) t ∧ t { nx := fun _ H' => Q .non H', rt := Q } (start N vs) H) : Cal P w K mg base (k + 1) x ps sp := by
  obtain ⟨f, oc, kV, doc, pm, ct, od, an, osl, lk, hcd, kp, hm, b⟩ := T.ex
  refine ⟨f, _, ⟨len, fun A outer s H args us vs Q E hr e0 hbi rv hs => ?_⟩, hm, kp, b, _, lk, rfl⟩
  refine run_ofS (N := N) lk hcd S hr e0 hbi rv (len _ _ _ _ hs) fun hr' => ?_
  obtain ⟨t, ht, hq⟩ := hb f A outer s H vs Q E hr' hs
  exact ⟨t, ht.nox, hq⟩
end
/-- the tables of code objects, one for each def in which lambdas are made -/
structure TabT (base : Heap) (mg : Str → Option Value) (T : List (Addr × Str)) (c P : Addr) (q : Str) : Prop where
  tb : TabB base mg c P
  mem : (P, q) ∈ T
  uni : ∀ p ∈ T, p.1 = P → p.2 = q
def qLam (x : Str) : Str := x ++ ".<locals>." ++ "<lambda>"
/-- what is asked of a web and a kind for lays to be gone through -/
structure LayIn (rs : List Rw) (n : Nat) (x : Str) (ms : List Int) : Prop where
  web : WebOk rs
  kd : Kind n x
  so : ms.Pairwise (· < ·)
  all : ∀ k : Int, k ∈ ms ↔ k ∈ allRooms rs
  few : rs.length * (cntS n ms.length * 2 ^ (bitsN n x).toNat) ≤ 20000
theorem room_rg {rs : List Rw} (h : ∀ r ∈ rs, RowOk rs.length r) {k : Int} (hk : k ∈ allRooms rs) : 0 ≤ k ∧ k ≤ 99 := by
  unfold allRooms at hk
  obtain ⟨l, hl, hk⟩ := List.mem_flatten.mp hk
  obtain ⟨r, hr, rfl⟩ := List.mem_map.mp hl
  exact ⟨(h r hr).rooms.lo k hk, (h r hr).rooms.hi k hk⟩
theorem LayIn.rg {rs : List Rw} {n : Nat} {x : Str} {ms : List Int} (h : LayIn rs n x ms) : ∀ z ∈ ms, 0 ≤ z ∧ z ≤ 99 := fun z hz => room_rg h.web.row ((h.all z).mp hz)
theorem LayIn.nm {rs : List Rw} {n : Nat} {x : Str} {ms : List Int} (h : LayIn rs n x ms) : (-1 : Int) ∉ ms := fun z => by
  have := h.rg _ z
  omega
theorem LayIn.nd {rs : List Rw} {n : Nat} {x : Str} {ms : List Int} (h : LayIn rs n x ms) : ms.Nodup := h.so.imp fun h => Int.ne_of_lt h
theorem LayIn.m12 {rs : List Rw} {n : Nat} {x : Str} {ms : List Int} (h : LayIn rs n x ms) : ms.length ≤ 12 := by
  obtain ⟨A, hA, hin⟩ := h.web.all
  have := nodup_few (S := A) h.nd fun k hk => hin k ((h.all k).mp hk)
  omega
theorem pw_same {a b : List Int} (ha : a.Pairwise (· < ·)) (hb : b.Pairwise (· < ·)) (h : ∀ k, k ∈ a ↔ k ∈ b) : a = b := by
  have pm : a.Perm b := (List.perm_ext_iff_of_nodup (ha.imp fun h => Int.ne_of_lt h) (hb.imp fun h => Int.ne_of_lt h)).mpr h
  exact pm.eq_of_pairwise (fun x y _ _ h1 h2 => by omega) ha hb
/-- new, but for tables of code objects -/
def NewN (H : Hp) (C : Addr) : Prop := ∀ o, H C = some o → ∃ ps, o = .tbl ps
theorem NewN.ne {H : Hp} {C a : Addr} {o : HO} (h : NewN H C) (e : H a = some o) (n : ∀ ps, o ≠ .tbl ps) : a ≠ C := fun z => by
  subst z
  obtain ⟨ps, r⟩ := h o e
  exact n ps r
theorem NewN.of {H : Hp} {C : Addr} (h : H C = none) : NewN H C := fun o e => by
  rw [h] at e
  cases e
theorem KP.ext {H H' : Hp} (e : ExtN H H') : KP H H' := by
  refine ⟨fun a xs ⟨ob, h, d⟩ => ⟨ob, e _ _ h (fun _ z => nomatch z), d⟩, fun a xs h => ?_⟩
  rcases h with ⟨ob, h, d⟩ | h
  · exact .inl ⟨ob, e _ _ h (fun _ z => nomatch z), d⟩
  · exact .inr (e _ _ h (fun _ z => nomatch z))
theorem WebAt.ext {H H' : Hp} {p : Addr} {rs : List Rw} (h : WebAt H p rs) (e : ExtN H H') : WebAt H' p rs := by
  obtain ⟨ws, h1, h2⟩ := h
  exact ⟨ws, e _ _ h1 (fun _ z => nomatch z), h2.keep (KP.ext e).k⟩
theorem lsv_of {H : Hp} : ∀ {vs : List V} {ps : List Ly}, LsAt H vs ps → SVs layV H (ps.map layK) vs
  | _, _, .nil => .nil
  | _, _, .cons h t => .cons ⟨_, _, rfl, rfl, h⟩ (lsv_of t)
theorem came_few {rs : List Rw} {n : Nat} {x : Str} {ms : List Int} (h : LayIn rs n x ms) {cs : List CE} (c : Came (laySys rs ms n x) cs) : cs.length ≤ 20000 := by
  have hb : ∀ s, (laySys rs ms n x).ok s ↔ ∃ p ∈ laysL ms n (bitsN n x).toNat, s = layK p := fun s => Iff.rfl
  have := few_pk hb c.nd fun q hq => by
    obtain ⟨e, he, rfl⟩ := List.mem_map.mp hq
    exact c.ok e he
  rw [lays_len h.nm h.nd, List.length_map] at this
  exact Nat.le_trans this h.few
def spCome (w : World) (T : List (Addr × Str)) : Sp := fun vs H Q _ => ∃ (p : Addr) (rs : List Rw) (n : Nat) (x : Str) (ms : List Int), vs = [.ref p, .int n, .str x] ∧ WebAt H p rs ∧ LayIn rs n x ms ∧ Tabs T H ∧
  ∀ C H' xs, ExtN H H' → (∀ u, Tabs T (upd H' C u)) → NewN H C → ND w H' C (kvsX xs) → (∀ x ∈ xs, XAt layV H' x) → Came (laySys rs ms n x) (xs.map (·.e)) → Q (.ref C) H'
theorem sc_lays_come : FnScope ["web", "size", "way"] ["web", "size", "way"] (defScope s_lays_come) := ⟨rfl, rfl, rfl, by decide +kernel, rfl, by decide +kernel, by decide +kernel⟩
section
variable {P : Program} {w : World} {K : PySem.W.Frag} {mg : Str → Option Value} {base : Heap}
theorem ok_come {T : List (Addr × Str)} {c PT : Addr} (TC : AtC K mg "lays_come" s_lays_come ["web", "size", "way"] c) (TT : TabT base mg T c PT (qLam "lays_come")) (c_all_states : CalA P w K mg base 7 6 "all_states" ["web", "starts", "behind", "most"] [.non] (spStates w))
    (c_all_lays : Cal P w K mg base 2 "all_lays" ["rooms", "size", "way"] spAllLays) (c_rooms_in : Cal P w K mg base 1 "rooms_in" ["rows"] (spRoomsIn w)) (c_asked : Cal P w K mg base 3 "asked" ["lay", "room", "way"] spAsked) : Cal P w K mg base 8 "lays_come" ["web", "size", "way"] (spCome w T) := by
  refine cal_ofC TC sc_lays_come (fun vs H Q E h => ?_) (fun f A outer s H vs Q E hr h => ?_)
  · obtain ⟨p, rs, n, x, ms, rfl, _⟩ := h
    rfl
  · obtain ⟨p, rs, n, x, ms, rfl, hw, hl, hT, q⟩ := h
    refine ⟨_, (pss_one (ps_ret (pe_ownL 0 (cs := [("way", 2)]) (ps := ["lay", "room"]) c_all_states hr (by decide) (by rfl) (by decide) (pv 0) (pe_own c_all_lays hr (by decide) (by rfl) (pa_cons (pe_own c_rooms_in hr (by decide) (by rfl) (pa_cons (pv 0) pa_nil)) (pa_cons (pv 1) (pa_cons (pv 2) pa_nil)))) TT.tb rfl TT.mem TT.uni (lamP_by (sc := defScope s_lays_come) (N := ["web", "size", "way"]) (by decide +kernel)) rfl (fun _ _ _ _ us hl => match us, hl with | [_, _], _ => rfl) (fun A outer s H f c hr => (pe_ix (show IxR _ (rIxT K) from ix_tup) (pe_own c_asked hr (by decide) (by rfl) (pa_cons (pv 0) (pa_cons (pv 1) (pa_cons (pv 2) pa_nil)))) pe_int (fun _ _ => rfl)))))), ?_⟩
    have hA := hl.web.all
    obtain ⟨A, hA, hin⟩ := hA
    refine ⟨_, rfl, _, rfl, p, rs, A, rfl, hw, by omega, hin, fun ms2 u H2 pw mem t2 nu hu => ?_⟩
    have em : ms2 = ms := pw_same pw hl.so fun k => (mem k).trans (hl.all k).symm
    subst em
    have few := hl.few
    have pos := hl.web.pos
    have few1 : cntS n ms2.length * 2 ^ (bitsN n x).toNat ≤ 100000 := by
      have := Nat.le_mul_of_pos_left (cntS n ms2.length * 2 ^ (bitsN n x).toNat) pos
      omega
    refine ⟨_, rfl, _, rfl, u, ms2, n, x, rfl, hu, hl.kd, hl.m12, hl.nm, hl.nd, few1, fun L us H3 t3 nL hL hls => ?_⟩
    have t13 := t2.trans t3
    refine ⟨hT.ext fun b o e => t13 _ _ e, fun f c' H4 eN T4 hco => ?_⟩
    have k34 := KP.ext eN
    have hb : ∀ s, (laySys rs ms2 n x).ok s ↔ ∃ p ∈ laysL ms2 n (bitsN n x).toNat, s = layK p := fun s => Iff.rfl
    have cl : ∀ s r k, (laySys rs ms2 n x).ok s → r ∈ rs → k ∈ r.1 → (laySys rs ms2 n x).ok ((laySys rs ms2 n x).bh s k) := by
      rintro s r k ⟨l, hl2, rfl⟩ hr2 hk
      refine ⟨_, lays_ask hl.rg hl.kd hl2 ((hl.all k).mpr ?_), ?_⟩
      · exact List.mem_flatten.mpr ⟨r.1, List.mem_map.mpr ⟨r, hr2, rfl⟩, hk⟩
      · show layK (askF x (unlay (layK l)).1 (unlay (layK l)).2 k) = _
        rw [unlay_lay]
    have fewP : ∀ l : List PK, l.Nodup → (∀ q ∈ l, q.1 < rs.length ∧ (laySys rs ms2 n x).ok q.2) → l.length ≤ 20000 := fun l nd h => by
      have := few_pk hb nd h
      rw [lays_len hl.nm hl.nd] at this
      exact Nat.le_trans this few
    refine ⟨layV, p, L, laySys rs ms2 n x, us, 20000, rfl, ⟨?_, hl.web.row, pos, hl.web.few, ⟨us, eN _ _ hL (fun _ z => nomatch z), ?_, rfl⟩, ?_, ?_, ?_, cl, fewP, by omega, fun l nd h => fewP l nd fun q hq => ?_, fun H' e => e _ _ hco, ?_⟩, fun C H' xs t5 nC nd xa came => ?_⟩
    · exact (hw.same t13).ext eN
    · exact lsv_of (hls.keep k34)
    · exact nodup_map (nodup_lays hl.nm hl.nd _ _) fun a _ b _ e => layK_inj e
    · intro s hs
      obtain ⟨l, hl2, rfl⟩ := List.mem_map.mp hs
      exact ⟨l, hl2, rfl⟩
    · rintro s ⟨l, _, rfl⟩
      exact layK_depth l
    · obtain ⟨s, r, a, ok, er, ha, e⟩ := h q hq
      refine ⟨(List.getElem?_eq_some_iff.mp er).1, ?_⟩
      rw [e]
      cases a with
      | none => exact ok
      | some k =>
        refine cl _ r k ok (List.mem_of_getElem? er) ?_
        unfold asksL at ha
        split at ha
        · simp at ha
        · obtain ⟨k2, hk2, e2⟩ := List.mem_map.mp ha
          cases e2
          exact hk2
    · rintro H1 t1 s k v r Q' ⟨l, hl2, rfl⟩ hr2 hk ⟨l', u', e, rfl, hla⟩ hq
      have e := layK_inj e
      subst e
      have ok := layOk_of hl.rg hl.kd hl2
      refine ⟨rfl, _, rfl, _, rfl, _, rfl, u', l.1, l.2, k, x, rfl, hla, fun e => ?_, ?_, ?_, fun v' H2 t2 ans => ?_⟩
      · rw [ok.sl.len]
        exact ok.tr e
      · rw [ok.sl.len]
        exact ok.pos
      · rw [ok.sl.len]
        exact ok.few
      · obtain ⟨b, pv, lb⟩ := ans
        refine ⟨v', _, _, _, rfl, rfl, pv.sq, atI_nat (j := 0) rfl, hq _ H2 t2 ⟨askF x l.1 l.2 k, b, ?_, rfl, lb⟩⟩
        show layK (askF x (unlay (layK l)).1 (unlay (layK l)).2 k) = _
        rw [unlay_lay]
    · refine q C H' xs ((ExtN.of t13).trans (eN.trans (ExtN.of t5))) (fun u => T4.ext fun b o e => by rw [upd_ne (ne_of_none e nC)]; exact t5 _ _ e) (fun o ho => ?_) nd xa came
      refine Classical.byContradiction fun z => ?_
      have e4 := eN _ _ (t13 _ _ ho) fun ps e => z ⟨ps, e⟩
      rw [nC] at e4
      cases e4
end
end Su
/-! ### ND4: a walk over a dict that is locked as the walk begins (and stays so) -/
namespace Su
open PySem PySem.Spec PyProof.Rows L2
def iNKeysL (w : World) (td : TE) : TI := fun σ H R => td σ H fun x H1 => ∃ (d : Addr) (kvs : List NEnt) (u : HO), x = .ref d ∧ ND w H1 d kvs ∧ H1 d = some u ∧ ∀ od, NDL w (L2.upd H1 d (.frz od u)) d od kvs → R (Itn w d od kvs) (L2.upd H1 d (.frz od u))
theorem pi_nkeysL {X : Cx} {tg e : Expr} {td : TE} (he : PE X e td) : PI X tg e (iNKeysL X.w td) := by
  refine ⟨fun pins s σ H R I h => ?_⟩
  refine thn (he.run pins s σ H _ I h) fun u s1 ⟨x, H1, I1, rx, d, kvs, o, ex, hd, hu, q⟩ => ?_
  subst ex
  obtain rfl : u = Value.ref d := rx
  have mu : Mut (some o) := by
    rcases hd.at_ with e | ⟨_, e⟩
    · rw [hu] at e
      cases e
      trivial
    · rw [hu] at e
      cases e
      trivial
  obtain ⟨od, I2⟩ := I1.lock hu mu
  have hl : NDL X.w (L2.upd H1 d (.frz od o)) d od kvs := by
    rcases hd.at_ with e | ⟨z, e⟩
    · rw [hu] at e
      cases e
      exact .inl upd_same
    · rw [hu] at e
      cases e
      exact .inr ⟨z, upd_same⟩
  obtain ⟨hgd, hx, es, ep, hdt, hsz, ent⟩ := inv_frzN I2 hl
  refine iter_keys hd.low hgd hx hdt (pi_one (tk := s1.toks) I2 _ (turn_keysN _ hdt) ⟨_, Heap.get?_push_size _ rfl, rfl, ?_⟩ (q od hl))
  rw [hsz] <;> rfl
theorem ND.kpL {w : World} {H : Hp} {a : Addr} {kvs : List NEnt} (d : ND w H a kvs) (u : HO) : K2 H (L2.upd H a u) := d.k2 u
end Su
/-! ### LF: what stays beside some lists; lists of lists; a row's states -/
namespace Su
open PySem PySem.Spec PyProof.Rows L2
open LamX hiding takes0
/-- the lays with which runs come to the row -/
def rowE (cs : List CE) (i : Nat) : List NestedKey := (cs.filter fun e => decide (e.row = i)).map CE.st
/-- all but what stands at these stays -/
def FrL (ins : List Addr) (H1 H2 : Hp) : Prop := ∀ c o, H1 c = some o → c ∉ ins → H2 c = some o
theorem FrL.refl (ins : List Addr) (H : Hp) : FrL ins H H := fun _ _ e _ => e
theorem FrL.same {ins : List Addr} {H1 H2 H3 : Hp} (h : FrL ins H1 H2) (s : Same H2 H3) : FrL ins H1 H3 := fun c o e n => s _ _ (h c o e n)
theorem FrL.upd {ins : List Addr} {H1 H2 : Hp} (h : FrL ins H1 H2) {a : Addr} (ha : a ∈ ins) (o : HO) : FrL ins H1 (L2.upd H2 a o) := fun c u e n => by
  rw [upd_ne (fun z : c = a => n (by rw [z]; exact ha))]
  exact h c u e n
theorem FrL.kp {ins : List Addr} {H1 H2 : Hp} (h : FrL ins H1 H2) (l : ∀ a ∈ ins, ∃ ws, H1 a = some (.lst ws)) : KP H1 H2 := by
  have no : ∀ {a : Addr} {o : HO}, H1 a = some o → (∀ ws, o ≠ .lst ws) → a ∉ ins := fun e n z => by
    obtain ⟨ws, e2⟩ := l _ z
    rw [e] at e2
    cases e2
    exact n _ rfl
  refine ⟨fun a xs ⟨ob, e, d⟩ => ⟨ob, h _ _ e (no e fun _ z => nomatch z), d⟩, fun a xs e => ?_⟩
  rcases e with ⟨ob, e, d⟩ | e
  · exact .inl ⟨ob, h _ _ e (no e fun _ z => nomatch z), d⟩
  · exact .inr (h _ _ e (no e fun _ z => nomatch z))
/-- a list of lists, none of them twice -/
structure LLs (H : Hp) (B : Addr) (ins : List Addr) : Prop where
  b : H B = some (.lst (ins.map V.ref))
  nd : ins.Nodup
  nb : B ∉ ins
theorem FrL.tabs {ins : List Addr} {H1 H2 : Hp} (h : FrL ins H1 H2) (l : ∀ a ∈ ins, ∃ ws, H1 a = some (.lst ws)) {T : List (Addr × Str)} (t : Tabs T H1) : Tabs T H2 := by
  have no : ∀ {a : Addr} {o : HO}, H1 a = some o → (∀ ws, o ≠ .lst ws) → a ∉ ins := fun e n z => by
    obtain ⟨ws, e2⟩ := l _ z
    rw [e] at e2
    cases e2
    exact n _ rfl
  intro p hp
  obtain ⟨ps, h1, h2, h3⟩ := t p hp
  refine ⟨ps, h _ _ h1 (no h1 fun _ z => nomatch z), h2, fun pos cv hc => ?_⟩
  obtain ⟨c, e1, e2⟩ := h3 pos cv hc
  exact ⟨c, e1, h _ _ e2 (no e2 fun _ z => nomatch z)⟩
theorem LLs.keep {H H' : Hp} {B : Addr} {ins : List Addr} (h : LLs H B ins) (e : H' B = H B) : LLs H' B ins := ⟨e.trans h.b, h.nd, h.nb⟩
theorem rowE_snoc {cs : List CE} {j i : Nat} {e : CE} (h : cs[j]? = some e) : rowE (cs.take (j + 1)) i = if e.row = i then rowE (cs.take j) i ++ [e.st] else rowE (cs.take j) i := by
  unfold rowE
  rw [List.take_add_one, h, List.filter_append]
  by_cases c : e.row = i
  · rw [if_pos c, List.map_append]
    simp [c]
  · rw [if_neg c]
    simp [c]
end Su
/-! ### LT: a table of the lays that came -/
namespace Su
open PySem PySem.Spec PyProof.Rows L2
open LamX hiding takes0
def layP (p : Ly) : PyData := .tuple [.tuple (p.1.map PyData.int), .tuple (p.2.map PyData.int)]
theorem units65 {k : Nat} {A : Around} (r : Room k A) : A.units + 65 < cLine := by
  have := r.un
  omega
/-- lays, sorted -/
def sortL (ps : List Ly) : List Ly := ps.mergeSort (PySem.W.dataLe false layP)
theorem alike_ints : ∀ xs ys : List Int, PySem.W.alikeAll (xs.map PyData.int) (ys.map PyData.int) = true
  | [], _ => by simp [PySem.W.alikeAll]
  | _ :: _, [] => by simp [PySem.W.alikeAll]
  | x :: xs, y :: ys => by
    have ih := alike_ints xs ys
    simp [PySem.W.alikeAll, PySem.W.alike, ih]
theorem alike_lay (p q : Ly) : PySem.W.alike (layP p) (layP q) = true := by
  simp [layP, PySem.W.alikeAll, PySem.W.alike, alike_ints]
theorem ints_depth (l : List Int) : PyData.depthAll (l.map PyData.int) = 0 := by
  induction l with
  | nil => simp [PyData.depthAll]
  | cons x l ih => simp [PyData.depthAll, PyData.depth, ih]
theorem lay_depth (p : Ly) : (layP p).depth ≤ 60 := by
  simp [layP, PyData.depth, PyData.depthAll, ints_depth]
theorem lay_dp {K : PySem.W.Frag} {H : Hp} {u : Addr} {p : Ly} (h : LayAt H u p.1 p.2) : Dp K H (.ref u) (layP p) := by
  obtain ⟨a, b, h1, h2, h3⟩ := h
  exact .tup h1.sq (.cons (.tup h2.sq (dp_intsS _)) (.cons (.tup h3.sq (dp_intsS _)) .nil))
/-- a list of lays -/
def LRow (H : Hp) (v : V) (ps : List Ly) : Prop := ∃ a ws, v = .ref a ∧ H a = some (.lst ws) ∧ SVs layV H (ps.map layK) ws
theorem svs_of {H : Hp} : ∀ {ts : List (V × Ly)}, (∀ t ∈ ts, layV.at_ H (layK t.2) t.1) → SVs layV H ((ts.map (·.2)).map layK) (ts.map (·.1))
  | [], _ => .nil
  | t :: ts, h => .cons (h t List.mem_cons_self) (svs_of fun x hx => h x (List.mem_cons_of_mem _ hx))
theorem svs_ts {H : Hp} : ∀ {ss : List NestedKey} {ws : List V}, SVs layV H ss ws → ∃ ts : List (V × Ly), ws = ts.map (·.1) ∧ ss = (ts.map (·.2)).map layK ∧ ∀ t ∈ ts, layV.at_ H (layK t.2) t.1
  | _, _, .nil => ⟨[], rfl, rfl, fun t h => nomatch h⟩
  | _, _, .cons h t => by
    obtain ⟨ts, e1, e2, h2⟩ := svs_ts t
    obtain ⟨p, u, rfl, rfl, hl⟩ := h
    refine ⟨(.ref u, p) :: ts, by rw [e1]; rfl, by rw [e2]; rfl, fun x hx => ?_⟩
    rcases List.mem_cons.mp hx with rfl | hx
    · exact ⟨p, u, rfl, rfl, hl⟩
    · exact h2 x hx
theorem unlay_map (ps : List Ly) : (ps.map layK).map unlay = ps := by
  rw [List.map_map]
  exact List.map_id'' (fun p => unlay_lay p) ps
/-- the table's rows from the first on -/
def TabTo (H : Hp) (us : List V) (cs : List CE) (i : Nat) : Prop := us.length = i ∧ ∀ k v, us[k]? = some v → LRow H v (sortL ((rowE cs k).map unlay))
/-- the table's rows are new lists, none twice -/
def NewR (H H' : Hp) (us : List V) : Prop := ∃ js : List Addr, us = js.map V.ref ∧ js.Nodup ∧ ∀ a ∈ js, H a = none ∧ ∃ wl, H' a = some (.lst wl)
def RowsNew (H : Hp) (us : List V) (u : Addr) : Prop := ∃ js : List Addr, us = js.map V.ref ∧ js.Nodup ∧ u ∉ js ∧ ∀ a ∈ js, H a = none
def spTable (w : World) : Sp := fun vs H Q _ => ∃ (C p : Addr) (xs : List XE) (ws : List V), vs = [.ref C, .ref p] ∧ ND w H C (kvsX xs) ∧ (∀ x ∈ xs, XAt layV H x) ∧ H p = some (.lst ws) ∧ ws.length ≤ 900 ∧ (∀ x ∈ xs, x.e.row < ws.length) ∧ C ≠ p ∧ xs.length ≤ 20000 ∧
  ∀ (u : Addr) (us : List V) (H' : Hp), (∀ c o, H c = some o → c ≠ C → H' c = some o) → H u = none → H' u = some (.lst us) → TabTo H' us (xs.map (·.e)) ws.length → RowsNew H us u → Q (.ref u) H'
theorem sc_table_of : FnScope ["came", "web", "table", "row", "lay", "lays"] ["came", "web"] (defScope s_table_of) := ⟨rfl, rfl, rfl, by decide +kernel, rfl, by decide +kernel, by decide +kernel⟩
section
variable {P : Program} {w : World} {K : PySem.W.Frag} {mg : Str → Option Value} {base : Heap}
theorem ok_table (T : At K mg "table_of" s_table_of ["came", "web"]) (B : Bt mg) : Cal P w K mg base 1 "table_of" ["came", "web"] (spTable w) := by
  refine cal_of T sc_table_of (fun vs H Q E h => ?_) (fun f cdv A outer s H vs Q E hr h => ?_)
  · obtain ⟨C, p, xs, ws, rfl, _⟩ := h
    rfl
  · obtain ⟨C, p, xs, ws0, rfl, hC, hx3, hp, hwl, hrow0, nCp, c20, q⟩ := h
    refine ⟨_, (pss_cons (ps_setLc (i := 2) (own := [("row", 3)]) (g := (gName 3)) (tt := tYes) (te := (tLst tNil)) (by rfl) sc_table_of.nd rfl rfl (sw_true rfl rfl rfl (by decide +kernel)) (pi_list (pv 1)) (blkOk_by (own := [("row", 3)]) (N := ["came", "web", "table", "row", "lay", "lays"]) (sc := defScope s_table_of) (by decide +kernel)) (fun _ _ _ _ _ => (pg_name (i := 3) sc_table_of.nd rfl (Or.inl rfl))) (fun _ _ _ _ _ => pts_nil) (fun _ _ _ _ _ => (pe_lst pa_nil)))
      (pss_cons (ps_for PassesOwn.never rfl (pi_nkeysL (pv 0)) (pg_tup (by rfl) (pgs_cons (pg_name (i := 3) sc_table_of.nd rfl (Or.inl rfl)) (pgs_cons (pg_name (i := 4) sc_table_of.nd rfl (Or.inl rfl)) pgs_nil))) (pss_one (ps_expr (pe_bm PySem.F.plainAttrs_list PySem.F.slot_list_append PySem.F.type_list_append mt_append (pe_ix ix_list (pv 2) (pv 3) (fun _ _ => rfl)) (pa_cons (pv 4) pa_nil)))))
      (pss_one (ps_ret (pe_lc (own := [("lays", 5)]) (g := (gName 5)) (tt := tYes) (te := (tCB (rSortedDt K) (tCons (tVar 5) tNil))) (by rfl) sc_table_of.nd (pi_list (pv 2)) (blkOk_by (own := [("lays", 5)]) (N := ["came", "web", "table", "row", "lay", "lays"]) (sc := defScope s_table_of) (by decide +kernel)) (fun _ _ _ _ _ => (pg_name (i := 5) sc_table_of.nd rfl (Or.inl rfl))) (fun _ _ _ _ _ => pts_nil) (fun _ _ _ _ _ => (pe_callB (show CallR _ _ (rSortedDt K) from cr_sortedDt (units65 hr)) (by rfl) B.sorted (by decide +kernel) (pa_cons (pv 5) pa_nil)))))))), ?_⟩
    refine ⟨_, rfl, p, rfl, ⟨_, SqL.of hp⟩, fun B nB => ?_⟩
    refine lc_list (K := K) (a := p) (xs := ws0) (fun i H2 => Same H H2 ∧ ∃ ins : List Addr, ins.length = i ∧ LLs H2 B ins ∧ ∀ a ∈ ins, H a = none ∧ H2 a = some (.lst [])) ?_ ?_ ?_ ?_
    · exact ⟨same_upd nB, [], rfl, ⟨upd_same, List.nodup_nil, List.not_mem_nil⟩, fun a h => nomatch h⟩
    · rintro i H2 _ ⟨s2, _⟩
      exact SqL.of (s2 _ _ hp)
    · rintro i v H2 hv ⟨s2, ins, il, ll, hin⟩
      have hil : i < ws0.length := (List.getElem?_eq_some_iff.mp hv).1
      refine ⟨rfl, tyes ?_⟩
      refine ⟨(by show 0 ≤ sizeLine; decide), fun L nL => ?_⟩
      have sL : Same H2 (upd H2 L (.lst [])) := same_upd nL
      refine ⟨_, sL _ _ ll.b, (by rw [List.length_map]; exact small1000 (by omega)), fun c o ec => ?_, ins ++ [L], by rw [List.length_append, il]; rfl, ⟨?_, ?_, ?_⟩, fun a ha => ?_⟩
      · rw [upd_ne (ne_of_none ec nB)]
        exact sL _ _ (s2 _ _ ec)
      · rw [upd_same, List.map_append]
        rfl
      · rw [List.nodup_append]
        refine ⟨ll.nd, List.nodup_cons.mpr ⟨List.not_mem_nil, List.nodup_nil⟩, fun a ha b hb => ?_⟩
        rw [List.mem_singleton.mp hb]
        exact ne_of_none (hin a ha).2 nL
      · intro z
        rcases List.mem_append.mp z with z | z
        · exact ll.nb z
        · rw [List.mem_singleton.mp z] at ll
          rw [ll.b] at nL
          cases nL
      · rcases List.mem_append.mp ha with ha | ha
        · refine ⟨(hin a ha).1, ?_⟩
          rw [upd_ne (fun z : a = B => ll.nb (by rw [← z]; exact ha))]
          exact sL _ _ (hin a ha).2
        · rw [List.mem_singleton.mp ha]
          refine ⟨s2.free nL, ?_⟩
          rw [upd_ne (fun z => by rw [z, ll.b] at nL; cases nL)]
          exact upd_same
    · rintro H2 ⟨s2, ins, il, ll, hin⟩
      have nd2 := hC.same s2
      obtain ⟨uC, hC2⟩ : ∃ u, H2 C = some u := by
        rcases nd2.at_ with e | ⟨_, e⟩ <;> exact ⟨_, e⟩
      refine ⟨_, rfl, C, _, uC, rfl, nd2, hC2, fun od hNL => ?_⟩
      have kC : KP H2 (upd H2 C (.frz od uC)) := nd2.kp _
      have nCB : C ≠ B := fun z => by
        obtain ⟨u, hu⟩ : ∃ u, H C = some u := by
          rcases hC.at_ with e | ⟨_, e⟩ <;> exact ⟨_, e⟩
        rw [z, nB] at hu
        cases hu
      have nCi : C ∉ ins := fun z => by
        obtain ⟨u, hu⟩ : ∃ u, H C = some u := by
          rcases hC.at_ with e | ⟨_, e⟩ <;> exact ⟨_, e⟩
        rw [(hin C z).1] at hu
        cases hu
      have llB : LLs (upd H2 C (.frz od uC)) B ins := ⟨by rw [upd_ne nCB.symm]; exact ll.b, ll.nd, ll.nb⟩
      have hin3 : ∀ a ∈ ins, (upd H2 C (.frz od uC)) a = some (.lst []) := fun a ha => by
        rw [upd_ne (fun z : a = C => nCi (by rw [← z]; exact ha))]
        exact (hin a ha).2
      have xat3 : ∀ x ∈ xs, XAt layV (upd H2 C (.frz od uC)) x := fun x hx => ((hx3 x hx).keep (KP.same s2)).keep kC
      have fr0 : ∀ c o, H c = some o → c ≠ C → (upd H2 C (.frz od uC)) c = some o := fun c o ec n => by
        rw [upd_ne n]
        exact s2 _ _ ec
      have nin : ∀ a ∈ ins, H a = none := fun a ha => (hin a ha).1
      generalize upd H2 C (.frz od uC) = H4 at hNL llB hin3 xat3 fr0 ⊢
      refine for_it walk_keysN (fun j σ H5 => ∃ y3 y4 : Option V, σ = [some (.ref C), some (.ref p), some (.ref B), y3, y4, none] ∧ FrL ins H4 H5 ∧ ∀ i a, ins[i]? = some a → ∃ ws, H5 a = some (.lst ws) ∧ SVs layV H5 (rowE ((xs.map (·.e)).take j) i) ws) ?_ ?_ ?_ ?_
      · refine ⟨none, none, rfl, FrL.refl _ _, fun i a e => ⟨[], hin3 a (List.mem_of_getElem? e), ?_⟩⟩
        show SVs layV H4 (rowE [] i) []
        exact .nil
      · rintro j σ H5 _ ⟨_, _, _, fr, _⟩
        rcases hNL with e | ⟨z, e⟩
        · exact .inl (fr _ _ e nCi)
        · exact .inr ⟨z, fr _ _ e nCi⟩
      · rintro j v σ H5a H5 hj ⟨y4, y5, rfl, fr, hws⟩ ⟨rfl, en, hen, rfl⟩
        obtain ⟨x1, ex1, rfl⟩ : ∃ x1, xs[j]? = some x1 ∧ en = (ckey x1.e.key, x1.T, x1.w) := by
          unfold kvsX at hen
          rw [List.getElem?_map] at hen
          obtain ⟨x1, h1, h2⟩ := Option.map_eq_some_iff.mp hen
          exact ⟨x1, h1, h2.symm⟩
        have kp5 := fr.kp fun a ha => ⟨[], hin3 a ha⟩
        obtain ⟨v1, ht, hv1⟩ := (xat3 x1 (List.mem_of_getElem? ex1)).k
        have ht5 := kp5.k _ _ ht
        have hv5 := layV.keep kp5 hv1
        have hrow := hrow0 x1 (List.mem_of_getElem? ex1)
        have hi : x1.e.row < ins.length := by omega
        have ea : ins[x1.e.row]? = some ins[x1.e.row] := List.getElem?_eq_getElem hi
        generalize ins[x1.e.row] = a at ea
        have ham : a ∈ ins := List.mem_of_getElem? ea
        obtain ⟨ws, ha5, hsv⟩ := hws _ _ ea
        have hB5 := fr _ _ llB.b llB.nb
        refine ⟨x1.T, _, rfl, ht5.sq, rfl, _, _, rfl, _, _, rfl, rfl, ?_⟩
        have lws : ws.length ≤ 20000 := by
          rw [hsv.len]
          unfold rowE
          rw [List.length_map]
          refine Nat.le_trans (List.length_filter_le _ _) ?_
          rw [List.length_take, List.length_map]
          omega
        refine ⟨_, rfl, _, rfl, B, _, _, .ref a, rfl, rfl, SqL.of hB5, atI_nat (by rw [List.getElem?_map, ea]; rfl), ?_⟩
        refine ⟨.inl ⟨rfl, _, SqL.of ha5⟩, _, rfl, a, _, _, rfl, rfl, ha5, (by show _ < sizeLine; exact Nat.lt_of_le_of_lt lws (by decide)), ?_⟩
        have k6 : KP H5 (upd H5 a (.lst (ws ++ [v1]))) := KP.lst ha5
        refine ⟨_, _, rfl, fr.upd ham _, fun i b eb => ?_⟩
        rw [rowE_snoc (show (xs.map (·.e))[j]? = some x1.e by rw [List.getElem?_map, ex1]; rfl)]
        by_cases c : b = a
        · subst c
          have ei : i = x1.e.row := (List.getElem?_inj (List.getElem?_eq_some_iff.mp eb).1 llB.nd).mp (eb.trans ea.symm)
          subst ei
          rw [if_pos rfl]
          exact ⟨_, upd_same, (hsv.keep k6).app (.cons (layV.keep k6 hv5) .nil)⟩
        · have ni : ¬ x1.e.row = i := fun z => c (by rw [z] at ea; rw [ea] at eb; cases eb; rfl)
          obtain ⟨ws2, hb2, hs2⟩ := hws _ _ eb
          rw [if_neg ni]
          exact ⟨ws2, by rw [upd_ne c]; exact hb2, hs2.keep k6⟩
      · rintro σ H5 ⟨y4, y5, rfl, fr, hws⟩
        have kvl : (kvsX xs).length = xs.length := by
          unfold kvsX
          rw [List.length_map]
        rw [kvl, List.take_of_length_le (by rw [List.length_map]; exact Nat.le_refl _)] at hws
        have hB5 := fr _ _ llB.b llB.nb
        have fr5 : ∀ c o, H c = some o → c ≠ C → H5 c = some o := fun c o ec n => fr _ _ (fr0 c o ec n) (fun z => by rw [nin c z] at ec; cases ec)
        have lcs : (xs.map (·.e)).length ≤ 20000 := by rw [List.length_map]; exact c20
        generalize xs.map (·.e) = cs at hws lcs q ⊢
        have hC5 : ∃ o, H5 C = some o := by
          rcases hNL with e | ⟨_, e⟩ <;> exact ⟨_, fr _ _ e nCi⟩
        clear fr hNL hin3 xat3 fr0
        refine ⟨_, rfl, B, rfl, ⟨_, SqL.of hB5⟩, fun D nD => ?_⟩
        refine lc_list (K := K) (a := B) (xs := ins.map V.ref) (fun i H6 => Same H5 H6 ∧ ∃ us, H6 D = some (.lst us) ∧ (∀ v ∈ us, v ≠ .ref D) ∧ NewR H5 H6 us ∧ TabTo H6 us cs i) ?_ ?_ ?_ ?_
        · exact ⟨same_upd nD, [], upd_same, (fun v hv => nomatch hv), ⟨[], rfl, List.nodup_nil, fun a h => nomatch h⟩, rfl, fun k v e => by simp at e⟩
        · rintro i H6 _ ⟨s6, _⟩
          exact SqL.of (s6 _ _ hB5)
        · rintro i v H6 hv ⟨s6, us, hD6, hne, hnr, hul, hus⟩
          rw [List.getElem?_map] at hv
          obtain ⟨a, ea, rfl⟩ := Option.map_eq_some_iff.mp hv
          have hil : i < ins.length := (List.getElem?_eq_some_iff.mp ea).1
          obtain ⟨ws, ha5, hsv⟩ := hws _ _ ea
          have ha6 := s6 _ _ ha5
          obtain ⟨ts, rfl, ess, hts⟩ := svs_ts (hsv.keep (KP.same s6))
          have eun : (rowE cs i).map unlay = ts.map (·.2) := by rw [ess, unlay_map]
          refine ⟨rfl, tyes ?_⟩
          refine ⟨_, rfl, a, ts.map fun t => (t.1, layP t.2), rfl, SqL.of (by rw [List.map_map]; exact ha6), ?_, ?_, ?_, ?_, fun L nL => ?_⟩
          · intro z hz
            obtain ⟨t, ht, rfl⟩ := List.mem_map.mp hz
            obtain ⟨pl, u, e1, e2, hla⟩ := hts t ht
            have e1 := layK_inj e1
            show Dp K H6 t.1 (layP t.2)
            rw [e1, e2]
            exact lay_dp hla
          · intro d hd d' hd'
            obtain ⟨z, hz, rfl⟩ := List.mem_map.mp hd
            obtain ⟨t, ht, rfl⟩ := List.mem_map.mp hz
            obtain ⟨z', hz', rfl⟩ := List.mem_map.mp hd'
            obtain ⟨t', ht', rfl⟩ := List.mem_map.mp hz'
            exact alike_lay _ _
          · refine .inl fun d hd => ?_
            obtain ⟨z, hz, rfl⟩ := List.mem_map.mp hd
            obtain ⟨t, ht, rfl⟩ := List.mem_map.mp hz
            exact ⟨_, _, rfl⟩
          · intro z hz
            obtain ⟨t, ht, rfl⟩ := List.mem_map.mp hz
            exact lay_depth _
          · have es : srtD (ts.map fun t => (t.1, layP t.2)) = (ts.mergeSort (PySem.W.dataLe false fun t : V × Ly => layP t.2)).map fun t => (t.1, layP t.2) := (List.map_mergeSort (r := PySem.W.dataLe false fun t : V × Ly => layP t.2) (s := PySem.W.dataLe false (fun z : V × PyData => z.2)) (f := fun t : V × Ly => ((t.1, layP t.2) : V × PyData)) (l := ts) fun x _ y _ => rfl).symm
            have es2 : (ts.mergeSort (PySem.W.dataLe false fun t : V × Ly => layP t.2)).map (·.2) = sortL (ts.map (·.2)) := List.map_mergeSort (r := PySem.W.dataLe false fun t : V × Ly => layP t.2) (s := PySem.W.dataLe false layP) (f := fun t : V × Ly => t.2) (l := ts) fun x _ y _ => rfl
            rw [es, List.map_map, show ((fun x : V × PyData => x.1) ∘ fun t : V × Ly => ((t.1, layP t.2) : V × PyData)) = (fun t : V × Ly => t.1) from rfl]
            have hall : ∀ t ∈ ts.mergeSort (PySem.W.dataLe false fun t : V × Ly => layP t.2), layV.at_ H6 (layK t.2) t.1 := fun t ht => hts t (List.mem_mergeSort.mp ht)
            have hsv2 := svs_of hall
            rw [es2, ← eun] at hsv2
            have sL : Same H6 (upd H6 L (.lst ((ts.mergeSort (PySem.W.dataLe false fun t : V × Ly => layP t.2)).map (·.1)))) := same_upd nL
            have hL : (upd H6 L (.lst ((ts.mergeSort (PySem.W.dataLe false fun t : V × Ly => layP t.2)).map (·.1)))) L = some (.lst ((ts.mergeSort (PySem.W.dataLe false fun t : V × Ly => layP t.2)).map (·.1))) := upd_same
            have hsv3 := hsv2.keep (KP.same sL)
            have hD7 := sL _ _ hD6
            generalize upd H6 L (.lst ((ts.mergeSort (PySem.W.dataLe false fun t : V × Ly => layP t.2)).map (·.1))) = H7 at sL hL hsv3 hD7 ⊢
            have nLD : L ≠ D := fun z => by rw [z, hD6] at nL; cases nL
            have k8 : KP H7 (upd H7 D (.lst (us ++ [.ref L]))) := KP.lst hD7
            have keepR : ∀ {v : V} {ps : List Ly}, v ≠ .ref D → LRow H6 v ps → LRow (upd H7 D (.lst (us ++ [.ref L]))) v ps := fun ne ⟨b, wb, e, hb, hs⟩ => by
              refine ⟨b, wb, e, ?_, (hs.keep (KP.same sL)).keep k8⟩
              rw [upd_ne (fun z => ne (by rw [e, z]))]
              exact sL _ _ hb
            refine ⟨us, hD7, small1000 (by omega), fun c o ec => ?_, _, upd_same, fun v hv => ?_, ?_, ?_, fun k v ek => ?_⟩
            · rw [upd_ne (ne_of_none ec nD)]
              exact sL _ _ (s6 _ _ ec)
            · rcases List.mem_append.mp hv with hv | hv
              · exact hne v hv
              · rw [List.mem_singleton.mp hv]
                exact fun z => nLD (V.ref.inj z)
            · obtain ⟨js, ejs, jnd, hj⟩ := hnr
              refine ⟨js ++ [L], by rw [ejs, List.map_append]; rfl, ?_, fun a ha => ?_⟩
              · rw [List.nodup_append]
                refine ⟨jnd, List.nodup_cons.mpr ⟨List.not_mem_nil, List.nodup_nil⟩, fun a ha b hb => ?_⟩
                rw [List.mem_singleton.mp hb]
                obtain ⟨_, wl, e⟩ := hj a ha
                exact ne_of_none e nL
              · rcases List.mem_append.mp ha with ha | ha
                · obtain ⟨h1, wl, e⟩ := hj a ha
                  refine ⟨h1, wl, ?_⟩
                  rw [upd_ne (fun z => hne (.ref a) (by rw [ejs]; exact List.mem_map.mpr ⟨a, ha, rfl⟩) (by rw [z]))]
                  exact sL _ _ e
                · rw [List.mem_singleton.mp ha]
                  exact ⟨s6.free nL, _, by rw [upd_ne nLD]; exact hL⟩
            · rw [List.length_append, hul]
              rfl
            · by_cases hk : k < us.length
              · rw [List.getElem?_append_left hk] at ek
                exact keepR (hne v (List.mem_of_getElem? ek)) (hus k v ek)
              · have lt := (List.getElem?_eq_some_iff.mp ek).1
                rw [List.length_append, List.length_singleton] at lt
                obtain rfl : k = us.length := by omega
                rw [List.getElem?_append_right (Nat.le_refl _), Nat.sub_self] at ek
                cases ek
                rw [hul]
                exact ⟨L, _, rfl, by rw [upd_ne nLD]; exact hL, hsv3.keep k8⟩
        · rintro H6 ⟨s6, us, hD6, hne, ⟨js, ejs, jnd, hj⟩, ht⟩
          rw [List.length_map, il] at ht
          have old : ∀ {a : Addr}, H5 a = none → H a = none := fun {a} na => by
            cases e : H a with
            | none => rfl
            | some o =>
              by_cases c : a = C
              · obtain ⟨o2, e2⟩ := hC5
                rw [← c, na] at e2
                cases e2
              · rw [fr5 _ _ e c] at na
                cases na
          refine q D us H6 (fun c o ec n => s6 _ _ (fr5 c o ec n)) (old nD) hD6 ht ⟨js, ejs, jnd, fun z => hne (.ref D) (by rw [ejs]; exact List.mem_map.mpr ⟨D, z, rfl⟩) rfl, fun a ha => old (hj a ha).1⟩
end
end Su
/-! ### R1: what the law's own ask does -/
namespace Su
open PySem PySem.Spec PyProof.Rows L2
/-- what the law's own lays are behind an ask, or behind nothing -/
def askO (x : Str) (p : List Int × List Int) : Option Int → List Int × List Int
  | none => p
  | some k => askF x p.1 p.2 k
def aVo : Option Int → V
  | none => .non
  | some k => .int k
theorem mid {R M : L2.St → Hp → Prop} {G : Prop} (hR : ∀ σ H, M σ H → R σ H) (h : (∀ σ H, M σ H → R σ H) → G) : G := h hR
def spLAsk : Sp := fun vs H Q _ => ∃ (t : Addr) (p : List Int × List Int) (a : Option Int) (way : Str), vs = [.ref t, aVo a, .str way] ∧ LayAt H t p.1 p.2 ∧ (way = "tree" → TreeOk p.1.length p.2) ∧ 0 < p.1.length ∧ p.1.length ≤ 8 ∧
  ∀ (v : Addr) (H' : Hp), Same H H' → LayAt H' v (askO way p a).1 (askO way p a).2 → Q (.ref v) H'
theorem sc_law_led : FnScope ["_law_bits", "_law_size", "_law_number", "_law_at"] ["_law_bits", "_law_size"] (defScope s_law_led) := ⟨rfl, rfl, rfl, by decide +kernel, rfl, by decide +kernel, by decide +kernel⟩
theorem sc_law_away : FnScope ["_law_bits", "_law_at", "_law_size", "_law_found", "_law_number", "_law_low", "_law_half"] ["_law_bits", "_law_at", "_law_size"] (defScope s_law_away) := ⟨rfl, rfl, rfl, by decide +kernel, rfl, by decide +kernel, by decide +kernel⟩
theorem sc_law_asked : FnScope ["_law_lay", "_law_room", "_law_way_here", "_law_slots", "_law_bits", "_law_at"] ["_law_lay", "_law_room", "_law_way_here"] (defScope s_law_asked) := ⟨rfl, rfl, rfl, by decide +kernel, rfl, by decide +kernel, by decide +kernel⟩
section
variable {P : Program} {w : World} {K : PySem.W.Frag} {mg : Str → Option Value} {base : Heap}
theorem ok_lled (T : At K mg "_law_led" s_law_led ["_law_bits", "_law_size"]) : Cal P w K mg base 1 "_law_led" ["_law_bits", "_law_size"] spLed := by
  refine cal_of T sc_law_led (fun vs H Q E h => ?_) (fun f cdv A outer s H vs Q E hr h => ?_)
  · obtain ⟨b, n, bs, rfl, _⟩ := h
    rfl
  · obtain ⟨b, n, bs, rfl, hb, hok, q⟩ := h
    refine ⟨_, (pss_cons (ps_set (i := 2) sc_law_led.nd rfl (Or.inl rfl) pe_int)
      (pss_cons (ps_set (i := 3) sc_law_led.nd rfl (Or.inl rfl) pe_int)
      (pss_cons (ps_while PassesOwn.never (pt_cmpR op_gt (pv 1) pe_int (nomark _)) (pss_cons (ps_set (i := 1) sc_law_led.nd rfl (Or.inl rfl) (pe_op op_fdiv (pv 1) pe_int))
      (pss_cons (ps_set (i := 3) sc_law_led.nd rfl (Or.inl rfl) (pe_op op_add (pv 3) (pe_op op_mul (pv 1) (pe_ix ix_tup (pv 0) (pv 2) (fun _ _ => rfl)))))
      (pss_one (ps_set (i := 2) sc_law_led.nd rfl (Or.inl rfl) (pe_op op_add (pe_op op_add (pe_op op_mul pe_int (pv 2)) pe_int) (pe_ix ix_tup (pv 0) (pv 2) (fun _ _ => rfl))))))))
      (pss_one (ps_ret (pv 3)))))), ?_⟩
    refine while_by (fun σ H' => ∃ (f : Nat) (at_ number size : Int), σ = [some (.ref b), some (.int size), some (.int number), some (.int at_)] ∧ H' = H ∧ ledOk f bs at_ number (size / 2) = true ∧ ledF f bs at_ number (size / 2) = ledF 4 bs 0 0 (n / 2)) (fun σ _ => num σ 1) ?_ ?_ ?_
    · exact ⟨4, 0, 0, n, rfl, rfl, hok, rfl⟩
    · rintro σ H' ⟨f, at_, number, size, rfl, rfl, h1, h2⟩
      refine ⟨_, rfl, _, _, rfl, rfl, _, rfl, ite3 (fun e => ?_) (fun e => ?_)⟩
      · have e' : 0 < size / 2 := by omega
        cases f with
        | zero =>
          unfold ledOk at h1
          rw [decide_eq_true_eq] at h1
          omega
        | succ f =>
          unfold ledOk at h1
          unfold ledF at h2
          rw [if_pos e'] at h1 h2
          simp only [Bool.and_eq_true, decide_eq_true_eq] at h1
          obtain ⟨⟨⟨b0, b1⟩, b2⟩, b3⟩ := h1
          have g : atI (bs.map V.int) number = some (V.int (bs.getD number.toNat 0)) := atI_int b0 (by
            rw [List.getElem?_map, List.getElem?_eq_getElem b1, List.getD_eq_getElem?_getD, List.getElem?_eq_getElem b1]
            rfl)
          refine ⟨_, rfl, _, _, rfl, rfl, ⟨by decide, by decide⟩, ?_⟩
          rw [Int.mul_comm (bs.getD number.toNat 0) (size / 2)] at b3 h2
          refine ⟨_, rfl, _, rfl, _, rfl, _, rfl, b, _, number, _, rfl, rfl, hb.sq, g, ?_⟩
          refine ⟨_, _, rfl, rfl, .inl ⟨by omega, by omega⟩, _, _, rfl, rfl, ?_⟩
          refine ⟨_, rfl, _, _, rfl, rfl, .inl ⟨by decide, by decide⟩, _, _, rfl, rfl, _, rfl, _, rfl, b, _, number, _, rfl, rfl, hb.sq, g, _, _, rfl, rfl, ?_⟩
          refine ⟨⟨f, _, _, _, rfl, rfl, b3, h2⟩, ?_⟩
          show (size / 2).toNat < size.toNat
          omega
      · have e' : ¬ 0 < size / 2 := by omega
        refine ⟨_, rfl, ?_⟩
        have e2 : at_ = ledF 4 bs 0 0 (n / 2) := by
          rw [← h2]
          cases f with
          | zero => rfl
          | succ f =>
            unfold ledF
            rw [if_neg e']
        rw [e2]
        exact q
    · rintro σ H' Q1 Q2 hq ⟨v, hv, i, j, e1, e2, k, e3, z⟩
      exact ⟨v, hv, i, j, e1, e2, k, e3, hq _ _ z⟩
theorem ok_laway (T : At K mg "_law_away" s_law_away ["_law_bits", "_law_at", "_law_size"]) (B : Bt mg) : Cal P w K mg base 1 "_law_away" ["_law_bits", "_law_at", "_law_size"] spAway := by
  refine cal_of T sc_law_away (fun vs H Q E h => ?_) (fun f cdv A outer s H vs Q E hr h => ?_)
  · obtain ⟨b, sl, n, bs, rfl, _⟩ := h
    rfl
  · obtain ⟨b, sl, n, bs, rfl, hb, hok, q⟩ := h
    refine ⟨_, (pss_cons (ps_set (i := 3) sc_law_away.nd rfl (Or.inl rfl) (pe_callTy call_list_of (by rfl) B.list (by decide +kernel) (pa_cons (pv 0) pa_nil)))
      (pss_cons (ps_set (i := 4) sc_law_away.nd rfl (Or.inl rfl) pe_int)
      (pss_cons (ps_set (i := 5) sc_law_away.nd rfl (Or.inl rfl) pe_int)
      (pss_cons (ps_while PassesOwn.never (pt_cmpR op_gt (pv 2) pe_int (nomark _)) (pss_cons (ps_set (i := 2) sc_law_away.nd rfl (Or.inl rfl) (pe_op op_fdiv (pv 2) pe_int))
      (pss_cons (ps_set (i := 6) sc_law_away.nd rfl (Or.inl rfl) (pe_callTy call_int1 (by rfl) B.int (by decide +kernel) (pa_cons (pe_cmpR op_ge (pv 1) (pe_op op_add (pv 5) (pv 2)) (nomark _)) pa_nil)))
      (pss_cons (ps_asg (pe_op op_sub pe_int (pv 6)) (pg_sub (pv 3) (pv 4) set_list))
      (pss_cons (ps_set (i := 5) sc_law_away.nd rfl (Or.inl rfl) (pe_op op_add (pv 5) (pe_op op_mul (pv 2) (pv 6))))
      (pss_one (ps_set (i := 4) sc_law_away.nd rfl (Or.inl rfl) (pe_op op_add (pe_op op_add (pe_op op_mul pe_int (pv 4)) pe_int) (pv 6)))))))))
      (pss_one (ps_ret (pe_callTy call_tupleF (by rfl) B.tuple (by decide +kernel) (pa_cons (pv 3) pa_nil)))))))), ?_⟩
    refine ⟨_, rfl, b, _, rfl, .inr hb.sq, fun l nl => ?_⟩
    refine while_by (fun σ H' => ∃ (f : Nat) (led : List Int) (number low size : Int) (y : Option V), σ = [some (.ref b), some (.int sl), some (.int size), some (.ref l), some (.int number), some (.int low), y] ∧ H' = upd H l (.lst (led.map V.int)) ∧ awayOk f led.length number (size / 2) (sl - low) = true ∧ awayF f led number (size / 2) (sl - low) = awayF 4 bs 0 (n / 2) sl) (fun σ _ => num σ 2) ?_ ?_ ?_
    · exact ⟨4, bs, 0, 0, n, none, rfl, rfl, by rw [Int.sub_zero]; exact hok, by rw [Int.sub_zero]⟩
    · rintro σ H' ⟨f, led, number, low, size, y, rfl, rfl, h1, h2⟩
      refine ⟨_, rfl, _, _, rfl, rfl, _, rfl, ite3 (fun e => ?_) (fun e => ?_)⟩
      · have e' : 0 < size / 2 := by omega
        cases f with
        | zero =>
          unfold awayOk at h1
          rw [decide_eq_true_eq] at h1
          omega
        | succ f =>
          unfold awayOk at h1
          unfold awayF at h2
          rw [if_pos e'] at h1 h2
          simp only [Bool.and_eq_true, decide_eq_true_eq] at h1
          obtain ⟨⟨⟨b0, b1⟩, b2⟩, b3⟩ := h1
          refine ⟨_, rfl, _, _, rfl, rfl, ⟨by decide, by decide⟩, ?_⟩
          refine ⟨_, rfl, _, rfl, _, rfl, _, _, rfl, rfl, _, _, rfl, rfl, .inr ⟨_, rfl, ?_⟩⟩
          have eh : (if decide (low + size / 2 ≤ sl) = true then (1 : Int) else 0) = if size / 2 ≤ sl - low then 1 else 0 := by
            by_cases c : size / 2 ≤ sl - low
            · rw [if_pos c, if_pos (decide_eq_true (by omega))]
            · rw [if_neg c, if_neg (by rw [decide_eq_false (by omega)]; exact Bool.false_ne_true)]
          rw [eh]
          have hh : ∀ z : Int, z = (if size / 2 ≤ sl - low then 1 else 0) → z = 0 ∨ z = 1 := fun z hz => by
            rw [hz]
            split <;> omega
          generalize (if size / 2 ≤ sl - low then (1 : Int) else 0) = half at b3 h2 hh ⊢
          have hh := hh _ rfl
          refine ⟨_, rfl, _, _, rfl, rfl, ?_⟩
          refine ⟨_, rfl, _, rfl, l, led.map V.int, number, number.toNat, rfl, rfl, upd_same, ?_, ?_⟩
          · unfold ixN
            rw [if_pos b0, if_pos (by rw [List.length_map]; omega)]
          rw [upd_upd]
          refine ⟨_, rfl, _, rfl, _, rfl, _, _, rfl, rfl, .inl ⟨by omega, by omega⟩, _, _, rfl, rfl, ?_⟩
          refine ⟨_, rfl, _, _, rfl, rfl, .inl ⟨by decide, by decide⟩, _, _, rfl, rfl, _, rfl, _, _, rfl, rfl, ?_⟩
          refine ⟨⟨f, led.set number.toNat (1 - half), _, _, _, _, rfl, ?_, ?_, ?_⟩, ?_⟩
          · rw [List.map_set]
          · rw [List.length_set, show sl - (low + size / 2 * half) = sl - low - half * (size / 2) by rw [Int.mul_comm]; omega]
            exact b3
          · rw [show sl - (low + size / 2 * half) = sl - low - half * (size / 2) by rw [Int.mul_comm]; omega]
            exact h2
          · show (size / 2).toNat < size.toNat
            omega
      · have e' : ¬ 0 < size / 2 := by omega
        refine ⟨_, rfl, l, _, rfl, SqL.of upd_same, fun v H2 sm nv pt => ?_⟩
        have e2 : led = awayF 4 bs 0 (n / 2) sl := by
          rw [← h2]
          cases f with
          | zero => rfl
          | succ f =>
            unfold awayF
            rw [if_neg e']
        rw [e2] at pt
        exact q v H2 ((same_upd nl).trans sm) pt
    · rintro σ H' Q1 Q2 hq ⟨v, hv, i, j, e1, e2, k, e3, z⟩
      exact ⟨v, hv, i, j, e1, e2, k, e3, hq _ _ z⟩
theorem ok_lasked (T : At K mg "_law_asked" s_law_asked ["_law_lay", "_law_room", "_law_way_here"]) (B : Bt mg) (c_led : Cal P w K mg base 1 "_law_led" ["_law_bits", "_law_size"] spLed) (c_away : Cal P w K mg base 1 "_law_away" ["_law_bits", "_law_at", "_law_size"] spAway) :
    Cal P w K mg base 2 "_law_asked" ["_law_lay", "_law_room", "_law_way_here"] spLAsk := by
  refine cal_of T sc_law_asked (fun vs H Q E h => ?_) (fun f cdv A outer s H vs Q E hr h => ?_)
  · obtain ⟨t, p, a, way, rfl, _⟩ := h
    rfl
  · obtain ⟨t, ⟨xs, bs⟩, a, way, rfl, ⟨sa, sb, ht, hx, hb⟩, hok, h0, hn, q⟩ := h
    dsimp only at hx hb hok h0 hn q
    refine ⟨_, (pss_cons (ps_asg (pv 0) (pg_tup (by rfl) (pgs_cons (pg_name (i := 3) sc_law_asked.nd rfl (Or.inl rfl)) (pgs_cons (pg_name (i := 4) sc_law_asked.nd rfl (Or.inl rfl)) pgs_nil))))
      (pss_cons (ps_if (PW.pt (pw_or (pt_cmpR op_isN (pv 1) pe_non (nomark _)) (pw_or1 (PW.pt (pw_and (pt_cmpR op_eq (pv 2) pe_str (nomark _)) (pw_and1 (pt_cmpR op_in_seq (pv 1) (pv 3) (by rfl)))))))) (pss_one (ps_ret (pv 0))) pss_nil)
      (pss_cons (ps_if (pt_cmpR op_ne (pv 2) pe_str (nomark _)) (pss_cons (ps_set (i := 5) sc_law_asked.nd rfl (Or.inl rfl) (pe_callB (call_min2 rfl) (by rfl) B.min (by decide +kernel) (pa_cons (pe_mT PySem.F.slot_tuple_index PySem.F.type_tuple_index mt_tindex (pe_op op_catF (pv 3) (pe_tupF (pa_cons (pv 1) pa_nil))) (pa_cons (pv 1) pa_nil)) (pa_cons (pe_op op_sub (pe_callB call_len_seq (by rfl) B.len PySem.boot_len (pa_cons (pv 3) pa_nil)) pe_int) pa_nil))))
      (pss_one (ps_ret (pe_tupF (pa_cons (pe_op op_catF (pe_op op_catF (pe_tupF (pa_cons (pv 1) pa_nil)) (pe_slice sl_tupF (pv 3) po_none (po_some (pv 5)))) (pe_slice sl_tupF (pv 3) (po_some (pe_op op_add (pv 5) pe_int)) po_none)) (pa_cons (pv 4) pa_nil)))))) pss_nil)
      (pss_cons (ps_set (i := 5) sc_law_asked.nd rfl (Or.inl rfl) (pe_own c_led hr (by decide) (by rfl) (pa_cons (pv 4) (pa_cons (pe_callB call_len_seq (by rfl) B.len PySem.boot_len (pa_cons (pv 3) pa_nil)) pa_nil))))
      (pss_cons (ps_if (pt_cmpR op_in_seq (pv 1) (pv 3) (by rfl)) (pss_one (ps_set (i := 5) sc_law_asked.nd rfl (Or.inl rfl) (pe_mT PySem.F.slot_tuple_index PySem.F.type_tuple_index mt_tindex (pv 3) (pa_cons (pv 1) pa_nil)))) pss_nil)
      (pss_one (ps_ret (pe_tupF (pa_cons (pe_op op_catF (pe_op op_catF (pe_slice sl_tupF (pv 3) po_none (po_some (pv 5))) (pe_tupF (pa_cons (pv 1) pa_nil))) (pe_slice sl_tupF (pv 3) (po_some (pe_op op_add (pv 5) pe_int)) po_none)) (pa_cons (pe_own c_away hr (by decide) (by rfl) (pa_cons (pv 4) (pa_cons (pv 5) (pa_cons (pe_callB call_len_seq (by rfl) B.len PySem.boot_len (pa_cons (pv 3) pa_nil)) pa_nil)))) pa_nil)))))))))), ?_⟩
    refine ⟨_, rfl, t, _, rfl, ht.sq, rfl, _, _, rfl, _, _, rfl, rfl, ?_⟩
    cases a with
    | none =>
      exact ⟨_, rfl, rfl, _, rfl, iteT ⟨_, rfl, q _ H (Same.refl H) ⟨sa, sb, ht, hx, hb⟩⟩⟩
    | some r =>
    dsimp only [aVo]
    refine ⟨_, rfl, rfl, _, rfl, iteF ?_⟩
    have e0 : ∀ v, LayAt H v xs bs → way = "first" → r ∈ xs → LayAt H v (askF way xs bs r).1 (askF way xs bs r).2 := fun v h e1 e2 => by
      unfold askF
      rw [if_neg (by rw [e1]; decide), if_pos ⟨e1, e2⟩]
      exact h
    have q : ∀ (v : Addr) (H' : Hp), Same H H' → LayAt H' v (askF way xs bs r).1 (askF way xs bs r).2 → Q (.ref v) H' := q
    have hin : ∀ H1, Same H H1 → SqL K H1 sa (xs.map V.int) ∨ SqT K H1 sa (xs.map V.int) := fun H1 s => .inr (hx.same s).sq
    apply mid (M := fun σ H1 => σ = [some (.ref t), some (.int r), some (.str way), some (.ref sa), some (.ref sb), none] ∧ H = H1 ∧ ¬ (way = "first" ∧ r ∈ xs))
    case h =>
      intro rest
      refine ⟨_, rfl, rfl, _, rfl, ite3 (fun e => ?_) (fun e => ?_)⟩
      rotate_left
      · exact iteF (rest _ _ ⟨rfl, rfl, fun z => e (by rw [z.1])⟩)
      have e1 : way = "first" := V.str.inj e
      refine ⟨_, rfl, _, rfl, sa, _, rfl, .inr hx.sq, rfl, flat_ints xs, ?_⟩
      rw [show (if false = true then !inV (V.int r) (xs.map V.int) else inV (V.int r) (xs.map V.int)) = decide (r ∈ xs) from in_ints r xs]
      refine ⟨_, rfl, ite3 (fun e2 => ?_) (fun e2 => ?_)⟩
      · exact ⟨_, rfl, q t H (Same.refl H) (e0 t ⟨sa, sb, ht, hx, hb⟩ e1 e2)⟩
      · exact rest _ _ ⟨rfl, rfl, fun z => e2 z.2⟩
    case hR =>
      rintro _ _ ⟨rfl, rfl, nf⟩
      refine ⟨_, rfl, rfl, _, rfl, iteB (fun e => ?_) (fun e => ?_)⟩
      · have e1 : ¬ way = "tree" := fun z => by
          rw [z] at e
          revert e
          decide
        refine ⟨_, rfl, _, rfl, (by show 1 ≤ sizeLine; decide), fun v1 H1 s1 n1 p1 => ?_⟩
        refine ⟨sa, v1, _, _, rfl, rfl, hx.same s1, p1, ?_, fun v2 H2 s2 p2 => ?_⟩
        · rw [List.length_map]
          exact Nat.le_of_lt (small1000 (by show _ + 1 ≤ 1000; omega))
        have p2 : PTup H2 v2 ((xs ++ [r]).map V.int) := by
          rw [List.map_append]
          exact p2
        refine ⟨⟨v2, _, rfl, p2⟩, _, rfl, v2, xs ++ [r], r, rfl, rfl, p2.sq, List.mem_append_right _ (List.mem_singleton.mpr rfl), ?_⟩
        refine ⟨_, rfl, sa, _, rfl, .inr ((hx.same s1).same s2).sq, _, _, rfl, rfl, _, _, rfl, ?_⟩
        rw [show (if ((xs.map V.int).length : Int) - 1 < (((xs ++ [r]).idxOf r : Nat) : Int) then ((xs.map V.int).length : Int) - 1 else (((xs ++ [r]).idxOf r : Nat) : Int)) = ((goneAt xs r : Nat) : Int) by
          rw [List.length_map]
          unfold goneAt
          by_cases c : r ∈ xs
          · rw [if_pos c, List.idxOf_append, if_pos c]
            have := List.idxOf_lt_length_of_mem c
            rw [if_neg (by omega)]
          · rw [if_neg c, List.idxOf_append, if_neg c]
            have : List.idxOf r [r] = 0 := by simp
            rw [this, if_pos (by omega)]
            omega]
        have hg : goneAt xs r < xs.length := gone_lt h0
        have s12 := s1.trans s2
        refine ⟨_, rfl, (by show 1 ≤ sizeLine; decide), fun v3 H3 s3 n3 p3 => ?_⟩
        refine ⟨_, rfl, _, rfl, _, rfl, sa, _, rfl, hx.same (s12.trans s3), fun v4 H4 s4 p4 => ?_⟩
        rw [cut_toI xs (goneAt xs r) (by omega)] at p4
        refine ⟨v3, v4, _, _, rfl, rfl, p3.same s4, p4, ?_, fun v5 H5 s5 p5 => ?_⟩
        · rw [List.length_map, List.length_take]
          exact Nat.le_of_lt (small1000 (by show 1 + _ ≤ 1000; omega))
        have s35 := (s3.trans s4).trans s5
        refine ⟨_, rfl, _, rfl, _, _, rfl, rfl, _, rfl, sa, _, rfl, hx.same (s12.trans s35), fun v6 H6 s6 p6 => ?_⟩
        rw [show ((goneAt xs r : Nat) : Int) + 1 = ((goneAt xs r + 1 : Nat) : Int) by omega, cut_fromI xs (goneAt xs r + 1) (by omega)] at p6
        refine ⟨v5, v6, _, _, rfl, rfl, p5.same s6, p6, ?_, fun v7 H7 s7 p7 => ?_⟩
        · rw [List.length_append, List.length_map, List.length_map, List.length_take, List.length_drop]
          exact Nat.le_of_lt (small1000 (by show 1 + _ + _ ≤ 1000; omega))
        have s07 := (s12.trans s35).trans (s6.trans s7)
        refine ⟨_, rfl, (by show 2 ≤ sizeLine; decide), fun v8 H8 s8 n8 p8 => ?_⟩
        refine q v8 H8 (s07.trans s8) ?_
        unfold askF
        rw [if_neg e1, if_neg nf]
        refine ⟨v7, sb, p8, ?_, hb.same (s07.trans s8)⟩
        unfold putF
        rw [List.map_cons, List.map_append]
        exact p7.same s8
      · have e1 : way = "tree" := Classical.byContradiction fun z => by
          rw [decide_eq_false (fun y => z (V.str.inj y))] at e
          cases e
        have tk := hok e1
        have hs := treeAt_lt (r := r) tk
        refine ⟨_, rfl, _, rfl, sa, _, rfl, .inr hx.sq, ?_⟩
        rw [List.length_map]
        refine ⟨sb, _, bs, rfl, hb, (led_ok tk).1, ?_⟩
        apply mid (M := fun σ H1 => σ = [some (.ref t), some (.int r), some (.str way), some (.ref sa), some (.ref sb), some (.int (treeAt xs bs r : Nat))] ∧ H = H1)
        case h =>
          intro rest
          refine ⟨_, rfl, _, rfl, sa, _, rfl, .inr hx.sq, rfl, flat_ints xs, ?_⟩
          rw [show (if false = true then !inV (V.int r) (xs.map V.int) else inV (V.int r) (xs.map V.int)) = decide (r ∈ xs) from in_ints r xs]
          refine ⟨_, rfl, ite3 (fun e2 => ?_) (fun e2 => ?_)⟩
          · refine ⟨_, rfl, ⟨sa, _, rfl, hx⟩, _, rfl, sa, xs, r, rfl, rfl, hx.sq, e2, ?_⟩
            rw [show xs.idxOf r = treeAt xs bs r by unfold treeAt; rw [if_pos e2]]
            exact rest _ _ ⟨rfl, rfl⟩
          · refine rest _ _ ⟨?_, rfl⟩
            rw [show ledF 4 bs 0 0 ((xs.length : Int) / 2) = ((treeAt xs bs r : Nat) : Int) by
              unfold treeAt
              rw [if_neg e2]
              have := led_ok tk
              omega]
            rfl
        case hR =>
          rintro _ _ ⟨rfl, rfl⟩
          refine ⟨_, rfl, _, rfl, _, rfl, sa, _, rfl, hx, fun v1 H1 s1 p1 => ?_⟩
          rw [cut_toI xs (treeAt xs bs r) (by omega)] at p1
          refine ⟨_, rfl, (by show 1 ≤ sizeLine; decide), fun v2 H2 s2 n2 p2 => ?_⟩
          refine ⟨v1, v2, _, _, rfl, rfl, p1.same s2, p2, ?_, fun v3 H3 s3 p3 => ?_⟩
          · rw [List.length_map, List.length_take]
            exact Nat.le_of_lt (small1000 (by show _ + 1 ≤ 1000; omega))
          refine ⟨_, rfl, _, rfl, _, _, rfl, rfl, _, rfl, sa, _, rfl, ((hx.same s1).same s2).same s3, fun v4 H4 s4 p4 => ?_⟩
          rw [show ((treeAt xs bs r : Nat) : Int) + 1 = ((treeAt xs bs r + 1 : Nat) : Int) by omega, cut_fromI xs (treeAt xs bs r + 1) (by omega)] at p4
          refine ⟨v3, v4, _, _, rfl, rfl, p3.same s4, p4, ?_, fun v5 H5 s5 p5 => ?_⟩
          · rw [List.length_append, List.length_map, List.length_map, List.length_take, List.length_drop]
            exact Nat.le_of_lt (small1000 (by show _ + 1 + _ ≤ 1000; omega))
          have s15 := (((s1.trans s2).trans s3).trans s4).trans s5
          refine ⟨_, rfl, _, rfl, _, rfl, sa, _, rfl, .inr (hx.same s15).sq, ?_⟩
          rw [List.length_map]
          refine ⟨sb, _, _, bs, rfl, hb.same s15, away_ok tk hs, fun v6 H6 s6 p6 => ?_⟩
          refine ⟨(by show 2 ≤ sizeLine; decide), fun v7 H7 s7 n7 p7 => q v7 H7 ((s15.trans s6).trans s7) ?_⟩
          unfold askF
          rw [if_pos e1]
          refine ⟨v5, v6, p7, ?_, p6.same s7⟩
          have e5 : List.map V.int (xs.take (treeAt xs bs r)) ++ [V.int r] ++ List.map V.int (xs.drop (treeAt xs bs r + 1)) = (putAt xs (treeAt xs bs r) r).map V.int := by
            unfold putAt
            rw [List.map_append, List.map_append]
            rfl
          dsimp only
          rw [← e5]
          exact (p5.same s6).same s7
end
end Su
/-! ### R2: all lays, the law's -/
namespace Su
open PySem PySem.Spec PyProof.Rows L2
open LamX hiding takes0
theorem eqv_nums : ∀ xs ys : List Int, PyData.eqvAll (xs.map PyData.int) (ys.map PyData.int) = decide (xs = ys)
  | [], [] => by simp [PyData.eqvAll]
  | [], _ :: _ => by simp [PyData.eqvAll]
  | _ :: _, [] => by simp [PyData.eqvAll]
  | x :: xs, y :: ys => by
    have ih := eqv_nums xs ys
    by_cases h : x = y
    · simp [PyData.eqvAll, PyData.eqv, ih, h]
    · simp [PyData.eqvAll, PyData.eqv, h]
theorem tup_lt (xs ys : List Int) : PySem.W.dataLt (.tuple (xs.map PyData.int)) (.tuple (ys.map PyData.int)) = decide (xs < ys) := by
  rw [PySem.W.dataLt_tuple]
  exact PySem.W.dataLt_ints xs ys
theorem tup_eqv (xs ys : List Int) : PyData.eqv (.tuple (xs.map PyData.int)) (.tuple (ys.map PyData.int)) = decide (xs = ys) := by
  rw [← eqv_nums]
  simp [PyData.eqv]
theorem lay_lt (p q : Ly) : PySem.W.dataLt (layP p) (layP q) = decide (p.1 < q.1 ∨ (p.1 = q.1 ∧ p.2 < q.2)) := by
  unfold layP
  rw [PySem.W.dataLt_pair (by simp [PySem.W.alike, alike_ints]) (by simp [PySem.W.alike, alike_ints]), tup_eqv, tup_eqv, tup_lt, tup_lt]
  by_cases h1 : p.1 = q.1
  · have h0 : ¬ q.1 < q.1 := List.lt_irrefl _
    by_cases h2 : p.2 = q.2
    · have h3 : ¬ q.2 < q.2 := List.lt_irrefl _
      simp [h1, h2, h0, h3]
    · simp [h1, h2, h0]
  · simp [h1]
theorem lay_le (p q : Ly) : PySem.W.dataLe false layP p q = decide (p.1 < q.1 ∨ (p.1 = q.1 ∧ p.2 ≤ q.2)) := by
  show (!PySem.W.dataLt (layP q) (layP p)) = _
  rw [lay_lt]
  by_cases h : p.1 < q.1 ∨ (p.1 = q.1 ∧ p.2 ≤ q.2)
  · have h' : ¬ (q.1 < p.1 ∨ (q.1 = p.1 ∧ q.2 < p.2)) := by
      rintro (z | ⟨z1, z2⟩)
      · rcases h with h | ⟨h, _⟩
        · exact List.lt_asymm z h
        · rw [h] at z
          exact List.lt_irrefl _ z
      · rcases h with h | ⟨_, h⟩
        · rw [z1] at h
          exact List.lt_irrefl _ h
        · exact List.not_lt.mpr h z2
    rw [decide_eq_true h, decide_eq_false h']
    rfl
  · have h' : q.1 < p.1 ∨ (q.1 = p.1 ∧ q.2 < p.2) := by
      have a : ¬ p.1 < q.1 := fun z => h (.inl z)
      have b : q.1 ≤ p.1 := List.not_lt.mp a
      by_cases e : p.1 = q.1
      · exact .inr ⟨e.symm, Classical.byContradiction fun z => h (.inr ⟨e, List.not_lt.mp z⟩)⟩
      · refine .inl (Classical.byContradiction fun z => e ?_)
        exact List.le_antisymm (List.not_lt.mp z) b
    rw [decide_eq_false h, decide_eq_true h']
    rfl
theorem sortL_pw (ps : List Ly) : (sortL ps).Pairwise fun p q => p.1 < q.1 ∨ (p.1 = q.1 ∧ p.2 ≤ q.2) := by
  have h := List.pairwise_mergeSort (le := PySem.W.dataLe false layP) (fun a b c h1 h2 => by
    rw [lay_le, decide_eq_true_eq] at h1 h2 ⊢
    rcases h1 with h1 | ⟨e1, h1⟩
    · rcases h2 with h2 | ⟨e2, h2⟩
      · exact .inl (List.lt_trans h1 h2)
      · exact .inl (e2 ▸ h1)
    · rcases h2 with h2 | ⟨e2, h2⟩
      · exact .inl (e1 ▸ h2)
      · exact .inr ⟨e1.trans e2, List.le_trans h1 h2⟩) (fun a b => by
    rw [lay_le, lay_le, Bool.or_eq_true, decide_eq_true_eq, decide_eq_true_eq]
    by_cases e : a.1 = b.1
    · rcases List.le_total a.2 b.2 with h | h
      · exact .inl (.inr ⟨e, h⟩)
      · exact .inr (.inr ⟨e.symm, h⟩)
    · by_cases l : a.1 < b.1
      · exact .inl (.inl l)
      · refine .inr (.inl (Classical.byContradiction fun z => e ?_))
        exact List.le_antisymm (List.not_lt.mp z) (List.not_lt.mp l)) ps
  exact h.imp fun {a b} h => by
    rw [lay_le] at h
    exact of_decide_eq_true h
theorem sortL_perm {ps qs : List Ly} (h : ps.Perm qs) : sortL ps = sortL qs := by
  refine (((List.mergeSort_perm ps _).trans h).trans (List.mergeSort_perm qs _).symm).eq_of_pairwise (fun x y _ _ h1 h2 => ?_) (sortL_pw ps) (sortL_pw qs)
  have e : x.1 = y.1 := by
    rcases h1 with h1 | ⟨e, _⟩
    · rcases h2 with h2 | ⟨e, _⟩
      · exact absurd h2 (List.lt_asymm h1)
      · exact e.symm
    · exact e
  rcases h1 with h1 | ⟨_, h1⟩
  · rw [e] at h1
    exact absurd h1 (List.lt_irrefl _)
  · rcases h2 with h2 | ⟨_, h2⟩
    · rw [e] at h2
      exact absurd h2 (List.lt_irrefl _)
    · exact Prod.ext e (List.le_antisymm h1 h2)
/-! lays that are sorted -/
def tsort (ts : List (V × Ly)) : List (V × Ly) := ts.mergeSort (PySem.W.dataLe false fun t : V × Ly => layP t.2)
def tdat (ts : List (V × Ly)) : List (V × PyData) := ts.map fun t => (t.1, layP t.2)
theorem tdat_alike (ts : List (V × Ly)) : PySem.W.AllAlike ((tdat ts).map (·.2)) := by
  intro d hd d' hd'
  obtain ⟨z, hz, rfl⟩ := List.mem_map.mp hd
  obtain ⟨t, ht, rfl⟩ := List.mem_map.mp hz
  obtain ⟨z', hz', rfl⟩ := List.mem_map.mp hd'
  obtain ⟨t', ht', rfl⟩ := List.mem_map.mp hz'
  exact alike_lay _ _
theorem tdat_sortable (ts : List (V × Ly)) : PySem.W.Sortable ((tdat ts).map (·.2)) := by
  refine .inl fun d hd => ?_
  obtain ⟨z, hz, rfl⟩ := List.mem_map.mp hd
  obtain ⟨t, ht, rfl⟩ := List.mem_map.mp hz
  exact ⟨_, _, rfl⟩
theorem tdat_deep (ts : List (V × Ly)) : ∀ z ∈ tdat ts, z.2.depth ≤ 60 := by
  intro z hz
  obtain ⟨t, ht, rfl⟩ := List.mem_map.mp hz
  exact lay_depth _
theorem tdat_srt (ts : List (V × Ly)) : (srtD (tdat ts)).map (·.1) = (tsort ts).map (·.1) := by
  have es : srtD (tdat ts) = (tsort ts).map fun t => (t.1, layP t.2) := (List.map_mergeSort (r := PySem.W.dataLe false fun t : V × Ly => layP t.2) (s := PySem.W.dataLe false (fun z : V × PyData => z.2)) (f := fun t : V × Ly => ((t.1, layP t.2) : V × PyData)) (l := ts) fun x _ y _ => rfl).symm
  rw [es, List.map_map]
  rfl
theorem tsort_snd (ts : List (V × Ly)) : (tsort ts).map (·.2) = sortL (ts.map (·.2)) := List.map_mergeSort (r := PySem.W.dataLe false fun t : V × Ly => layP t.2) (s := PySem.W.dataLe false layP) (f := fun t : V × Ly => t.2) (l := ts) fun x _ y _ => rfl
theorem tdat_fst (ts : List (V × Ly)) : (tdat ts).map (·.1) = ts.map (·.1) := by
  unfold tdat
  rw [List.map_map]
  rfl
theorem ls_ts {H : Hp} : ∀ {us : List V} {ps : List Ly}, LsAt H us ps → ∃ ts : List (V × Ly), us = ts.map (·.1) ∧ ps = ts.map (·.2) ∧ ∀ t ∈ ts, ∃ u, t.1 = .ref u ∧ LayAt H u t.2.1 t.2.2
  | _, _, .nil => ⟨[], rfl, rfl, fun t h => nomatch h⟩
  | _, _, .cons (a := a) (p := p) h t => by
    obtain ⟨ts, e1, e2, h2⟩ := ls_ts t
    refine ⟨(.ref a, p) :: ts, by rw [e1]; rfl, by rw [e2]; rfl, fun x hx => ?_⟩
    rcases List.mem_cons.mp hx with rfl | hx
    · exact ⟨a, rfl, h⟩
    · exact h2 x hx
theorem ts_ls {H : Hp} : ∀ {ts : List (V × Ly)}, (∀ t ∈ ts, ∃ u, t.1 = .ref u ∧ LayAt H u t.2.1 t.2.2) → LsAt H (ts.map (·.1)) (ts.map (·.2))
  | [], _ => .nil
  | (v, p) :: ts, h => by
    obtain ⟨u, e, l⟩ := h _ List.mem_cons_self
    dsimp only at e l
    subst e
    exact .cons l (ts_ls fun x hx => h x (List.mem_cons_of_mem _ hx))
theorem tdat_dp {K : PySem.W.Frag} {H : Hp} {ts : List (V × Ly)} (h : ∀ t ∈ ts, ∃ u, t.1 = .ref u ∧ LayAt H u t.2.1 t.2.2) : ∀ z ∈ tdat ts, Dp K H z.1 z.2 := by
  intro z hz
  obtain ⟨t, ht, rfl⟩ := List.mem_map.mp hz
  obtain ⟨u, e, l⟩ := h t ht
  dsimp only
  rw [e]
  exact lay_dp l
theorem tsort_ls {H : Hp} {ts : List (V × Ly)} (h : ∀ t ∈ ts, ∃ u, t.1 = .ref u ∧ LayAt H u t.2.1 t.2.2) : LsAt H ((tsort ts).map (·.1)) (sortL (ts.map (·.2))) := by
  rw [← tsort_snd]
  exact ts_ls fun t ht => h t (List.mem_mergeSort.mp ht)
def bitsM : Nat → List (List Int)
  | 0 => [[]]
  | n + 1 => (bitsM n).map (fun b => b ++ [0]) ++ (bitsM n).map (fun b => b ++ [1])
theorem mem_bitsM : ∀ {n : Nat} {b : List Int}, b ∈ bitsM n ↔ b ∈ bitsL n
  | 0, b => Iff.rfl
  | n + 1, b => by
    unfold bitsM bitsL
    rw [List.mem_append, List.mem_flatMap]
    constructor
    · rintro (h | h)
      · obtain ⟨c, hc, rfl⟩ := List.mem_map.mp h
        exact ⟨c, mem_bitsM.mp hc, List.mem_cons_self⟩
      · obtain ⟨c, hc, rfl⟩ := List.mem_map.mp h
        exact ⟨c, mem_bitsM.mp hc, List.mem_cons_of_mem _ (List.mem_singleton.mpr rfl)⟩
    · rintro ⟨c, hc, h⟩
      rcases List.mem_cons.mp h with rfl | h
      · exact .inl (List.mem_map.mpr ⟨c, mem_bitsM.mpr hc, rfl⟩)
      · rw [List.mem_singleton.mp h]
        exact .inr (List.mem_map.mpr ⟨c, mem_bitsM.mpr hc, rfl⟩)
theorem nodup_bitsM : ∀ n, (bitsM n).Nodup
  | 0 => List.nodup_cons.mpr ⟨List.not_mem_nil, List.nodup_nil⟩
  | n + 1 => by
    unfold bitsM
    rw [List.nodup_append]
    refine ⟨nodup_map (nodup_bitsM n) fun a _ b _ e => (snoc_inj e).1, nodup_map (nodup_bitsM n) fun a _ b _ e => (snoc_inj e).1, fun a ha b hb => ?_⟩
    obtain ⟨c, _, rfl⟩ := List.mem_map.mp ha
    obtain ⟨d, _, rfl⟩ := List.mem_map.mp hb
    intro e
    have := (snoc_inj e).2
    omega
theorem bitsM_len (n : Nat) : (bitsM n).length = 2 ^ n := by
  rw [← bits_len n]
  exact ((List.perm_ext_iff_of_nodup (nodup_bitsM n) (nodup_bits n)).mpr fun b => mem_bitsM).length_eq
def laysM (ms : List Int) (n m : Nat) : List Ly := (slotsL ms n).flatMap fun s => (bitsM m).map fun b => (s, b)
theorem laysM_perm {ms : List Int} (hm : (-1 : Int) ∉ ms) (hn : ms.Nodup) (n m : Nat) : (laysM ms n m).Perm (laysL ms n m) := by
  refine (List.perm_ext_iff_of_nodup ?_ (nodup_lays hm hn n m)).mpr fun p => ?_
  · refine nodup_flat (nodup_slots hm hn n) (fun s _ => nodup_map (nodup_bitsM m) fun a _ b _ e => congrArg Prod.snd e) fun s _ t _ ne x hx hy => ?_
    obtain ⟨a, _, rfl⟩ := List.mem_map.mp hx
    obtain ⟨b, _, e⟩ := List.mem_map.mp hy
    exact ne (congrArg Prod.fst e).symm
  · unfold laysM laysL
    rw [List.mem_flatMap, List.mem_flatMap]
    constructor
    · rintro ⟨s, hs, h⟩
      obtain ⟨b, hb, rfl⟩ := List.mem_map.mp h
      exact ⟨s, hs, List.mem_map.mpr ⟨b, mem_bitsM.mp hb, rfl⟩⟩
    · rintro ⟨s, hs, h⟩
      obtain ⟨b, hb, rfl⟩ := List.mem_map.mp h
      exact ⟨s, hs, List.mem_map.mpr ⟨b, mem_bitsM.mpr hb, rfl⟩⟩
def spLAll : Sp := fun vs H Q _ => ∃ (rm : Addr) (ms : List Int) (n : Nat) (x : Str), vs = [.ref rm, .int n, .str x] ∧ H rm = some (.lst (ms.map V.int)) ∧ Kind n x ∧ ms.length ≤ 12 ∧ (-1 : Int) ∉ ms ∧ ms.Nodup ∧ cntS n ms.length * 2 ^ (bitsN n x).toNat ≤ 100000 ∧
  ∀ L us ps H', Same H H' → H L = none → H' L = some (.lst us) → ps.Perm (laysL ms n (bitsN n x).toNat) → LsAt H' us ps → Q (.ref L) H'
theorem bits_row {K : PySem.W.Frag} {B : Addr} {bs : List V} {ss : List (List Int)} {a0 a1 a2 a3 a4 a5 a6 a8 a9 a10 : Option V} {H5 : Hp} {o : Int} {Qd : VK} (hB : H5 B = some (.lst bs)) (hbs : TsAt H5 bs ss) (l : ss.length ≤ 1000) (l2 : ∀ s ∈ ss, s.length ≤ 100)
    (q : ∀ C ws H6, Same H5 H6 → H6 C = some (.lst ws) → TsAt H6 ws (ss.map fun b => b ++ [o]) → Qd (.ref C) H6) :
    tLc (iList K (tVar 7)) (gName 11) tYes (tOp rCatF (tVar 11) (tTupF (tCons (tC (.int o)) tNil))) [11] [a0, a1, a2, a3, a4, a5, a6, some (.ref B), a8, a9, a10, none, none] H5 Qd := by
  refine ⟨_, rfl, B, rfl, ⟨_, SqL.of hB⟩, fun C nC => ?_⟩
  have sC : Same H5 (upd H5 C (.lst [])) := same_upd nC
  refine lc_list (K := K) (a := B) (xs := bs) (fun j H6 => ∃ cs, H6 C = some (.lst cs) ∧ TsAt H6 cs ((ss.take j).map fun b => b ++ [o]) ∧ Same H5 H6) ?_ ?_ ?_ ?_
  · exact ⟨[], upd_same, by simpa using TsAt.nil, sC⟩
  · rintro j H6 _ ⟨_, _, _, t6⟩
    exact SqL.of (t6 _ _ hB)
  · rintro j v H6 hv ⟨cs, hC, hcs, t6⟩
    obtain ⟨a, s, rfl, es, hs⟩ := hbs.get hv
    have sl := l2 s (List.mem_of_getElem? es)
    refine ⟨rfl, tyes ?_⟩
    refine ⟨_, rfl, by show 1 ≤ sizeLine; decide, fun u H7 t7 nu pu => ?_⟩
    have hs6 := hs.same t6
    refine ⟨a, u, _, _, rfl, rfl, hs6.same t7, pu, ?_, fun y H8 t8 py => ?_⟩
    · rw [List.length_map]
      exact Nat.le_of_lt (small1000 (by show _ + 1 ≤ 1000; omega))
    have py : PTup H8 y ((s ++ [o]).map V.int) := by
      rw [List.map_append]
      exact py
    have t68 := t7.trans t8
    have hC8 := t68 _ _ hC
    have kC : KP H8 (upd H8 C (.lst (cs ++ [V.ref y]))) := KP.lst hC8
    refine ⟨cs, hC8, ?_, cs ++ [.ref y], upd_same, ?_, fun c o' ec => ?_⟩
    · have z := hcs.len
      rw [List.length_map, List.length_take] at z
      exact small1000 (by omega)
    · rw [List.take_add_one, es, List.map_append]
      exact ((hcs.same t68).app (.cons py .nil)).keep kC
    · rw [upd_ne (ne_of_none ec nC)]
      exact t68 _ _ (t6 _ _ ec)
  · rintro H6 ⟨cs, hC, hcs, t6⟩
    rw [hbs.len, List.take_length] at hcs
    exact q C cs H6 t6 hC hcs
theorem sc_law_all_lays : FnScope ["_law_rooms", "_law_size", "_law_way_here", "_law_found", "_law_slot", "_law_longer", "_law_some", "_law_bits", "_law_bit", "_law_lays", "_law_slots", "_law_row", "_law_room"] ["_law_rooms", "_law_size", "_law_way_here"] (defScope s_law_all_lays) := ⟨rfl, rfl, rfl, by decide +kernel, rfl, by decide +kernel, by decide +kernel⟩
section
variable {P : Program} {w : World} {K : PySem.W.Frag} {mg : Str → Option Value} {base : Heap}
theorem ok_lall (T : At K mg "_law_all_lays" s_law_all_lays ["_law_rooms", "_law_size", "_law_way_here"]) (B : Bt mg) : Cal P w K mg base 1 "_law_all_lays" ["_law_rooms", "_law_size", "_law_way_here"] spLAll := by
  refine cal_of T sc_law_all_lays (fun vs H Q E h => ?_) (fun f cdv A outer s H vs Q E hr h => ?_)
  · obtain ⟨rm, ms, n, x, rfl, _⟩ := h
    rfl
  · obtain ⟨rm, ms, n, x, rfl, hm, kd, m12, nm, nd, few, q⟩ := h
    have n8 := kd.hi
    have n1 := kd.lo
    refine ⟨_, (pss_cons (ps_set (i := 3) sc_law_all_lays.nd rfl (Or.inl rfl) (pe_lst (pa_cons (pe_tupF pa_nil) pa_nil)))
      (pss_cons (ps_for PassesOwn.never rfl (pi_range1 (by rfl) B.range (pa_cons (pv 1) pa_nil)) (pg_name (i := 4) sc_law_all_lays.nd rfl (Or.inl rfl)) (pss_cons (ps_set (i := 5) sc_law_all_lays.nd rfl (Or.inl rfl) (pe_lst pa_nil))
      (pss_cons (ps_for PassesOwn.never rfl (pi_list (pv 3)) (pg_name (i := 6) sc_law_all_lays.nd rfl (Or.inr rfl)) (pss_one (ps_set (i := 5) sc_law_all_lays.nd rfl (Or.inl rfl) (pe_op op_cat (pv 5) (pe_lc (own := [("_law_room", 12)]) (g := (gName 12)) (tt := (tOr (tTest (tOp rEq (tVar 12) (tUn (rU fun i => .int (-i)) (tC (.int 1))))) (tTest (tOp (rIn K true) (tVar 12) (tVar 6))))) (te := (tOp rCatF (tVar 6) (tTupF (tCons (tVar 12) tNil)))) (by rfl) sc_law_all_lays.nd (pi_list (pe_op op_cat (pe_lst (pa_cons (pe_un un_neg pe_int) pa_nil)) (pv 0))) (blkOk_by (own := [("_law_room", 12)]) (N := ["_law_rooms", "_law_size", "_law_way_here", "_law_found", "_law_slot", "_law_longer", "_law_some", "_law_bits", "_law_bit", "_law_lays", "_law_slots", "_law_row", "_law_room"]) (sc := defScope s_law_all_lays) (by decide +kernel)) (fun _ _ _ _ _ => (pg_name (i := 12) sc_law_all_lays.nd rfl (Or.inl rfl))) (fun _ _ _ _ _ => pts_one (PW.pt (pw_or (pt_cmpR op_eq (pv 12) (pe_un un_neg pe_int) (nomark _)) (pw_or1 (pt_cmpR op_notIn_seq (pv 12) (pv 6) (by rfl)))))) (fun _ _ _ _ _ => (pe_op op_catF (pv 6) (pe_tupF (pa_cons (pv 12) pa_nil)))))))))
      (pss_one (ps_set (i := 3) sc_law_all_lays.nd rfl (Or.inl rfl) (pv 5))))))
      (pss_cons (ps_set (i := 7) sc_law_all_lays.nd rfl (Or.inl rfl) (pe_lst (pa_cons (pe_tupF pa_nil) pa_nil)))
      (pss_cons (ps_for PassesOwn.never rfl (pi_range1 (by rfl) B.range (pa_cons (pe_op op_mul (pe_op op_sub (pv 1) pe_int) (pe_callTy call_int1 (by rfl) B.int (by decide +kernel) (pa_cons (pe_cmpR op_eq (pv 2) pe_str (nomark _)) pa_nil))) pa_nil)) (pg_name (i := 8) sc_law_all_lays.nd rfl (Or.inl rfl)) (pss_one (ps_set (i := 7) sc_law_all_lays.nd rfl (Or.inl rfl) (pe_op op_cat (pe_lc (own := [("_law_row", 11)]) (g := (gName 11)) (tt := tYes) (te := (tOp rCatF (tVar 11) (tTupF (tCons (tC (.int 0)) tNil)))) (by rfl) sc_law_all_lays.nd (pi_list (pv 7)) (blkOk_by (own := [("_law_row", 11)]) (N := ["_law_rooms", "_law_size", "_law_way_here", "_law_found", "_law_slot", "_law_longer", "_law_some", "_law_bits", "_law_bit", "_law_lays", "_law_slots", "_law_row", "_law_room"]) (sc := defScope s_law_all_lays) (by decide +kernel)) (fun _ _ _ _ _ => (pg_name (i := 11) sc_law_all_lays.nd rfl (Or.inl rfl))) (fun _ _ _ _ _ => pts_nil) (fun _ _ _ _ _ => (pe_op op_catF (pv 11) (pe_tupF (pa_cons pe_int pa_nil))))) (pe_lc (own := [("_law_row", 11)]) (g := (gName 11)) (tt := tYes) (te := (tOp rCatF (tVar 11) (tTupF (tCons (tC (.int 1)) tNil)))) (by rfl) sc_law_all_lays.nd (pi_list (pv 7)) (blkOk_by (own := [("_law_row", 11)]) (N := ["_law_rooms", "_law_size", "_law_way_here", "_law_found", "_law_slot", "_law_longer", "_law_some", "_law_bits", "_law_bit", "_law_lays", "_law_slots", "_law_row", "_law_room"]) (sc := defScope s_law_all_lays) (by decide +kernel)) (fun _ _ _ _ _ => (pg_name (i := 11) sc_law_all_lays.nd rfl (Or.inl rfl))) (fun _ _ _ _ _ => pts_nil) (fun _ _ _ _ _ => (pe_op op_catF (pv 11) (pe_tupF (pa_cons pe_int pa_nil)))))))))
      (pss_cons (ps_set (i := 9) sc_law_all_lays.nd rfl (Or.inl rfl) (pe_lst pa_nil))
      (pss_cons (ps_for PassesOwn.never rfl (pi_list (pv 3)) (pg_name (i := 10) sc_law_all_lays.nd rfl (Or.inr rfl)) (pss_one (ps_set (i := 9) sc_law_all_lays.nd rfl (Or.inl rfl) (pe_op op_cat (pv 9) (pe_lc (own := [("_law_row", 11)]) (g := (gName 11)) (tt := tYes) (te := (tTupF (tCons (tVar 10) (tCons (tVar 11) tNil)))) (by rfl) sc_law_all_lays.nd (pi_list (pv 7)) (blkOk_by (own := [("_law_row", 11)]) (N := ["_law_rooms", "_law_size", "_law_way_here", "_law_found", "_law_slot", "_law_longer", "_law_some", "_law_bits", "_law_bit", "_law_lays", "_law_slots", "_law_row", "_law_room"]) (sc := defScope s_law_all_lays) (by decide +kernel)) (fun _ _ _ _ _ => (pg_name (i := 11) sc_law_all_lays.nd rfl (Or.inl rfl))) (fun _ _ _ _ _ => pts_nil) (fun _ _ _ _ _ => (pe_tupF (pa_cons (pv 10) (pa_cons (pv 11) pa_nil)))))))))
      (pss_one (ps_ret (pe_callB (show CallR _ _ (rSortedDt K) from cr_sortedDt (units65 hr)) (by rfl) B.sorted (by decide +kernel) (pa_cons (pv 9) pa_nil)))))))))), ?_⟩
    have p2 : 1 ≤ 2 ^ (bitsN n x).toNat := Nat.one_le_two_pow
    have fewS : ∀ i, i ≤ n → (slotsL ms i).length ≤ 100000 := fun i hi => by
      rw [slots_len nm nd]
      refine Nat.le_trans (cnt_mono _ hi) (Nat.le_trans ?_ few)
      exact Nat.le_mul_of_pos_right _ p2
    have zl : (100000 : Nat) < sizeLine := by rw [sizeLine_eq]; omega
    refine ⟨(by show 0 ≤ sizeLine; exact Nat.zero_le _), fun e0 H1 t1 n1 p0 => ⟨by show 1 ≤ sizeLine; decide, fun S nS => ?_⟩⟩
    have s0 : Same H (upd H1 S (.lst [.ref e0])) := t1.trans (same_upd nS)
    refine ⟨_, rfl, (n : Int), rfl, by omega, by omega, ?_⟩
    rw [Int.toNat_natCast]
    refine for_range (lo := 0) (n := n) (fun i σ H2 => ∃ (S : Addr) (us : List V) (y4 y5 y6 : Option V), σ = [some (.ref rm), some (.int n), some (.str x), some (.ref S), y4, y5, y6, none, none, none, none, none, none] ∧ H2 S = some (.lst us) ∧ TsAt H2 us (slotsL ms i) ∧ Same H H2) ?_ ?_ ?_
    · exact ⟨S, _, none, none, none, rfl, upd_same, .cons (p0.same (same_upd nS)) .nil, s0⟩
    · rintro i σ H2 hi ⟨S, us, y4, y5, y6, rfl, hS, hus, t2⟩
      refine ⟨(by show 0 ≤ sizeLine; exact Nat.zero_le _), fun D0 nD0 => ?_⟩
      have sD0 : Same H2 (upd H2 D0 (.lst [])) := same_upd nD0
      have hD0 : (upd H2 D0 (.lst [])) D0 = some (.lst []) := upd_same
      generalize upd H2 D0 (.lst []) = H3 at sD0 hD0 ⊢
      refine ⟨_, rfl, S, rfl, ⟨_, SqL.of (sD0 _ _ hS)⟩, ?_⟩
      refine for_list (K := K) (a := S) (xs := us) (fun j σ H4 => ∃ (D : Addr) (ws : List V) (y6 : Option V), σ = [some (.ref rm), some (.int n), some (.str x), some (.ref S), some (.int (0 + (i : Int))), some (.ref D), y6, none, none, none, none, none, none] ∧ H4 D = some (.lst ws) ∧ TsAt H4 ws (((slotsL ms i).take j).flatMap (extO ms)) ∧ Same H3 H4) ?_ ?_ ?_ ?_
      · exact ⟨D0, [], y6, rfl, hD0, by simpa using TsAt.nil, Same.refl _⟩
      · rintro j σ H4 _ ⟨_, _, _, _, _, _, t4⟩
        exact SqL.of (t4 _ _ (sD0 _ _ hS))
      · rintro j v σ H4 hv ⟨D, ws, y6, rfl, hD, hws, t4⟩
        obtain ⟨a, s, rfl, es, hs⟩ := hus.get hv
        have hs4 := (hs.same sD0).same t4
        refine ⟨_, rfl, 1, rfl, by show 1 ≤ sizeLine; decide, fun b nb => ?_⟩
        have hm4 : (upd H4 b (.lst [V.int (-1)])) rm = some (.lst (ms.map V.int)) := (same_upd nb) _ _ (t4 _ _ (sD0 _ _ (t2 _ _ hm)))
        refine ⟨_, rfl, b, rm, _, _, rfl, rfl, upd_same, hm4, by rw [List.length_map]; show 1 + _ ≤ _; omega, fun R nR => ?_⟩
        have sR : Same H4 (upd (upd H4 b (.lst [V.int (-1)])) R (.lst ([V.int (-1)] ++ ms.map V.int))) := (same_upd nb).trans (same_upd nR)
        have eR : [V.int (-1)] ++ ms.map V.int = ((-1) :: ms).map V.int := rfl
        rw [eR] at sR ⊢
        have hR : (upd (upd H4 b (.lst [V.int (-1)])) R (.lst (((-1) :: ms).map V.int))) R = some (.lst (((-1) :: ms).map V.int)) := upd_same
        generalize upd (upd H4 b (.lst [V.int (-1)])) R (.lst (((-1) :: ms).map V.int)) = H5 at sR hR ⊢
        refine ⟨R, rfl, ⟨_, SqL.of hR⟩, fun C nC => ?_⟩
        have sC : Same H5 (upd H5 C (.lst [])) := same_upd nC
        have z3 : ∀ l, (((slotsL ms i).take j).flatMap (extO ms)).length + (((((-1) :: ms).take l).filter fun o => decide (o = -1) || !decide (o ∈ s)).map fun o => s ++ [o]).length ≤ 100000 := fun l => by
          have z1 := fewS (i + 1) (by omega)
          have e1 : slotsL ms (i + 1) = ((slotsL ms i).take j).flatMap (extO ms) ++ (extO ms s ++ ((slotsL ms i).drop (j + 1)).flatMap (extO ms)) := by
            show (slotsL ms i).flatMap (extO ms) = _
            rw [← List.append_assoc, ← flatMap_take es, ← List.flatMap_append, List.take_append_drop]
          rw [e1, List.length_append, List.length_append] at z1
          have z2 : (((((-1) :: ms).take l).filter fun o => decide (o = -1) || !decide (o ∈ s)).map fun o => s ++ [o]).length ≤ (extO ms s).length := by
            unfold extO nextO
            rw [List.length_map, List.length_map]
            exact ((List.take_sublist l _).filter _).length_le
          omega
        have sl : s.length = i := ((mem_slots nm).mp (List.mem_of_getElem? es)).1
        have t05 := sR.trans sC
        refine lc_list (K := K) (a := R) (xs := ((-1) :: ms).map V.int) (fun l H6 => ∃ cs, H6 C = some (.lst cs) ∧ TsAt H6 cs (((((-1) :: ms).take l).filter fun o => decide (o = -1) || !decide (o ∈ s)).map fun o => s ++ [o]) ∧ Same H5 H6) ?_ ?_ ?_ ?_
        · exact ⟨[], upd_same, by simpa using TsAt.nil, sC⟩
        · rintro l H6 _ ⟨_, _, _, t6⟩
          exact SqL.of (t6 _ _ hR)
        · rintro l v H6 hv ⟨cs, hC, hcs, t6⟩
          rw [List.getElem?_map] at hv
          obtain ⟨o, eo, rfl⟩ := Option.map_eq_some_iff.mp hv
          have hs6 := (hs4.same sR).same t6
          refine ⟨rfl, ?_⟩
          have fin : (decide (o = -1) || !decide (o ∈ s)) = true → tOp rCatF (tVar 6) (tTupF (tCons (tVar 12) tNil)) [some (.ref rm), some (.int n), some (.str x), some (.ref S), some (.int (0 + (i : Int))), some (.ref D), some (.ref a), none, none, none, none, none, some (.int o)] H6 fun y H7 => ∃ acc, H7 C = some (.lst acc) ∧ acc.length < sizeLine ∧
              ∃ cs, (upd H7 C (.lst (acc ++ [y]))) C = some (.lst cs) ∧ TsAt (upd H7 C (.lst (acc ++ [y]))) cs (((((-1) :: ms).take (l + 1)).filter fun o => decide (o = -1) || !decide (o ∈ s)).map fun o => s ++ [o]) ∧ Same H5 (upd H7 C (.lst (acc ++ [y]))) := by
            intro z
            refine ⟨_, rfl, _, rfl, by show 1 ≤ sizeLine; decide, fun u H7 t7 nu pu => ?_⟩
            refine ⟨a, u, _, _, rfl, rfl, hs6.same t7, pu, ?_, fun y H8 t8 py => ?_⟩
            · rw [List.length_map]
              show _ + 1 ≤ _
              omega
            have py : PTup H8 y ((s ++ [o]).map V.int) := by
              rw [List.map_append]
              exact py
            have t68 := t7.trans t8
            have hC8 := t68 _ _ hC
            have kC : KP H8 (upd H8 C (.lst (cs ++ [V.ref y]))) := KP.lst hC8
            have all := (hcs.same t68).app (.cons py .nil)
            have eT : ((((-1) :: ms).take (l + 1)).filter fun o => decide (o = -1) || !decide (o ∈ s)) = ((((-1) :: ms).take l).filter fun o => decide (o = -1) || !decide (o ∈ s)) ++ [o] := by
              rw [List.take_add_one, eo, List.filter_append]
              congr 1
              show [o].filter _ = [o]
              rw [List.filter_cons, if_pos z]
              rfl
            refine ⟨cs, hC8, ?_, cs ++ [.ref y], upd_same, ?_, fun c o' ec => ?_⟩
            · have := z3 l
              rw [hcs.len]
              omega
            · rw [eT, List.map_append]
              exact all.keep kC
            · rw [upd_ne (ne_of_none ec nC)]
              exact t68 _ _ (t6 _ _ ec)
          refine ⟨_, rfl, 1, rfl, rfl, _, rfl, iteB (fun z => ?_) (fun z => ?_)⟩
          · have e1 : o = -1 := V.int.inj (of_decide_eq_true z)
            refine iteB (fun _ => fin (by simp [e1])) (fun z => absurd z (by decide))
          · have ne : o ≠ -1 := fun e => (of_decide_eq_false z) (by rw [e])
            refine ⟨_, rfl, _, rfl, a, _, rfl, .inr hs6.sq, rfl, flat_ints s, _, rfl, ?_⟩
            rw [show (if true = true then !inV (V.int o) (s.map V.int) else inV (V.int o) (s.map V.int)) = !decide (o ∈ s) by rw [if_pos rfl, in_ints]]
            refine iteB (fun z => fin (by rw [z, Bool.or_true])) (fun z => ?_)
            refine ⟨cs, hC, ?_, t6⟩
            have eT : ((((-1) :: ms).take (l + 1)).filter fun o => decide (o = -1) || !decide (o ∈ s)) = ((((-1) :: ms).take l).filter fun o => decide (o = -1) || !decide (o ∈ s)) := by
              rw [List.take_add_one, eo, List.filter_append]
              show _ ++ [o].filter _ = _
              rw [List.filter_cons, if_neg (by rw [z, decide_eq_false ne]; decide)]
              simp
            rw [eT]
            exact hcs
        · rintro H6 ⟨cs, hC, hcs, t6⟩
          rw [List.length_map, List.take_length] at hcs
          have t46 := sR.trans t6
          have hD6 := t46 _ _ hD
          have hws6 := hws.same t46
          have lw := hws.len
          have lc := hcs.len
          have z4 := z3 (((-1) :: ms).length)
          rw [List.take_length] at z4
          refine ⟨D, C, ws, cs, rfl, rfl, hD6, hC, by omega, fun D2 nD2 => ?_⟩
          exact ⟨D2, _, _, rfl, upd_same, by rw [flatMap_take es]; exact (hws6.app hcs).same (same_upd nD2), t4.trans (t46.trans (same_upd nD2))⟩
      · rintro σ H4 ⟨D, ws, y6, rfl, hD, hws, t4⟩
        rw [hus.len, List.take_length] at hws
        exact ⟨_, rfl, D, ws, _, _, _, rfl, hD, hws, t2.trans (sD0.trans t4)⟩
    · rintro σ H2 ⟨S, us, y4, y5, y6, rfl, hS, hus, t2⟩
      refine ⟨(by show 0 ≤ sizeLine; exact Nat.zero_le _), fun e0 H3 t3 n3 p3 => ⟨by show 1 ≤ sizeLine; decide, fun B0 nB => ?_⟩⟩
      have t4 : Same H2 (upd H3 B0 (.lst [.ref e0])) := t3.trans (same_upd nB)
      have b7 : 0 ≤ bitsN n x ∧ bitsN n x ≤ 7 := by
        unfold bitsN
        split <;> omega
      have eb : ((n : Int) - 1) * (if decide (V.str x = V.str "tree") = true then 1 else 0) = bitsN n x := by
        unfold bitsN
        by_cases e : x = "tree"
        · rw [if_pos e, if_pos (decide_eq_true (by rw [e])), Int.mul_one]
        · rw [if_neg e, if_neg (by rw [decide_eq_false (fun z => e (V.str.inj z))]; exact Bool.false_ne_true), Int.mul_zero]
      refine ⟨_, rfl, _, _, rfl, rfl, _, rfl, rfl, .inr ⟨_, rfl, _, _, rfl, rfl, ?_⟩⟩
      refine ⟨.inl ⟨by omega, by omega⟩, bitsN n x, congrArg (fun z => [V.int z]) eb, by omega, by omega, ?_⟩
      refine for_range (lo := 0) (n := (bitsN n x).toNat) (fun i σ H5 => ∃ (B : Addr) (bs : List V) (y8 : Option V), σ = [some (.ref rm), some (.int n), some (.str x), some (.ref S), y4, y5, y6, some (.ref B), y8, none, none, none, none] ∧ H5 B = some (.lst bs) ∧ TsAt H5 bs (bitsM i) ∧ Same H2 H5) ?_ ?_ ?_
      · exact ⟨B0, _, none, rfl, upd_same, .cons (p3.same (same_upd nB)) .nil, t4⟩
      · rintro i σ H5 hi ⟨B, bs, y8, rfl, hB, hbs, t5⟩
        have l1 : (bitsM i).length ≤ 128 := by
          rw [bitsM_len]
          exact Nat.pow_le_pow_right (n := 2) (by decide) (show i ≤ 7 by omega)
        have l2 : ∀ s ∈ bitsM i, s.length ≤ 100 := fun s hs => by
          have := (mem_bits.mp (mem_bitsM.mp hs)).1
          omega
        dsimp only [gName, tAsg, tOp]
        refine bits_row (K := K) (a4 := y4) (o := 0) hB hbs (by omega) l2 fun C ws H6 t6 hC hws => ?_
        refine bits_row (K := K) (a4 := y4) (o := 1) (t6 _ _ hB) (hbs.same t6) (by omega) l2 fun C2 ws2 H7 t7 hC2 hws2 => ?_
        refine ⟨C, C2, ws, ws2, rfl, rfl, t7 _ _ hC, hC2, ?_, fun D nD => ?_⟩
        · rw [hws.len, hws2.len, List.length_map, List.length_map]
          exact Nat.le_of_lt (small1000 (by omega))
        · exact ⟨D, _, _, rfl, upd_same, ((hws.same t7).app hws2).same (same_upd nD), t5.trans ((t6.trans t7).trans (same_upd nD))⟩
      · rintro σ H5 ⟨B, bs, y8, rfl, hB, hbs, t5⟩
        generalize hm : (bitsN n x).toNat = m at few hbs q p2
        have m7 : m ≤ 7 := by omega
        have hS5 := t5 _ _ hS
        have hus5 := hus.same t5
        refine ⟨(by show 0 ≤ sizeLine; exact Nat.zero_le _), fun D0 nD0 => ?_⟩
        have sD0 : Same H5 (upd H5 D0 (.lst [])) := same_upd nD0
        have hD0 : (upd H5 D0 (.lst [])) D0 = some (.lst []) := upd_same
        generalize upd H5 D0 (.lst []) = H6 at sD0 hD0 ⊢
        refine ⟨_, rfl, S, rfl, ⟨_, SqL.of (sD0 _ _ hS5)⟩, ?_⟩
        have few4 := few
        rw [← slots_len nm nd, ← bitsM_len] at few4
        have bl1 : 1 ≤ (bitsM m).length := by rw [bitsM_len]; exact p2
        have zf : ∀ j, j ≤ (slotsL ms n).length → (((slotsL ms n).take j).flatMap fun s => (bitsM m).map fun b => (s, b)).length = j * (bitsM m).length := fun j hj => by
          have : ∀ l : List (List Int), (l.flatMap fun s => (bitsM m).map fun b => (s, b)).length = l.length * (bitsM m).length := by
            intro l
            induction l with
            | nil => simp
            | cons s l ih => rw [List.flatMap_cons, List.length_append, ih, List.length_map, List.length_cons, Nat.add_mul, Nat.one_mul, Nat.add_comm]
          rw [this, List.length_take, Nat.min_eq_left hj]
        refine for_list (K := K) (a := S) (xs := us) (fun j σ H7 => ∃ (D : Addr) (ws : List V) (y10 : Option V), σ = [some (.ref rm), some (.int n), some (.str x), some (.ref S), y4, y5, y6, some (.ref B), y8, some (.ref D), y10, none, none] ∧ H7 D = some (.lst ws) ∧ LsAt H7 ws (((slotsL ms n).take j).flatMap fun s => (bitsM m).map fun b => (s, b)) ∧ Same H6 H7) ?_ ?_ ?_ ?_
        · exact ⟨D0, [], none, rfl, hD0, by simpa using LsAt.nil, Same.refl _⟩
        · rintro j σ H7 _ ⟨_, _, _, _, _, _, t7⟩
          exact SqL.of (t7 _ _ (sD0 _ _ hS5))
        · rintro j v σ H7 hv ⟨D, ws, y10, rfl, hD, hws, t7⟩
          obtain ⟨a, s, rfl, es, hs⟩ := hus5.get hv
          have t57 := sD0.trans t7
          have hs7 := hs.same t57
          have hB7 := t57 _ _ hB
          have hbs7 := hbs.same t57
          have jl : j < (slotsL ms n).length := (List.getElem?_eq_some_iff.mp es).1
          refine ⟨_, rfl, _, rfl, B, rfl, ⟨_, SqL.of hB7⟩, fun C nC => ?_⟩
          have sC : Same H7 (upd H7 C (.lst [])) := same_upd nC
          refine lc_list (K := K) (a := B) (xs := bs) (fun l H8 => ∃ cs, H8 C = some (.lst cs) ∧ LsAt H8 cs (((bitsM m).take l).map fun b => (s, b)) ∧ Same H7 H8) ?_ ?_ ?_ ?_
          · exact ⟨[], upd_same, by simpa using LsAt.nil, sC⟩
          · rintro l H8 _ ⟨_, _, _, t8⟩
            exact SqL.of (t8 _ _ hB7)
          · rintro l v H8 hv ⟨cs, hC, hcs, t8⟩
            obtain ⟨bq, b, rfl, eb, hb⟩ := hbs7.get hv
            refine ⟨rfl, tyes ?_⟩
            refine ⟨_, rfl, _, rfl, by show 2 ≤ sizeLine; decide, fun y H9 t9 ny py => ?_⟩
            have hC9 := t9 _ _ hC
            have kC : KP H9 (upd H9 C (.lst (cs ++ [V.ref y]))) := KP.lst hC9
            have la : LayAt H9 y s b := ⟨a, bq, py, (hs7.same t8).same t9, (hb.same t8).same t9⟩
            refine ⟨cs, hC9, ?_, cs ++ [.ref y], upd_same, ?_, fun c o' ec => ?_⟩
            · have z := hcs.len
              rw [List.length_map, List.length_take] at z
              have : (bitsM m).length ≤ 128 := by
                rw [bitsM_len]
                exact Nat.pow_le_pow_right (n := 2) (by decide) m7
              exact small1000 (by omega)
            · rw [List.take_add_one, eb, List.map_append]
              exact ((hcs.same t9).app (.cons (p := (s, b)) la .nil)).keep kC
            · rw [upd_ne (ne_of_none ec nC)]
              exact t9 _ _ (t8 _ _ ec)
          · rintro H8 ⟨cs, hC, hcs, t8⟩
            rw [hbs7.len, List.take_length] at hcs
            have lw := hws.len
            have lc := hcs.len
            rw [zf j (by omega)] at lw
            rw [List.length_map] at lc
            have z4 := Nat.mul_le_mul_right (bitsM m).length (show j + 1 ≤ (slotsL ms n).length from jl)
            rw [Nat.add_mul, Nat.one_mul] at z4
            refine ⟨D, C, ws, cs, rfl, rfl, t8 _ _ hD, hC, by omega, fun D2 nD2 => ?_⟩
            exact ⟨D2, _, _, rfl, upd_same, by rw [flatMap_take (f := fun s => (bitsM m).map fun b => (s, b)) es]; exact ((hws.same t8).app hcs).same (same_upd nD2), t7.trans (t8.trans (same_upd nD2))⟩
        · rintro σ H7 ⟨D, ws, y10, rfl, hD, hws, t7⟩
          rw [hus5.len, List.take_length] at hws
          obtain ⟨ts, e1, e2, hts⟩ := ls_ts hws
          subst e1
          refine ⟨_, rfl, D, tdat ts, rfl, ?_, tdat_dp hts, tdat_alike ts, tdat_sortable ts, tdat_deep ts, fun L nL => ?_⟩
          · rw [tdat_fst]
            exact SqL.of hD
          rw [tdat_srt]
          have t27 := (t2.trans t5).trans (sD0.trans t7)
          refine q L _ (sortL (ts.map (·.2))) _ (t27.trans (same_upd nL)) (t27.free nL) upd_same ?_ ((tsort_ls hts).same (same_upd nL))
          rw [← e2]
          exact (List.mergeSort_perm _ _).trans (laysM_perm nm nd n m)
end
end Su
/-! ### W1G: how a row of a web is looked at, of a thing of any kind -/
namespace Su.GW
open PySem PySem.Spec PyProof.Rows L2
structure GbW (mg : Str → Option Value) : Prop where
  last : ∃ t, mg "LAST_ROOM" = some (.int 99 t)
  rows : ∃ t, mg "MOST_ROWS" = some (.int 80 t)
  rooms : ∃ t, mg "MOST_ROOMS" = some (.int 12 t)
def wholeG : G → Bool
  | .int _ => true
  | _ => false
/-- a whole number from 0, below n -/
def inG (n : Int) : G → Bool
  | .int i => decide (0 ≤ i) && decide (i < n)
  | _ => false
def valI : G → Int
  | .int i => i
  | _ => 0
def ups (ns : List Int) : List Bool := (ns.zip (ns.drop 1)).map fun p => decide (p.1 < p.2)
def risG (n : Int) (gs : List G) : Bool := (gs.map (inG n)).all id && (ups (gs.map valI)).all id
def roomsG (lo hi : Int) : G → Bool
  | .tup gs => (decide (lo ≤ (gs.length : Int)) && decide ((gs.length : Int) ≤ hi)) && risG 100 gs
  | _ => false
def tosG (n : Int) : G → Bool
  | .tup gs => decide ((gs.length : Int) ≤ n) && risG n gs
  | _ => false
def rowG (n : Int) : G → Bool
  | .tup [x, y] => roomsG 0 6 x && tosG n y
  | _ => false
theorem ups_get {ns : List Int} {i : Nat} {a b : Int} (e1 : ns[i]? = some a) (e2 : ns[1 + i]? = some b) : (ups ns)[i]? = some (decide (a < b)) := by
  unfold ups
  have z : (ns.zip (ns.drop 1))[i]? = some (a, b) := List.getElem?_zip_eq_some.mpr ⟨e1, by rw [List.getElem?_drop]; exact e2⟩
  rw [List.getElem?_map, z]
  rfl
theorem take_one {α : Type} {l : List α} {i : Nat} {x : α} (e : l[i]? = some x) : l.take (i + 1) = l.take i ++ [x] := by
  rw [List.take_add_one, e]
  rfl
theorem ints_of_all {p : Addr} {H : Hp} {n : Int} : ∀ {vs : List V} {gs : List G}, TgL p H vs gs → (gs.map (inG n)).all id = true → vs = (gs.map valI).map V.int
  | _, _, .nil, _ => rfl
  | _, _, .cons (d := d) h t, e => by
    rw [List.map_cons, List.all_cons, Bool.and_eq_true] at e
    rw [List.map_cons, List.map_cons, ← ints_of_all t e.2]
    cases h with
    | int i => rfl
    | _ => cases e.1
def spWhole : Sp := fun vs H Q _ => ∃ (p : Addr) (v : V) (g : G), vs = [v] ∧ Tg p H v g ∧ Q (.bl (wholeG g)) H
def spRoom : Sp := fun vs H Q _ => ∃ (p : Addr) (v : V) (g : G), vs = [v] ∧ Tg p H v g ∧ Q (.bl (inG 100 g)) H
def spRising : Sp := fun vs H Q _ => ∃ (a : Addr) (ns : List Int), vs = [.ref a] ∧ T2 H a (ns.map V.int) ∧ ns.length ≤ 1000 ∧ ∀ H', Same H H' → Q (.bl ((ups ns).all id)) H'
def spRooms : Sp := fun vs H Q _ => ∃ (p : Addr) (v : V) (g : G) (lo hi : Int), vs = [v, .int lo, .int hi] ∧ Tg p H v g ∧ hi ≤ 1000 ∧ ∀ H', Same H H' → Q (.bl (roomsG lo hi g)) H'
def spTos : Sp := fun vs H Q _ => ∃ (p : Addr) (v : V) (g : G) (n : Int), vs = [v, .int n] ∧ Tg p H v g ∧ n ≤ 1000 ∧ ∀ H', Same H H' → Q (.bl (tosG n g)) H'
def spRow : Sp := fun vs H Q _ => ∃ (p : Addr) (v : V) (g : G) (n : Int), vs = [v, .int n] ∧ Tg p H v g ∧ n ≤ 1000 ∧ ∀ H', Same H H' → Q (.bl (rowG n g)) H'
theorem sc_is_whole : FnScope ["thing"] ["thing"] (defScope s_is_whole) := ⟨rfl, rfl, rfl, by decide +kernel, rfl, by decide +kernel, by decide +kernel⟩
theorem sc_is_room : FnScope ["thing"] ["thing"] (defScope s_is_room) := ⟨rfl, rfl, rfl, by decide +kernel, rfl, by decide +kernel, by decide +kernel⟩
theorem sc_are_rising : FnScope ["numbers", "one", "other"] ["numbers"] (defScope s_are_rising) := ⟨rfl, rfl, rfl, by decide +kernel, rfl, by decide +kernel, by decide +kernel⟩
theorem sc_are_rooms : FnScope ["thing", "least", "most", "room"] ["thing", "least", "most"] (defScope s_are_rooms) := ⟨rfl, rfl, rfl, by decide +kernel, rfl, by decide +kernel, by decide +kernel⟩
theorem sc_are_tos : FnScope ["thing", "rows", "to"] ["thing", "rows"] (defScope s_are_tos) := ⟨rfl, rfl, rfl, by decide +kernel, rfl, by decide +kernel, by decide +kernel⟩
theorem sc_is_row : FnScope ["thing", "rows"] ["thing", "rows"] (defScope s_is_row) := ⟨rfl, rfl, rfl, by decide +kernel, rfl, by decide +kernel, by decide +kernel⟩
section
variable {P : Program} {w : World} {K : PySem.W.Frag} {mg : Str → Option Value} {base : Heap}
theorem whole_int {p : Addr} {H : Hp} {v : V} {g : G} (h : Tg p H v g) (e : wholeG g = true) : ∃ i, v = .int i ∧ g = .int i := by
  cases h with
  | int i => exact ⟨i, rfl, rfl⟩
  | _ => cases e
theorem ok_whole (T : At K mg "is_whole" s_is_whole ["thing"]) (B : Bt mg) : Cal P w K mg base 1 "is_whole" ["thing"] spWhole := by
  refine cal_of T sc_is_whole (fun vs H Q E h => ?_) (fun f cdv A outer s H vs Q E hr h => ?_)
  · obtain ⟨p, v, g, rfl, _⟩ := h
    rfl
  · obtain ⟨p, v, g, rfl, hv, q⟩ := h
    refine ⟨_, (pss_one (ps_ret (pe_and (pe_callB call_isi (by rfl) B.isinstance (by decide +kernel) (pa_cons (pv 0) (pa_cons (pe_bltn (v := .ty "int") (u := .type "int") (by rfl) B.int (by decide +kernel) rfl) pa_nil))) (pe_one (pe_not (pe_callB call_isi (by rfl) B.isinstance (by decide +kernel) (pa_cons (pv 0) (pa_cons (pe_bltn (v := .ty "bool") (u := .type "bool") (by rfl) B.bool (by decide +kernel) rfl) pa_nil)))))))), ?_⟩
    refine ⟨_, rfl, v, .ty "int", _, _, _, rfl, .ty "int", hv.ty, kit_int g, _, rfl, iteB (fun e => ?_) (fun e => ?_)⟩
    · refine ⟨_, rfl, v, .ty "bool", _, _, _, rfl, .ty "bool", hv.ty, kit_bool g, _, rfl, ?_⟩
      rw [show (!isBool g) = wholeG g from by cases g <;> first | rfl | cases e]
      exact q
    · rw [show false = wholeG g from by cases g <;> first | rfl | cases e]
      exact q
theorem ok_room (T : At K mg "is_room" s_is_room ["thing"]) (D : GbW mg) (c_is_whole : Cal P w K mg base 1 "is_whole" ["thing"] spWhole) : Cal P w K mg base 2 "is_room" ["thing"] spRoom := by
  obtain ⟨tl, mLast⟩ := D.last
  refine cal_of T sc_is_room (fun vs H Q E h => ?_) (fun f cdv A outer s H vs Q E hr h => ?_)
  · obtain ⟨p, v, g, rfl, _⟩ := h
    rfl
  · obtain ⟨p, v, g, rfl, hv, q⟩ := h
    refine ⟨_, (pss_one (ps_ret (pe_and (pe_own c_is_whole hr (by decide) (by rfl) (pa_cons (pv 0) pa_nil)) (pe_one (pe_chain op_le op_le pe_int (pv 0) (pe_glob (v := .int 99) rfl mLast ⟨_, rfl⟩)))))), ?_⟩
    refine ⟨_, rfl, p, v, g, rfl, hv, _, rfl, iteB (fun e => ?_) (fun e => ?_)⟩
    · obtain ⟨i, rfl, rfl⟩ := whole_int hv e
      refine ⟨_, rfl, _, _, rfl, rfl, _, rfl, iteB (fun e1 => ?_) (fun e1 => ?_)⟩
      · refine ⟨_, _, rfl, rfl, ?_⟩
        have z : decide (i ≤ 99) = inG 100 (.int i) := by
          show decide (i ≤ 99) = (decide (0 ≤ i) && decide (i < 100))
          rw [e1, Bool.true_and]
          exact decide_eq_decide.mpr (by omega)
        rw [← z] at q
        exact q
      · rw [show false = inG 100 (.int i) from by show false = (decide (0 ≤ i) && decide (i < 100)); rw [e1, Bool.false_and]]
        exact q
    · rw [show false = inG 100 g from by cases g <;> first | rfl | cases e]
      exact q
theorem ok_rising (T : At K mg "are_rising" s_are_rising ["numbers"]) (B : Bt mg) : Cal P w K mg base 1 "are_rising" ["numbers"] spRising := by
  refine cal_of T sc_are_rising (fun vs H Q E h => ?_) (fun f cdv A outer s H vs Q E hr h => ?_)
  · obtain ⟨a, ns, rfl, _⟩ := h
    rfl
  · obtain ⟨a, ns, rfl, ha, hl, q⟩ := h
    refine ⟨_, (pss_one (ps_ret (pe_callB (cr_all rfl) (by rfl) B.all (by decide +kernel) (pa_cons (pe_lc (own := [("one", 1), ("other", 2)]) (g := (gTup K 2 (gCons (gName 1) (gCons (gName 2) gNil)))) (tt := tYes) (te := (tOp (rI0 fun i j => .bl (decide (i < j))) (tVar 1) (tVar 2))) (by rfl) sc_are_rising.nd (RZ.pi_zipA (by rfl) B.zip (pa_cons (pv 0) (pa_cons (pe_slice sl_tup2 (pv 0) (po_some pe_int) po_none) pa_nil))) (blkOk_by (own := [("one", 1), ("other", 2)]) (N := ["numbers", "one", "other"]) (sc := defScope s_are_rising) (by decide +kernel)) (fun _ _ _ _ _ => (pg_tup (by rfl) (pgs_cons (pg_name (i := 1) sc_are_rising.nd rfl (Or.inl rfl)) (pgs_cons (pg_name (i := 2) sc_are_rising.nd rfl (Or.inl rfl)) pgs_nil)))) (fun _ _ _ _ _ => pts_nil) (fun _ _ _ _ _ => (pe_cmpR op_lt (pv 1) (pv 2) (nomark _)))) pa_nil)))), ?_⟩
    refine ⟨_, rfl, _, rfl, 1, rfl, a, _, rfl, ha, fun b H1 s1 hb => ?_⟩
    rw [cut_tail, ← List.map_drop] at hb
    refine ⟨a, b, _, _, rfl, .inr ⟨(ha.same s1).sq, hb.sq, fun D nD => ?_⟩⟩
    refine lc_zipT (K := K) (a := a) (b := b) (xs := ns.map V.int) (ys := (ns.drop 1).map V.int) (by rw [List.length_map, List.length_map, List.length_drop]; omega) (fun i H2 => Same H H2 ∧ T2 H2 a (ns.map V.int) ∧ T2 H2 b ((ns.drop 1).map V.int) ∧ H2 D = some (.lst (((ups ns).take i).map V.bl))) ?_ ?_ ?_ ?_
    · have sD : Same H1 (upd H1 D (.lst [])) := same_upd nD
      exact ⟨s1.trans sD, (ha.same s1).same sD, hb.same sD, upd_same⟩
    · rintro i H2 _ ⟨_, h1, h2, _⟩
      exact ⟨h1.sq, h2.sq⟩
    · rintro i x y T H2 hx hy ⟨s2, h1, h2, hD⟩ nT
      have sT : Same H2 (upd H2 T (.tup [x, y])) := same_upd nT
      rw [List.getElem?_map] at hx hy
      rw [List.getElem?_drop] at hy
      obtain ⟨n1, e1, rfl⟩ := Option.map_eq_some_iff.mp hx
      obtain ⟨n2, e2, rfl⟩ := Option.map_eq_some_iff.mp hy
      have hi : i < ns.length := (List.getElem?_eq_some_iff.mp e1).1
      refine ⟨T, _, rfl, SqT.of upd_same, rfl, _, _, rfl, _, _, rfl, rfl, rfl, tyes ?_⟩
      refine ⟨_, rfl, _, rfl, _, _, rfl, rfl, ((ups ns).take i).map V.bl, sT _ _ hD, ?_, ?_⟩
      · rw [List.length_map, List.length_take]
        exact small1000 (by omega)
      · have h3 := sT _ _ hD
        have k3 := (K2.same sT).trans (K2.lst (u := .lst (((ups ns).take (i + 1)).map V.bl)) h3)
        show _ ∧ _ ∧ _ ∧ _
        rw [take_one (ups_get e1 e2), List.map_append] at k3 ⊢
        refine ⟨fun c o ec => ?_, k3 _ _ h1, k3 _ _ h2, upd_same⟩
        rw [upd_ne (ne_of_none (s1 _ _ ec) nD)]
        exact sT _ _ (s2 _ _ ec)
    · rintro H2 ⟨s2, h1, h2, hD⟩
      refine ⟨D, ups ns, rfl, ?_, ?_⟩
      · rw [List.take_of_length_le (by unfold ups; rw [List.length_map, List.length_zip, List.length_map]; omega)] at hD
        exact SqL.of hD
      · exact q H2 s2
theorem ok_rooms (T : At K mg "are_rooms" s_are_rooms ["thing", "least", "most"]) (B : Bt mg) (c_is_room : Cal P w K mg base 2 "is_room" ["thing"] spRoom) (c_are_rising : Cal P w K mg base 1 "are_rising" ["numbers"] spRising) :
    Cal P w K mg base 3 "are_rooms" ["thing", "least", "most"] spRooms := by
  refine cal_of T sc_are_rooms (fun vs H Q E h => ?_) (fun f cdv A outer s H vs Q E hr h => ?_)
  · obtain ⟨p, v, g, lo, hi, rfl, _⟩ := h
    rfl
  · obtain ⟨p, v, g, lo, hi, rfl, hv, hm, q⟩ := h
    refine ⟨_, (pss_cons (ps_if (PW.pt (pw_or (pt_not (pt_val (pe_callB call_isi (by rfl) B.isinstance (by decide +kernel) (pa_cons (pv 0) (pa_cons (pe_bltn (v := .ty "tuple") (u := .type "tuple") (by rfl) B.tuple (by decide +kernel) rfl) pa_nil))))) (pw_or1 (pt_not (pt_chain op_le op_le (pv 1) (pe_callB call_len_seq (by rfl) B.len PySem.boot_len (pa_cons (pv 0) pa_nil)) (pv 2)))))) (pss_one (ps_ret pe_bl)) pss_nil)
      (pss_one (ps_ret (pe_and (pe_callB (cr_all rfl) (by rfl) B.all (by decide +kernel) (pa_cons (pe_lc (own := [("room", 3)]) (g := (gName 3)) (tt := tYes) (te := (tCall spRoom [] E0 (tCons (tVar 3) tNil))) (by rfl) sc_are_rooms.nd (pi_tup (pv 0)) (blkOk_by (own := [("room", 3)]) (N := ["thing", "least", "most", "room"]) (sc := defScope s_are_rooms) (by decide +kernel)) (fun _ _ _ _ _ => (pg_name (i := 3) sc_are_rooms.nd rfl (Or.inl rfl))) (fun _ _ _ _ _ => pts_nil) (fun _ _ _ _ _ => (pe_own c_is_room hr (by decide) (by rfl) (pa_cons (pv 3) pa_nil)))) pa_nil)) (pe_one (pe_own c_are_rising hr (by decide) (by rfl) (pa_cons (pv 0) pa_nil))))))), ?_⟩
    refine ⟨_, rfl, v, .ty "tuple", _, _, _, rfl, .ty "tuple", hv.ty, kit_tuple g, _, rfl, iteB (fun e => ?_) (fun e => ?_)⟩
    · refine iteT ?_
      rw [show false = roomsG lo hi g from by cases g <;> first | rfl | cases e]
      exact q H (Same.refl H)
    cases hv with
    | @tup a vs gs ha t =>
      have hlen : vs.length = gs.length := t.len
      refine ⟨_, rfl, _, rfl, a, _, rfl, .inr ha.sq, _, _, rfl, rfl, _, rfl, iteB (fun e1 => ?_) (fun e1 => ?_)⟩
      · refine ⟨_, rfl, _, _, rfl, rfl, _, rfl, ?_⟩
        rw [hlen] at e1 ⊢
        refine iteB (fun e2 => ?_) (fun e2 => ?_)
        · have e3 : decide ((gs.length : Int) ≤ hi) = false := by simpa using e2
          have z : false = roomsG lo hi (.tup gs) := by
            show false = ((decide (lo ≤ (gs.length : Int)) && decide ((gs.length : Int) ≤ hi)) && risG 100 gs)
            rw [e3, Bool.and_false, Bool.false_and]
          rw [z]
          exact q H (Same.refl H)
        · have e3 : decide ((gs.length : Int) ≤ hi) = true := by simpa using e2
          have small : gs.length ≤ 1000 := by
            have := of_decide_eq_true e3
            omega
          have z : roomsG lo hi (.tup gs) = risG 100 gs := by
            show ((decide (lo ≤ (gs.length : Int)) && decide ((gs.length : Int) ≤ hi)) && risG 100 gs) = _
            rw [e1, e3, Bool.true_and, Bool.true_and]
          refine ⟨_, rfl, a, rfl, ⟨_, ha.sq⟩, fun D nD => ?_⟩
          refine lc_tup (K := K) (a := a) (xs := vs) (fun i H2 => Same H H2 ∧ T2 H2 a vs ∧ H2 D = some (.lst (((gs.map (inG 100)).take i).map V.bl))) ?_ ?_ ?_ ?_
          · have sD : Same H (upd H D (.lst [])) := same_upd nD
            exact ⟨sD, ha.same sD, upd_same⟩
          · rintro i H2 _ ⟨_, h3, _⟩
            exact h3.sq
          · rintro i x H2 hx ⟨s2, h3, hD⟩
            obtain ⟨g1, e4, tg⟩ := t.get hx
            have hi : i < gs.length := (List.getElem?_eq_some_iff.mp e4).1
            refine ⟨rfl, tyes ?_⟩
            refine ⟨_, rfl, p, x, g1, rfl, tg.keep (Keeps.same s2), ((gs.map (inG 100)).take i).map V.bl, hD, (by rw [List.length_map, List.length_take, List.length_map]; exact small1000 (by omega)), ?_⟩
            rw [take_one (x := inG 100 g1) (by rw [List.getElem?_map, e4]; rfl), List.map_append]
            refine ⟨fun c o ec => ?_, K2.lst hD _ _ h3, upd_same⟩
            rw [upd_ne (ne_of_none ec nD)]
            exact s2 _ _ ec
          · rintro H2 ⟨s2, h3, hD⟩
            rw [List.take_of_length_le (by rw [List.length_map]; omega)] at hD
            refine ⟨D, gs.map (inG 100), rfl, SqL.of hD, _, rfl, iteB (fun e5 => ?_) (fun e5 => ?_)⟩
            · rw [ints_of_all t e5] at h3
              refine ⟨_, rfl, a, _, rfl, h3, (by rw [List.length_map]; exact small), fun H3 s3 => ?_⟩
              have q3 := q H3 (s2.trans s3)
              rw [z] at q3
              unfold risG at q3
              rw [e5, Bool.true_and] at q3
              exact q3
            · have q3 := q H2 s2
              rw [z] at q3
              unfold risG at q3
              rw [e5, Bool.false_and] at q3
              exact q3
      · refine ⟨_, rfl, iteT ?_⟩
        rw [hlen] at e1
        have z : false = roomsG lo hi (.tup gs) := by
          show false = ((decide (lo ≤ (gs.length : Int)) && decide ((gs.length : Int) ≤ hi)) && risG 100 gs)
          rw [e1, Bool.false_and, Bool.false_and]
        rw [z]
        exact q H (Same.refl H)
    | _ => cases e
theorem ok_tos (T : At K mg "are_tos" s_are_tos ["thing", "rows"]) (B : Bt mg) (c_is_whole : Cal P w K mg base 1 "is_whole" ["thing"] spWhole) (c_are_rising : Cal P w K mg base 1 "are_rising" ["numbers"] spRising) :
    Cal P w K mg base 2 "are_tos" ["thing", "rows"] spTos := by
  refine cal_of T sc_are_tos (fun vs H Q E h => ?_) (fun f cdv A outer s H vs Q E hr h => ?_)
  · obtain ⟨p, v, g, n, rfl, _⟩ := h
    rfl
  · obtain ⟨p, v, g, n, rfl, hv, hm, q⟩ := h
    refine ⟨_, (pss_cons (ps_if (PW.pt (pw_or (pt_not (pt_val (pe_callB call_isi (by rfl) B.isinstance (by decide +kernel) (pa_cons (pv 0) (pa_cons (pe_bltn (v := .ty "tuple") (u := .type "tuple") (by rfl) B.tuple (by decide +kernel) rfl) pa_nil))))) (pw_or1 (pt_cmpR op_gt (pe_callB call_len_seq (by rfl) B.len PySem.boot_len (pa_cons (pv 0) pa_nil)) (pv 1) (nomark _))))) (pss_one (ps_ret pe_bl)) pss_nil)
      (pss_one (ps_ret (pe_and (pe_callB (cr_all rfl) (by rfl) B.all (by decide +kernel) (pa_cons (pe_lc (own := [("to", 2)]) (g := (gName 2)) (tt := tYes) (te := (tAndV (tCall spWhole [] E0 (tCons (tVar 2) tNil)) (tChain (rI0 fun i j => .bl (decide (i ≤ j))) (rI0 fun i j => .bl (decide (i < j))) (tC (.int 0)) (tVar 2) (tVar 1)))) (by rfl) sc_are_tos.nd (pi_tup (pv 0)) (blkOk_by (own := [("to", 2)]) (N := ["thing", "rows", "to"]) (sc := defScope s_are_tos) (by decide +kernel)) (fun _ _ _ _ _ => (pg_name (i := 2) sc_are_tos.nd rfl (Or.inl rfl))) (fun _ _ _ _ _ => pts_nil) (fun _ _ _ _ _ => (pe_and (pe_own c_is_whole hr (by decide) (by rfl) (pa_cons (pv 2) pa_nil)) (pe_one (pe_chain op_le op_lt pe_int (pv 2) (pv 1)))))) pa_nil)) (pe_one (pe_own c_are_rising hr (by decide) (by rfl) (pa_cons (pv 0) pa_nil))))))), ?_⟩
    refine ⟨_, rfl, v, .ty "tuple", _, _, _, rfl, .ty "tuple", hv.ty, kit_tuple g, _, rfl, iteB (fun e => ?_) (fun e => ?_)⟩
    · refine iteT ?_
      rw [show false = tosG n g from by cases g <;> first | rfl | cases e]
      exact q H (Same.refl H)
    cases hv with
    | @tup a vs gs ha t =>
      have hlen : vs.length = gs.length := t.len
      refine ⟨_, rfl, a, _, rfl, .inr ha.sq, _, rfl, _, _, rfl, rfl, _, rfl, ?_⟩
      rw [hlen]
      refine iteB (fun e1 => ?_) (fun e1 => ?_)
      · have e3 : decide ((gs.length : Int) ≤ n) = false := decide_eq_false (by have := of_decide_eq_true e1; omega)
        have z : false = tosG n (.tup gs) := by
          show false = (decide ((gs.length : Int) ≤ n) && risG n gs)
          rw [e3, Bool.false_and]
        rw [z]
        exact q H (Same.refl H)
      · have e3 : decide ((gs.length : Int) ≤ n) = true := decide_eq_true (by have := of_decide_eq_false e1; omega)
        have small : gs.length ≤ 1000 := by
          have := of_decide_eq_true e3
          omega
        have z : tosG n (.tup gs) = risG n gs := by
          show (decide ((gs.length : Int) ≤ n) && risG n gs) = _
          rw [e3, Bool.true_and]
        refine ⟨_, rfl, a, rfl, ⟨_, ha.sq⟩, fun D nD => ?_⟩
        refine lc_tup (K := K) (a := a) (xs := vs) (fun i H2 => Same H H2 ∧ T2 H2 a vs ∧ H2 D = some (.lst (((gs.map (inG n)).take i).map V.bl))) ?_ ?_ ?_ ?_
        · have sD : Same H (upd H D (.lst [])) := same_upd nD
          exact ⟨sD, ha.same sD, upd_same⟩
        · rintro i H2 _ ⟨_, h3, _⟩
          exact h3.sq
        · rintro i x H2 hx ⟨s2, h3, hD⟩
          obtain ⟨g1, e4, tg⟩ := t.get hx
          have hi : i < gs.length := (List.getElem?_eq_some_iff.mp e4).1
          have fin : ∀ b : Bool, b = inG n g1 → ∃ acc, H2 D = some (.lst acc) ∧ acc.length < sizeLine ∧ (Same H (upd H2 D (.lst (acc ++ [V.bl b]))) ∧ T2 (upd H2 D (.lst (acc ++ [V.bl b]))) a vs ∧ (upd H2 D (.lst (acc ++ [V.bl b]))) D = some (.lst (((gs.map (inG n)).take (i + 1)).map V.bl))) := by
            rintro b rfl
            refine ⟨((gs.map (inG n)).take i).map V.bl, hD, (by rw [List.length_map, List.length_take, List.length_map]; exact small1000 (by omega)), ?_⟩
            rw [take_one (x := inG n g1) (by rw [List.getElem?_map, e4]; rfl), List.map_append]
            refine ⟨fun c o ec => ?_, K2.lst hD _ _ h3, upd_same⟩
            rw [upd_ne (ne_of_none ec nD)]
            exact s2 _ _ ec
          refine ⟨rfl, tyes ?_⟩
          refine ⟨_, rfl, p, x, g1, rfl, tg.keep (Keeps.same s2), _, rfl, iteB (fun e5 => ?_) (fun e5 => ?_)⟩
          · obtain ⟨j, rfl, rfl⟩ := whole_int tg e5
            refine ⟨_, rfl, _, _, rfl, rfl, _, rfl, iteB (fun e6 => ?_) (fun e6 => ?_)⟩
            · refine ⟨_, rfl, _, _, rfl, rfl, fin _ ?_⟩
              show decide (j < n) = (decide (0 ≤ j) && decide (j < n))
              rw [e6, Bool.true_and]
            · refine fin _ ?_
              show false = (decide (0 ≤ j) && decide (j < n))
              rw [e6, Bool.false_and]
          · refine fin _ ?_
            cases g1 <;> first | rfl | cases e5
        · rintro H2 ⟨s2, h3, hD⟩
          rw [List.take_of_length_le (by rw [List.length_map]; omega)] at hD
          refine ⟨D, gs.map (inG n), rfl, SqL.of hD, _, rfl, iteB (fun e5 => ?_) (fun e5 => ?_)⟩
          · rw [ints_of_all t e5] at h3
            refine ⟨_, rfl, a, _, rfl, h3, (by rw [List.length_map]; exact small), fun H3 s3 => ?_⟩
            have q3 := q H3 (s2.trans s3)
            rw [z] at q3
            unfold risG at q3
            rw [e5, Bool.true_and] at q3
            exact q3
          · have q3 := q H2 s2
            rw [z] at q3
            unfold risG at q3
            rw [e5, Bool.false_and] at q3
            exact q3
    | _ => cases e
theorem ok_row (T : At K mg "is_row" s_is_row ["thing", "rows"]) (B : Bt mg) (c_are_rooms : Cal P w K mg base 3 "are_rooms" ["thing", "least", "most"] spRooms) (c_are_tos : Cal P w K mg base 2 "are_tos" ["thing", "rows"] spTos) :
    Cal P w K mg base 4 "is_row" ["thing", "rows"] spRow := by
  refine cal_of T sc_is_row (fun vs H Q E h => ?_) (fun f cdv A outer s H vs Q E hr h => ?_)
  · obtain ⟨p, v, g, n, rfl, _⟩ := h
    rfl
  · obtain ⟨p, v, g, n, rfl, hv, hm, q⟩ := h
    refine ⟨_, (pss_cons (ps_if (PW.pt (pw_or (pt_not (pt_val (pe_callB call_isi (by rfl) B.isinstance (by decide +kernel) (pa_cons (pv 0) (pa_cons (pe_bltn (v := .ty "tuple") (u := .type "tuple") (by rfl) B.tuple (by decide +kernel) rfl) pa_nil))))) (pw_or1 (pt_cmpR op_ne (pe_callB call_len_seq (by rfl) B.len PySem.boot_len (pa_cons (pv 0) pa_nil)) pe_int (nomark _))))) (pss_one (ps_ret pe_bl)) pss_nil)
      (pss_one (ps_ret (pe_and (pe_own c_are_rooms hr (by decide) (by rfl) (pa_cons (pe_ix ix_tup (pv 0) pe_int (fun _ _ => rfl)) (pa_cons pe_int (pa_cons pe_int pa_nil)))) (pe_one (pe_own c_are_tos hr (by decide) (by rfl) (pa_cons (pe_ix ix_tup (pv 0) pe_int (fun _ _ => rfl)) (pa_cons (pv 1) pa_nil)))))))), ?_⟩
    refine ⟨_, rfl, v, .ty "tuple", _, _, _, rfl, .ty "tuple", hv.ty, kit_tuple g, _, rfl, iteB (fun e => ?_) (fun e => ?_)⟩
    · refine iteT ?_
      rw [show false = rowG n g from by cases g <;> first | rfl | cases e]
      exact q H (Same.refl H)
    cases hv with
    | @tup a vs gs ha t =>
      have hlen : vs.length = gs.length := t.len
      refine ⟨_, rfl, a, _, rfl, .inr ha.sq, rfl, _, rfl, ?_⟩
      match gs, vs, t, hlen, ha, q with
      | [], [], _, _, _, q => exact iteT (q H (Same.refl H))
      | [_], [_], _, _, _, q => exact iteT (q H (Same.refl H))
      | _ :: _ :: _ :: _, _ :: _ :: _ :: _, _, _, _, q =>
        refine iteB (fun _ => q H (Same.refl H)) (fun z => ?_)
        simp at z
        omega
      | [x, y], [v1, v2], .cons tx (.cons ty _), _, ha, q =>
        refine iteNS rfl ?_
        refine ⟨_, rfl, _, _, _, _, rfl, rfl, ha.sq, atI_nat (j := 0) rfl, p, v1, x, 0, 6, rfl, tx, by decide, fun H1 s1 => ?_⟩
        refine ⟨_, rfl, iteB (fun e5 => ?_) (fun e5 => ?_)⟩
        · refine ⟨_, rfl, _, _, _, _, rfl, rfl, (ha.same s1).sq, atI_nat (j := 1) rfl, _, rfl, p, v2, y, n, rfl, ty.keep (Keeps.same s1), hm, fun H2 s2 => ?_⟩
          have q3 := q H2 (s1.trans s2)
          rw [show rowG n (.tup [x, y]) = (roomsG 0 6 x && tosG n y) from rfl, e5, Bool.true_and] at q3
          exact q3
        · have q3 := q H1 s1
          rw [show rowG n (.tup [x, y]) = (roomsG 0 6 x && tosG n y) from rfl, e5, Bool.false_and] at q3
          exact q3
    | _ => cases e
end
end Su.GW
/-! ### W2G: the rooms of a web; how a thing of any kind is looked at as a web -/
namespace Su.GW
open PySem PySem.Spec PyProof.Rows L2
def spRoomsIn (w : World) : Sp := fun vs H Q _ => ∃ (p : Addr) (rs : List Rw) (A : List Int), vs = [.ref p] ∧ WebAt H p rs ∧ A.length < 1000 ∧ (∀ k ∈ allRooms rs, k ∈ A) ∧
  ∀ (ms : List Int) (u : Addr) (H' : Hp), ms.Pairwise (· < ·) → (∀ k : Int, k ∈ ms ↔ k ∈ allRooms rs) → Same H H' → H u = none → H' u = some (.lst (ms.map V.int)) → Q (.ref u) H'
def rwOf : G → Rw
  | .tup [.tup rs, .tup ts] => (rs.map valI, ts.map valI)
  | _ => ([], [])
/-- the first that is not so -/
def badAt (f : G → Bool) : List G → Option Nat
  | [] => none
  | g :: gs => if f g = true then (badAt f gs).map (· + 1) else some 0
/-- the rooms, each once -/
def oneEach : List Int → List Int
  | [] => []
  | a :: l => if a ∈ oneEach l then oneEach l else a :: oneEach l
theorem oneEach_mem (k : Int) : ∀ l : List Int, k ∈ oneEach l ↔ k ∈ l
  | [] => Iff.rfl
  | a :: l => by
    unfold oneEach
    by_cases h : a ∈ oneEach l
    · rw [if_pos h, oneEach_mem k l, List.mem_cons]
      constructor
      · exact .inr
      · rintro (rfl | z)
        · exact (oneEach_mem k l).mp h
        · exact z
    · rw [if_neg h, List.mem_cons, List.mem_cons, oneEach_mem k l]
theorem oneEach_nodup : ∀ l : List Int, (oneEach l).Nodup
  | [] => List.nodup_nil
  | a :: l => by
    unfold oneEach
    by_cases h : a ∈ oneEach l
    · rw [if_pos h]
      exact oneEach_nodup l
    · rw [if_neg h]
      exact List.nodup_cons.mpr ⟨h, oneEach_nodup l⟩
theorem len_same {a b : List Int} (na : a.Nodup) (nb : b.Nodup) (h : ∀ k, k ∈ a ↔ k ∈ b) : a.length = b.length :=
  Nat.le_antisymm (nodup_few na fun k hk => (h k).mp hk) (nodup_few nb fun k hk => (h k).mpr hk)
theorem badAt_none {f : G → Bool} : ∀ {gs : List G}, (∀ g ∈ gs, f g = true) → badAt f gs = none
  | [], _ => rfl
  | g :: gs, h => by
    unfold badAt
    rw [if_pos (h g List.mem_cons_self), badAt_none fun x hx => h x (List.mem_cons_of_mem _ hx)]
    rfl
theorem badAt_some {f : G → Bool} : ∀ {gs : List G} {i : Nat} {g : G}, (∀ (j : Nat) (x : G), j < i → gs[j]? = some x → f x = true) → gs[i]? = some g → f g = false → badAt f gs = some i
  | [], _, _, _, e, _ => by simp at e
  | x :: gs, 0, g, _, e, b => by
    obtain rfl := (by simpa using e : x = g)
    unfold badAt
    rw [if_neg (by rw [b]; exact Bool.false_ne_true)]
  | x :: gs, i + 1, g, h, e, b => by
    unfold badAt
    rw [if_pos (h 0 x (Nat.succ_pos _) rfl), badAt_some (gs := gs) (i := i) (fun j y hj ey => h (j + 1) y (Nat.succ_lt_succ hj) (by simpa using ey)) (by simpa using e) b]
    rfl
theorem inG_val {n : Int} {g : G} (h : inG n g = true) : 0 ≤ valI g ∧ valI g < n := by
  cases g with
  | int i =>
    have z : (decide (0 ≤ i) && decide (i < n)) = true := h
    rw [Bool.and_eq_true, decide_eq_true_eq, decide_eq_true_eq] at z
    exact z
  | _ => cases h
theorem rowG_shape {n : Int} {g : G} (e : rowG n g = true) : ∃ x y, g = .tup [x, y] ∧ roomsG 0 6 x = true ∧ tosG n y = true := by
  unfold rowG at e
  split at e
  · rw [Bool.and_eq_true] at e
    exact ⟨_, _, rfl, e.1, e.2⟩
  · cases e
theorem roomsG_shape {lo hi : Int} {g : G} (e : roomsG lo hi g = true) : ∃ rs, g = .tup rs ∧ risG 100 rs = true := by
  unfold roomsG at e
  split at e
  · rw [Bool.and_eq_true] at e
    exact ⟨_, rfl, e.2⟩
  · cases e
theorem tosG_shape {n : Int} {g : G} (e : tosG n g = true) : ∃ rs, g = .tup rs ∧ risG n rs = true := by
  unfold tosG at e
  split at e
  · rw [Bool.and_eq_true] at e
    exact ⟨_, rfl, e.2⟩
  · cases e
theorem tup_at {p : Addr} {H : Hp} {v : V} {gs : List G} {n : Int} (h : Tg p H v (.tup gs)) (e : risG n gs = true) : ∃ a, v = .ref a ∧ T2 H a ((gs.map valI).map V.int) ∧ ∀ k ∈ gs.map valI, 0 ≤ k ∧ k < n := by
  unfold risG at e
  rw [Bool.and_eq_true] at e
  cases h with
  | @tup a vs _ ha t =>
    rw [ints_of_all t e.1] at ha
    refine ⟨a, rfl, ha, fun k hk => ?_⟩
    obtain ⟨gk, hg, rfl⟩ := List.mem_map.mp hk
    exact inG_val ((List.all_eq_true.mp e.1) _ (List.mem_map.mpr ⟨gk, hg, rfl⟩))
theorem rowG_at {p : Addr} {H : Hp} {v : V} {g : G} {n : Int} (h : Tg p H v g) (e : rowG n g = true) : RowAt H v (rwOf g) ∧ ∀ k ∈ (rwOf g).1, 0 ≤ k ∧ k < 100 := by
  obtain ⟨x, y, rfl, ex, ey⟩ := rowG_shape e
  obtain ⟨rs, rfl, e1⟩ := roomsG_shape ex
  obtain ⟨ts, rfl, e2⟩ := tosG_shape ey
  cases h with
  | @tup a vs _ ha t =>
    cases t with
    | cons tx t1 =>
      cases t1 with
      | cons ty t2 =>
        cases t2
        obtain ⟨b, rfl, hb, kb⟩ := tup_at tx e1
        obtain ⟨c, rfl, hc, _⟩ := tup_at ty e2
        exact ⟨⟨a, b, c, rfl, ha, hb, hc⟩, kb⟩
theorem rows_at {p : Addr} {H : Hp} {n : Int} : ∀ {vs : List V} {gs : List G}, TgL p H vs gs → (∀ g ∈ gs, rowG n g = true) → RowsAt H vs (gs.map rwOf) ∧ ∀ k ∈ allRooms (gs.map rwOf), 0 ≤ k ∧ k < 100
  | _, _, .nil, _ => ⟨trivial, fun k hk => by cases hk⟩
  | _, _, .cons (d := d) (ds := ds) h t, e => by
    obtain ⟨a1, a2⟩ := rowG_at h (e d List.mem_cons_self)
    obtain ⟨b1, b2⟩ := rows_at t fun g hg => e g (List.mem_cons_of_mem _ hg)
    refine ⟨⟨a1, b1⟩, fun k hk => ?_⟩
    rcases List.mem_append.mp (show k ∈ (rwOf d).1 ++ allRooms (ds.map rwOf) from hk) with z | z
    · exact a2 k z
    · exact b2 k z
/-- none: a web; some r: it is refused, its row r -/
def lookG : G → Option (Option Nat)
  | .lst gs => if 1 ≤ gs.length ∧ gs.length ≤ 80 then (match badAt (rowG gs.length) gs with
    | some i => some (some i)
    | none => if 12 < (oneEach (allRooms (gs.map rwOf))).length then some none else none) else some none
  | _ => some none
def rowV : Option Nat → V
  | none => .non
  | some i => .int i
def spLook (C : Addr) : Sp := fun vs H Q E => ∃ (p : Addr) (v : V) (g : G), vs = [v] ∧ Tg p H v g ∧ (lookG g = none → ∀ H', Same H H' → Q .non H') ∧
  ∀ r, lookG g = some r → ∀ (H' : Hp) (d : Addr), Same H H' → H d = none → H' d = some (.xd [("row", rowV r)]) → E (.ref C) (some d) H'
theorem allRooms_app (a b : List Rw) : allRooms (a ++ b) = allRooms a ++ allRooms b := by
  unfold allRooms
  rw [List.map_append, List.flatten_append]
theorem allRooms_take {rs : List Rw} {i : Nat} {r : Rw} (h : rs[i]? = some r) : allRooms (rs.take (i + 1)) = allRooms (rs.take i) ++ r.1 := by
  rw [List.take_add_one, h, allRooms_app]
  show _ ++ (r.1 ++ []) = _
  rw [List.append_nil]
theorem allRooms_sub {rs : List Rw} {i : Nat} {k : Int} (h : k ∈ allRooms (rs.take i)) : k ∈ allRooms rs := by
  rw [← List.take_append_drop i rs, allRooms_app]
  exact List.mem_append_left _ h
theorem sc_rooms_in : FnScope ["rows", "rooms", "tos", "room"] ["rows"] (defScope s_rooms_in) := ⟨rfl, rfl, rfl, by decide +kernel, rfl, by decide +kernel, by decide +kernel⟩
theorem sc_look_at_web : FnScope ["thing", "number", "row"] ["thing"] (defScope s_look_at_web) := ⟨rfl, rfl, rfl, by decide +kernel, rfl, by decide +kernel, by decide +kernel⟩
section
variable {P : Program} {w : World} {K : PySem.W.Frag} {mg : Str → Option Value} {base : Heap}
theorem ok_rooms_in (T : At K mg "rooms_in" s_rooms_in ["rows"]) (B : Bt mg) : Cal P w K mg base 1 "rooms_in" ["rows"] (spRoomsIn w) := by
  refine cal_of T sc_rooms_in (fun vs H Q E h => ?_) (fun f cdv A outer s H vs Q E hr h => ?_)
  · obtain ⟨p, rs, A, rfl, _⟩ := h
    rfl
  · obtain ⟨p, rs, A, rfl, ⟨ws, hp, hrs⟩, hA, hin, q⟩ := h
    refine ⟨_, (pss_one (ps_ret (pe_callB (cr_sortedS rfl) (by rfl) B.sorted (by decide +kernel) (pa_cons (pe_sc2 (own := [("rooms", 1), ("tos", 2), ("room", 3)]) (vs1 := [3]) (go := (gTup K 2 (gCons (gName 1) (gCons (gName 2) gNil)))) (wn := iTup K (tVar 1)) (gn := (gName 3)) (te := (tVar 3)) (by rfl) sc_rooms_in.nd (pi_list (pv 0)) (blkOk_by (own := [("rooms", 1), ("tos", 2), ("room", 3)]) (N := ["rows", "rooms", "tos", "room"]) (sc := defScope s_rooms_in) (by decide +kernel)) (by decide) (fun _ _ _ _ _ => (pg_tup (by rfl) (pgs_cons (pg_name (i := 1) sc_rooms_in.nd rfl (Or.inl rfl)) (pgs_cons (pg_name (i := 2) sc_rooms_in.nd rfl (Or.inl rfl)) pgs_nil)))) (fun _ _ _ _ _ => (pi_tup (pv 1))) (fun _ _ _ _ _ => (pg_name (i := 3) sc_rooms_in.nd rfl (Or.inl rfl))) (fun _ _ _ _ _ => (pv 3))) pa_nil)))), ?_⟩
    have hwl := hrs.len
    refine ⟨_, rfl, p, rfl, ⟨_, SqL.of hp⟩, fun D nD => ?_⟩
    refine ⟨fun i m H2 => m = ws.length - i ∧ i ≤ ws.length ∧ Same H H2 ∧ SetIs w H2 D (allRooms (rs.take i)), ⟨ws.length, (Nat.sub_zero _).symm, Nat.zero_le _, same_upd nD, ⟨_, 0, [], upd_same, List.nodup_nil, rfl, fun k => by simp, fun k => by simp [allRooms]⟩⟩, ?_⟩
    rintro i m H2 ⟨rfl, hi, s2, set2⟩
    by_cases hlt : i < ws.length
    · have hx : ws[i]? = some ws[i] := List.getElem?_eq_getElem hlt
      obtain ⟨r, er, a, b, c, ea, ha, hb, hc⟩ := hrs.get hx
      refine .inr ⟨⟨ws, ws[i], SqL.of (s2 _ _ hp), hx⟩, fun H3 => Same H H3 ∧ SetIs w H3 D (allRooms (rs.take (i + 1))), fun H' h => ⟨ws.length - (i + 1), by omega, rfl, hlt, h⟩, fun x H' y => ?_⟩
      obtain ⟨e1, y⟩ := y
      have ex : x = .ref a := by
        have z := y ws (SqL.of (s2 _ _ hp))
        rw [hx] at z
        injection z with z
        rw [← z, ea]
      rw [e1]
      clear e1 y
      subst ex
      refine ⟨a, _, rfl, (ha.same s2).sq, rfl, _, _, rfl, _, _, rfl, rfl, rfl, ?_⟩
      refine ⟨_, rfl, b, rfl, ⟨_, (hb.same s2).sq⟩, ?_⟩
      refine ⟨fun j k H3 => k = r.1.length - j ∧ j ≤ r.1.length ∧ Same H H3 ∧ SetIs w H3 D (allRooms (rs.take i) ++ r.1.take j), ⟨r.1.length, (Nat.sub_zero _).symm, Nat.zero_le _, s2, by rw [List.take_zero, List.append_nil]; exact set2⟩, ?_⟩
      rintro j k H3 ⟨rfl, hj, s3, set3⟩
      by_cases hjt : j < r.1.length
      · have hy : (r.1.map V.int)[j]? = some (V.int r.1[j]) := by
          rw [List.getElem?_map, List.getElem?_eq_getElem hjt]
          rfl
        refine .inr ⟨⟨_, _, (hb.same s3).sq, hy⟩, fun H4 => Same H H4 ∧ SetIs w H4 D (allRooms (rs.take i) ++ r.1.take (j + 1)), fun H' h => ⟨r.1.length - (j + 1), by omega, rfl, hjt, h⟩, fun y H' yl => ?_⟩
        obtain ⟨e2, yl⟩ := yl
        have ey : y = .int r.1[j] := by
          have z := yl _ (hb.same s3).sq
          rw [hy] at z
          injection z with z
          exact z.symm
        rw [e2]
        clear e2 yl
        subst ey
        refine ⟨rfl, _, rfl, ?_⟩
        have sub3 : ∀ k ∈ allRooms (rs.take i) ++ r.1.take j, k ∈ A := by
          intro k hk
          rcases List.mem_append.mp hk with z | z
          · exact hin k (allRooms_sub z)
          · refine hin k (allRooms_sub (i := i + 1) ?_)
            rw [allRooms_take er]
            exact List.mem_append_right _ (List.mem_of_mem_take z)
        obtain ⟨S, n, eD, few, nx⟩ := set3.add (A := A) (by omega) sub3 r.1[j]
        refine ⟨_, S, n, rfl, eD, few, fun c o ec => ?_, ?_⟩
        · rw [upd_ne (ne_of_none ec nD)]
          exact s3 _ _ ec
        · rw [List.take_add_one, List.getElem?_eq_getElem hjt, ← List.append_assoc]
          exact nx _ upd_same
      · have e : j = r.1.length := by omega
        subst e
        rw [List.take_length] at set3
        refine .inl ⟨⟨_, (hb.same s3).sq, by rw [List.length_map]; exact Nat.le_refl _⟩, s3, ?_⟩
        rw [allRooms_take er]
        exact set3
    · have e : i = ws.length := by omega
      subst e
      rw [hwl, List.take_length] at set2
      refine .inl ⟨⟨ws, SqL.of (s2 _ _ hp), Nat.le_refl _⟩, ?_⟩
      refine ⟨D, _, rfl, set2, fun ms u pw mem nu => ?_⟩
      exact q ms u _ pw mem (s2.trans (same_upd nu)) (s2.free nu) upd_same
theorem ok_look {C fI : Addr} {newId initId : String} {bmB : List Value} (OW : XC.Own P K mg "NoWeb" "row" C fI "ValueError" newId initId bmB) (T : At K mg "look_at_web" s_look_at_web ["thing"]) (B : Bt mg) (D : GbW mg) (c_is_row : Cal P w K mg base 4 "is_row" ["thing", "rows"] spRow) (c_rooms_in : Cal P w K mg base 1 "rooms_in" ["rows"] (spRoomsIn w)) :
    CalX P w K mg base 5 "look_at_web" ["thing"] (spLook C) := by
  obtain ⟨tr, mRows⟩ := D.rows
  obtain ⟨tm, mRooms⟩ := D.rooms
  refine cal_ofX T sc_look_at_web (fun vs H Q E h => ?_) (fun f cdv A outer s H vs Q E hr h => ?_)
  · obtain ⟨p, v, g, rfl, _⟩ := h
    rfl
  · obtain ⟨p, v, g, rfl, hv, qy, qn⟩ := h
    refine ⟨_, (pss_cons (ps_if (PW.pt (pw_or (pt_not (pt_val (pe_callB call_isi (by rfl) B.isinstance (by decide +kernel) (pa_cons (pv 0) (pa_cons (pe_bltn (v := .ty "list") (u := .type "list") (by rfl) B.list (by decide +kernel) rfl) pa_nil))))) (pw_or1 (pt_not (pt_chain op_le op_le pe_int (pe_callB call_len_seq (by rfl) B.len PySem.boot_len (pa_cons (pv 0) pa_nil)) (pe_glob (v := .int 80) rfl mRows ⟨_, rfl⟩)))))) (pss_one (ps_raiseX rfl OW hr (takes_of rfl rfl rfl rfl) (pa_cons pe_non pa_nil))) pss_nil)
      (pss_cons (ps_for (passes_of rfl) rfl (pi_enum (by rfl) B.enumerate (pa_cons (pv 0) pa_nil)) (pg_tup (by rfl) (pgs_cons (pg_name (i := 1) sc_look_at_web.nd rfl (Or.inl rfl)) (pgs_cons (pg_name (i := 2) sc_look_at_web.nd rfl (Or.inl rfl)) pgs_nil))) (pss_one (ps_if (pt_not (pt_val (pe_own c_is_row hr (by decide) (by rfl) (pa_cons (pv 2) (pa_cons (pe_callB call_len_seq (by rfl) B.len PySem.boot_len (pa_cons (pv 0) pa_nil)) pa_nil))))) (pss_one (ps_raiseX rfl OW hr (takes_of rfl rfl rfl rfl) (pa_cons (pv 1) pa_nil))) pss_nil)))
      (pss_one (ps_if (pt_cmpR op_gt (pe_callB call_len_seq (by rfl) B.len PySem.boot_len (pa_cons (pe_own c_rooms_in hr (by decide) (by rfl) (pa_cons (pv 0) pa_nil)) pa_nil)) (pe_glob (v := .int 12) rfl mRooms ⟨_, rfl⟩) (nomark _)) (pss_one (ps_raiseX rfl OW hr (takes_of rfl rfl rfl rfl) (pa_cons pe_non pa_nil))) pss_nil)))), ?_⟩
    refine ⟨_, rfl, v, .ty "list", _, _, _, rfl, .ty "list", hv.ty, kit_list g, _, rfl, iteB (fun e => ?_) (fun e => ?_)⟩
    · refine iteT ?_
      have z : lookG g = some none := by
        cases g <;> first | rfl | cases e
      exact ⟨_, rfl, fun d hd => qn none z _ d (same_upd hd) hd upd_same⟩
    cases hv with
    | @lst a vs gs na ha t =>
      have hlen : vs.length = gs.length := t.len
      have lk : lookG (.lst gs) = if 1 ≤ gs.length ∧ gs.length ≤ 80 then (match badAt (rowG gs.length) gs with
        | some i => some (some i)
        | none => if 12 < (oneEach (allRooms (gs.map rwOf))).length then some none else none) else some none := rfl
      refine ⟨_, rfl, a, _, rfl, .inl (SqL.of ha), _, _, rfl, rfl, _, rfl, iteB (fun e1 => ?_) (fun e1 => ?_)⟩
      · refine ⟨_, _, rfl, rfl, _, rfl, ?_⟩
        have l1 := of_decide_eq_true e1
        refine iteB (fun e2 => ?_) (fun e2 => ?_)
        · have l2 : ¬ (vs.length : Int) ≤ 80 := by simpa using e2
          have z : lookG (.lst gs) = some none := by
            rw [lk, if_neg (by omega)]
          exact ⟨_, rfl, fun d hd => qn none z _ d (same_upd hd) hd upd_same⟩
        have l2 : (vs.length : Int) ≤ 80 := by simpa using e2
        rw [if_pos (by omega)] at lk
        refine ⟨_, rfl, a, _, rfl, SqL.of ha, ?_⟩
        refine for_enumS (K := K) (a := a) (xs := vs) (fun i σ H2 => ∃ y1 y2 : Option V, σ = [some (.ref a), y1, y2] ∧ Same H H2 ∧ ∀ (j : Nat) (x : G), j < i → gs[j]? = some x → rowG gs.length x = true) ?_ ?_ ?_ ?_
        · exact ⟨none, none, rfl, Same.refl H, fun j x hj => absurd hj (Nat.not_lt_zero _)⟩
        · rintro i σ H2 _ ⟨_, _, _, s2, _⟩
          exact SqL.of (s2 _ _ ha)
        · rintro i x σ H2 T hx ⟨y1, y2, rfl, s2, good⟩ nT
          obtain ⟨g1, e4, tg⟩ := t.get hx
          have sT : Same H2 (upd H2 T (.tup [.int (i : Nat), x])) := same_upd nT
          refine ⟨T, _, rfl, SqT.of upd_same, rfl, _, _, rfl, _, _, rfl, rfl, ?_⟩
          refine ⟨_, rfl, _, rfl, a, _, rfl, .inl (SqL.of (sT _ _ (s2 _ _ ha))), p, x, g1, vs.length, rfl, tg.keep (Keeps.same (s2.trans sT)), by omega, fun H3 s3 => ?_⟩
          have s03 := (s2.trans sT).trans s3
          refine ⟨_, rfl, ?_⟩
          rw [hlen]
          refine iteB (fun e5 => ?_) (fun e5 => ?_)
          · have b : rowG gs.length g1 = false := by simpa using e5
            have z : lookG (.lst gs) = some (some i) := by
              rw [lk, badAt_some good e4 b]
            exact ⟨_, rfl, _, rfl, fun d hd => qn (some i) z _ d (s03.trans (same_upd hd)) (s03.free hd) upd_same⟩
          · have b : rowG gs.length g1 = true := by simpa using e5
            refine ⟨_, _, rfl, s03, fun j y hj ey => ?_⟩
            rcases Nat.lt_succ_iff_lt_or_eq.mp hj with h | rfl
            · exact good j y h ey
            · rw [e4] at ey
              cases ey
              exact b
        · rintro σ H2 ⟨y1, y2, rfl, s2, good⟩
          rw [hlen] at good
          have all : ∀ g ∈ gs, rowG gs.length g = true := fun g hg => by
            obtain ⟨j, hj, ej⟩ := List.getElem_of_mem hg
            exact good j g hj (by rw [List.getElem?_eq_getElem hj, ej])
          obtain ⟨ra, rb⟩ := rows_at t all
          rw [badAt_none all] at lk
          refine ⟨_, rfl, a, gs.map rwOf, (List.range 100).map fun i => ((i : Nat) : Int), rfl, ⟨vs, s2 _ _ ha, ra.keep (K2.same s2)⟩, by rw [List.length_map, List.length_range]; decide, fun k hk => ?_, fun ms u H3 pw mem s3 nu hu => ?_⟩
          · have := rb k hk
            exact List.mem_map.mpr ⟨k.toNat, List.mem_range.mpr (by omega), by omega⟩
          · have lm : ms.length = (oneEach (allRooms (gs.map rwOf))).length := len_same (pw.imp fun h => Int.ne_of_lt h) (oneEach_nodup _) fun k => (mem k).trans (oneEach_mem k _).symm
            refine ⟨u, _, rfl, .inl (SqL.of hu), _, _, rfl, rfl, _, rfl, iteB (fun z => ?_) (fun z => ?_)⟩
            · have l3 := of_decide_eq_true z
              rw [List.length_map] at l3
              have zz : lookG (.lst gs) = some none := by
                rw [lk]
                exact if_pos (by omega)
              exact ⟨_, rfl, fun d hd => qn none zz _ d ((s2.trans s3).trans (same_upd hd)) ((s2.trans s3).free hd) upd_same⟩
            · have l3 := of_decide_eq_false z
              rw [List.length_map] at l3
              have zz : lookG (.lst gs) = none := by
                rw [lk]
                exact if_neg (by omega)
              exact qy zz H3 (s2.trans s3)
      · refine ⟨_, rfl, iteT ?_⟩
        have l1 := of_decide_eq_false e1
        have z : lookG (.lst gs) = some none := by
          rw [lk, if_neg (by omega)]
        exact ⟨_, rfl, fun d hd => qn none z _ d (same_upd hd) hd upd_same⟩
    | _ => cases e
end
end Su.GW
/-! ### R0: webs as things -/
namespace Su.GW
open PySem PySem.Spec PyProof.Rows L2
def rowT (r : Rw) : G := .tup [.tup (r.1.map G.int), .tup (r.2.map G.int)]
theorem tg_row {p : Addr} {H : Hp} {v : V} {r : Rw} (h : RowAt H v r) : Tg p H v (rowT r) := by
  obtain ⟨a, b, c, rfl, h1, h2, h3⟩ := h
  exact .tup h1 (.cons (.tup h2 (TgL.ints _)) (.cons (.tup h3 (TgL.ints _)) .nil))
theorem tg_rows {p : Addr} {H : Hp} : ∀ {vs : List V} {rs : List Rw}, RowsAt H vs rs → TgL p H vs (rs.map rowT)
  | [], [], _ => .nil
  | _ :: _, _ :: _, h => .cons (tg_row h.1) (tg_rows h.2)
  | [], _ :: _, h => h.elim
  | _ :: _, [], h => h.elim
theorem tg_web {p a : Addr} {H : Hp} {rs : List Rw} (h : WebAt H a rs) (n : a ≠ p) : Tg p H (.ref a) (.lst (rs.map rowT)) := by
  obtain ⟨ws, e, r⟩ := h
  exact .lst n e (tg_rows r)
theorem val_ints (ns : List Int) : (ns.map G.int).map valI = ns := by
  rw [List.map_map]
  exact List.map_id' ns
theorem rw_row (r : Rw) : rwOf (rowT r) = r := by
  show ((r.1.map G.int).map valI, (r.2.map G.int).map valI) = r
  rw [val_ints, val_ints]
theorem ups_all : ∀ {ns : List Int}, ns.Pairwise (· < ·) → (ups ns).all id = true
  | [], _ => rfl
  | [a], _ => rfl
  | a :: b :: l, h => by
    have h1 := List.pairwise_cons.mp h
    have ih := ups_all h1.2
    show (decide (a < b) && (ups (b :: l)).all id) = true
    rw [decide_eq_true (h1.1 b List.mem_cons_self), ih]
    rfl
theorem ris_ints {n : Int} {ns : List Int} (h : Ris 0 (n - 1) ns) : risG n (ns.map G.int) = true := by
  unfold risG
  rw [val_ints, ups_all h.pw, Bool.and_true, List.all_eq_true]
  intro b hb
  obtain ⟨g, hg, rfl⟩ := List.mem_map.mp hb
  obtain ⟨k, hk, rfl⟩ := List.mem_map.mp hg
  show (decide (0 ≤ k) && decide (k < n)) = true
  have := h.lo k hk
  have := h.hi k hk
  rw [decide_eq_true (by omega : 0 ≤ k), decide_eq_true (by omega : k < n)]
  rfl
theorem row_row {n : Nat} {r : Rw} (ok : RowOk n r) : rowG n (rowT r) = true := by
  show (((decide ((0 : Int) ≤ ((r.1.map G.int).length : Int)) && decide (((r.1.map G.int).length : Int) ≤ 6)) && risG 100 (r.1.map G.int)) && (decide (((r.2.map G.int).length : Int) ≤ (n : Int)) && risG n (r.2.map G.int))) = true
  have h1 := ok.few
  have h2 := ris_len ok.tos
  rw [ris_ints (n := 100) ok.rooms, ris_ints (n := (n : Int)) ok.tos, List.length_map, List.length_map, decide_eq_true (by omega : (0 : Int) ≤ (r.1.length : Int)), decide_eq_true (by omega : (r.1.length : Int) ≤ 6), decide_eq_true (by omega : (r.2.length : Int) ≤ (n : Int))]
  rfl
theorem rw_rows (rs : List Rw) : (rs.map rowT).map rwOf = rs := by
  rw [List.map_map]
  have e : (rwOf ∘ rowT) = id := funext fun r => rw_row r
  rw [e, List.map_id]
theorem look_web {rs : List Rw} (ok : WebOk rs) : lookG (.lst (rs.map rowT)) = none := by
  have h1 := ok.pos
  have h2 := ok.few
  obtain ⟨S, hS, hin⟩ := ok.all
  show (if 1 ≤ (rs.map rowT).length ∧ (rs.map rowT).length ≤ 80 then (match badAt (rowG ((rs.map rowT).length : Nat)) (rs.map rowT) with
    | some i => some (some i)
    | none => if 12 < (oneEach (allRooms ((rs.map rowT).map rwOf))).length then some none else none) else some none) = none
  rw [List.length_map, if_pos ⟨h1, h2⟩, badAt_none fun g hg => ?_, rw_rows]
  · show (if 12 < (oneEach (allRooms rs)).length then some none else none) = none
    rw [if_neg]
    have := nodup_few (S := S) (oneEach_nodup (allRooms rs)) fun k hk => hin k ((oneEach_mem k _).mp hk)
    omega
  · obtain ⟨r, hr, rfl⟩ := List.mem_map.mp hg
    exact row_row (ok.row r hr)
theorem in_ints (x : Int) : ∀ xs : List Int, inV (.int x) (xs.map V.int) = decide (x ∈ xs)
  | [] => rfl
  | y :: xs => by
    have ih := in_ints x xs
    unfold inV at ih ⊢
    rw [List.map_cons, List.any_cons, ih]
    show ((y == x) || decide (x ∈ xs)) = decide (x ∈ y :: xs)
    by_cases e : y = x
    · subst e
      simp
    · have e2 : ¬ x = y := fun z => e z.symm
      simp [e, e2]
theorem flat_ints : ∀ xs : List Int, (xs.map V.int).all flatV = true
  | [] => rfl
  | x :: xs => by
    show (flatV (V.int x) && (xs.map V.int).all flatV) = true
    rw [flat_ints xs]
    rfl
end Su.GW
/-! ### GK: kinds, of things of any kind -/
namespace Su.GW
open PySem PySem.Spec PyProof.Rows L2
def wayG : G → Bool
  | .str s => inV (.str s) wayVs
  | _ => false
def sizeG : G → Str → Bool
  | .int n, s => (decide (1 ≤ n) && decide (n ≤ 8)) && (!decide (s = "tree") || inV (.int n) sizeVs)
  | _, _ => false
def strG : G → Str
  | .str s => s
  | _ => ""
/-- the part of a kind that isn't so -/
def kindG (gz gw : G) : Option Str := if wayG gw = true then (if sizeG gz (strG gw) = true then none else some "size") else some "way"
def optV : Option Str → V
  | none => .non
  | some s => .str s
theorem way_str {p : Addr} {H : Hp} {v : V} {g : G} (h : Tg p H v g) (e : wayG g = true) : ∃ s, v = .str s ∧ g = .str s := by
  cases h with
  | str s => exact ⟨s, rfl, rfl⟩
  | _ => cases e
theorem way_is {st : Str} (h : wayG (.str st) = true) : st = "last" ∨ st = "first" ∨ st = "tree" := by
  have z : (("last" == st) || (("first" == st) || (("tree" == st) || false))) = true := h
  simp only [Bool.or_eq_true, beq_iff_eq, Bool.or_false] at z
  rcases z with z | z | z
  · exact .inl z.symm
  · exact .inr (.inl z.symm)
  · exact .inr (.inr z.symm)
theorem kind_ok {gz gw : G} (h : kindG gz gw = none) : ∃ (n : Nat) (x : Str), gz = .int n ∧ gw = .str x ∧ Kind n x := by
  unfold kindG at h
  split at h
  · rename_i h1
    split at h
    · rename_i h2
      cases gw with
      | str x =>
        cases gz with
        | int n =>
          have h2 : ((decide (1 ≤ n) && decide (n ≤ 8)) && (!decide (x = "tree") || inV (.int n) sizeVs)) = true := h2
          rw [Bool.and_eq_true, Bool.and_eq_true, decide_eq_true_eq, decide_eq_true_eq] at h2
          obtain ⟨⟨a, b⟩, c⟩ := h2
          refine ⟨n.toNat, x, by rw [show ((n.toNat : Nat) : Int) = n by omega], rfl, ⟨way_is h1, by omega, by omega, fun e => ?_⟩⟩
          rw [decide_eq_true e] at c
          have c : (((1 : Int) == n) || (((2 : Int) == n) || (((4 : Int) == n) || (((8 : Int) == n) || false)))) = true := c
          simp only [Bool.or_eq_true, beq_iff_eq, Bool.or_false] at c
          omega
        | _ => cases h2
      | _ => cases h1
    · cases h
  · cases h
def spWay : Sp := fun vs H Q _ => ∃ (p : Addr) (v : V) (g : G), vs = [v] ∧ Tg p H v g ∧ Q (.bl (wayG g)) H
def spSize : Sp := fun vs H Q _ => ∃ (p : Addr) (v : V) (g : G) (s : Str), vs = [v, .str s] ∧ Tg p H v g ∧ Q (.bl (sizeG g s)) H
def spPart : Sp := fun vs H Q _ => ∃ (p : Addr) (vz vw : V) (gz gw : G), vs = [vz, vw, .non, .non] ∧ Tg p H vz gz ∧ Tg p H vw gw ∧ Q (optV (kindG gz gw)) H
def spKind (CF : Addr) : Sp := fun vs H Q E => ∃ (p : Addr) (vz vw : V) (gz gw : G), vs = [vz, vw] ∧ Tg p H vz gz ∧ Tg p H vw gw ∧ (kindG gz gw = none → Q .non H) ∧
  ∀ s, kindG gz gw = some s → ∀ (H' : Hp) (d : Addr), Same H H' → H d = none → H' d = some (.xd [("part", .str s)]) → E (.ref CF) (some d) H'
section
variable {P : Program} {w : World} {K : PySem.W.Frag} {mg : Str → Option Value} {base : Heap}
theorem ok_way (T : At K mg "is_way" s_is_way ["thing"]) (B : Bt mg) (D : GbK K mg) : Cal P w K mg base 1 "is_way" ["thing"] spWay := by
  obtain ⟨aWays, mWays, hW⟩ := D.ways
  refine cal_of T sc_is_way (fun vs H Q E h => ?_) (fun f cdv A outer s H vs Q E hr h => ?_)
  · obtain ⟨p, v, g, rfl, _⟩ := h
    rfl
  · obtain ⟨p, v, g, rfl, hv, q⟩ := h
    refine ⟨_, (pss_one (ps_ret (pe_and (pe_callB call_isi (by rfl) B.isinstance (by decide +kernel) (pa_cons (pv 0) (pa_cons (pe_bltn (v := .ty "str") (u := .type "str") (by rfl) B.str (by decide +kernel) rfl) pa_nil))) (pe_one (pe_cmpR op_in_seq (pv 0) (pe_glob (v := .ref aWays) rfl mWays rfl) (by rfl)))))), ?_⟩
    refine ⟨_, rfl, v, .ty "str", _, _, _, rfl, .ty "str", hv.ty, kit_str g, _, rfl, iteB (fun e => ?_) (fun e => ?_)⟩
    · cases hv with
      | str s =>
        refine ⟨_, rfl, aWays, wayVs, rfl, .inr (hW H), rfl, rfl, ?_⟩
        exact q
      | _ => cases e
    · have z : false = wayG g := by
        cases g <;> first | rfl | cases e
      rw [z]
      exact q
theorem ok_size (T : At K mg "is_size" s_is_size ["thing", "way"]) (D : GbK K mg) (c_is_whole : Cal P w K mg base 1 "is_whole" ["thing"] spWhole) : Cal P w K mg base 2 "is_size" ["thing", "way"] spSize := by
  obtain ⟨tm, mMost⟩ := D.most
  obtain ⟨aSizes, mSizes, hZ⟩ := D.sizes
  refine cal_of T sc_is_size (fun vs H Q E h => ?_) (fun f cdv A outer s H vs Q E hr h => ?_)
  · obtain ⟨p, v, g, s, rfl, _⟩ := h
    rfl
  · obtain ⟨p, v, g, s, rfl, hv, q⟩ := h
    refine ⟨_, (pss_cons (ps_if (PW.pt (pw_or (pt_not (pt_val (pe_own c_is_whole hr (by decide) (by rfl) (pa_cons (pv 0) pa_nil)))) (pw_or1 (pt_not (pt_chain op_le op_le pe_int (pv 0) (pe_glob (v := .int 8) rfl mMost ⟨_, rfl⟩)))))) (pss_one (ps_ret pe_bl)) pss_nil)
      (pss_one (ps_ret (pe_or (pe_cmpR op_ne (pv 1) pe_str (nomark _)) (pe_one (pe_cmpR op_in_seq (pv 0) (pe_glob (v := .ref aSizes) rfl mSizes rfl) (by rfl))))))), ?_⟩
    refine ⟨_, rfl, p, v, g, rfl, hv, _, rfl, iteB (fun e => ?_) (fun e => ?_)⟩
    · have z : false = sizeG g s := by
        cases g <;> first | rfl | cases e
      rw [z]
      exact q
    · have e' : wholeG g = true := by
        cases y : wholeG g with
        | true => rfl
        | false =>
          rw [y] at e
          cases e
      obtain ⟨i, rfl, rfl⟩ := whole_int hv e'
      have q : Q (.bl ((decide (1 ≤ i) && decide (i ≤ 8)) && (!decide (s = "tree") || inV (.int i) sizeVs))) H := q
      refine ⟨_, rfl, _, _, rfl, rfl, _, rfl, iteB (fun e1 => ?_) (fun e1 => ?_)⟩
      · rw [e1, Bool.true_and] at q
        refine ⟨_, _, rfl, rfl, _, rfl, iteB (fun e2 => ?_) (fun e2 => ?_)⟩
        · have e3 : decide (i ≤ 8) = false := by simpa using e2
          rw [e3, Bool.false_and] at q
          exact q
        · have e3 : decide (i ≤ 8) = true := by simpa using e2
          rw [e3, Bool.true_and] at q
          refine ⟨_, rfl, rfl, _, rfl, iteB (fun e4 => ?_) (fun e4 => ?_)⟩
          · have e5 : decide (s = "tree") = false := by
              cases y : decide (s = ("tree" : Str)) with
              | false => rfl
              | true =>
                rw [of_decide_eq_true y] at e4
                exact absurd e4 (by decide)
            rw [e5] at q
            exact q
          · have e5 : decide (s = "tree") = true := by
              cases y : decide (V.str s = V.str "tree") with
              | false =>
                rw [y] at e4
                cases e4
              | true => exact decide_eq_true (V.str.inj (of_decide_eq_true y))
            rw [e5] at q
            exact ⟨_, rfl, aSizes, sizeVs, rfl, .inr (hZ H), rfl, rfl, q⟩
      · rw [e1, Bool.false_and, Bool.false_and] at q
        exact ⟨_, rfl, iteT q⟩
theorem ok_part (T : At K mg "wrong_part" s_wrong_part ["size", "way", "slots", "bits"]) (c_is_way : Cal P w K mg base 1 "is_way" ["thing"] spWay) (c_is_size : Cal P w K mg base 2 "is_size" ["thing", "way"] spSize) :
    Cal P w K mg base 3 "wrong_part" ["size", "way", "slots", "bits"] spPart := by
  refine cal_of T sc_wrong_part (fun vs H Q E h => ?_) (fun f cdv A outer s H vs Q E hr h => ?_)
  · obtain ⟨p, vz, vw, gz, gw, rfl, _⟩ := h
    rfl
  · obtain ⟨p, vz, vw, gz, gw, rfl, hz, hw, q⟩ := h
    refine ⟨_, pss_cons (ps_if (pt_not (pt_val (pe_own c_is_way hr (by decide) (by rfl) (pa_cons (pv 1) pa_nil)))) (pss_one (ps_ret pe_str)) pss_nil) (pss_cons (ps_if (pt_not (pt_val (pe_own c_is_size hr (by decide) (by rfl) (pa_cons (pv 0) (pa_cons (pv 1) pa_nil))))) (pss_one (ps_ret pe_str)) pss_nil)
      (pss_cons (ps_if (PW.pt (pw_and (pt_cmpR op_notN (pv 2) pe_non (nomark _)) (pw_and1 pt_never))) (pss_one (ps_ret pe_str)) pss_nil) (pss_cons (ps_if (PW.pt (pw_and (pt_cmpR op_notN (pv 3) pe_non (nomark _)) (pw_and1 pt_never))) (pss_one (ps_ret pe_str)) pss_nil) (pss_one (ps_ret pe_non))))), ?_⟩
    refine ⟨_, rfl, p, vw, gw, rfl, hw, _, rfl, iteB (fun e => ?_) (fun e => ?_)⟩
    · unfold kindG at q
      rw [if_neg (by rw [show wayG gw = false from by simpa using e]; exact Bool.false_ne_true)] at q
      exact q
    have e1 : wayG gw = true := by simpa using e
    obtain ⟨st, rfl, rfl⟩ := way_str hw e1
    unfold kindG at q
    rw [if_pos e1] at q
    refine ⟨_, rfl, _, rfl, p, vz, gz, st, rfl, hz, _, rfl, iteB (fun e => ?_) (fun e => ?_)⟩
    · rw [if_neg (by rw [show sizeG gz (strG (.str st)) = false from by simpa [strG] using e]; exact Bool.false_ne_true)] at q
      exact q
    have e2 : sizeG gz (strG (.str st)) = true := by simpa [strG] using e
    rw [if_pos e2] at q
    refine ⟨_, rfl, rfl, _, rfl, iteF (iteF ?_)⟩
    refine ⟨_, rfl, rfl, _, rfl, iteF (iteF ?_)⟩
    exact q
theorem ok_kind {CF fI : Addr} {newId initId : String} {bmB : List Value} (OF : XC.Own P K mg "NoShelf" "part" CF fI "ValueError" newId initId bmB) (T : At K mg "look_at_kind" s_look_at_kind ["size", "way"]) (c_wrong_part : Cal P w K mg base 3 "wrong_part" ["size", "way", "slots", "bits"] spPart) : CalX P w K mg base 4 "look_at_kind" ["size", "way"] (spKind CF) := by
  refine cal_ofX T sc_look_at_kind (fun vs H Q E h => ?_) (fun f cdv A outer s H vs Q E hr h => ?_)
  · obtain ⟨p, vz, vw, gz, gw, rfl, _⟩ := h
    rfl
  · obtain ⟨p, vz, vw, gz, gw, rfl, hz, hw, qy, qn⟩ := h
    refine ⟨_, (pss_cons (ps_set (i := 2) sc_look_at_kind.nd rfl (Or.inl rfl) (pe_own c_wrong_part hr (by decide) (by rfl) (pa_cons (pv 0) (pa_cons (pv 1) (pa_cons pe_non (pa_cons pe_non pa_nil))))))
      (pss_one (ps_if (pt_cmpR op_notN (pv 2) pe_non (nomark _)) (pss_one (ps_raiseX rfl OF hr (takes_of rfl rfl rfl rfl) (pa_cons (pv 2) pa_nil))) pss_nil))), ?_⟩
    refine ⟨_, rfl, _, rfl, p, vz, vw, gz, gw, rfl, hz, hw, ?_⟩
    cases e : kindG gz gw with
    | none => exact ⟨_, rfl, rfl, _, rfl, iteF (qy e)⟩
    | some s => exact ⟨_, rfl, rfl, _, rfl, iteT ⟨_, rfl, _, rfl, fun d hd => qn s e _ d (same_upd hd) hd upd_same⟩⟩
end
end Su.GW
/-! ### LN: few enough lays -/
namespace Su
open PySem PySem.Spec PyProof.Rows L2
theorem kind_none {n : Nat} {x : Str} (kd : Kind n x) : GW.kindG (.int (n : Nat)) (.str x) = none := by
  have h1 := kd.lo
  have h2 := kd.hi
  have w : GW.wayG (.str x) = true := by
    rcases kd.way with rfl | rfl | rfl <;> rfl
  have z : GW.sizeG (.int (n : Nat)) (GW.strG (.str x)) = true := by
    show ((decide (1 ≤ (n : Int)) && decide ((n : Int) ≤ 8)) && (!decide (x = "tree") || inV (.int (n : Nat)) sizeVs)) = true
    rw [decide_eq_true h1, decide_eq_true h2, Bool.true_and, Bool.true_and]
    by_cases e : x = "tree"
    · rw [decide_eq_true e]
      show (((1 : Int) == n) || (((2 : Int) == n) || (((4 : Int) == n) || (((8 : Int) == n) || false)))) = true
      have := kd.tree e
      simp only [Bool.or_eq_true, beq_iff_eq, Bool.or_false]
      omega
    · rw [decide_eq_false e]
      rfl
  unfold GW.kindG
  rw [if_pos w, if_pos z]
theorem cnt_sums : ∀ n < 9, ∀ N < 13, ((cntS n N : Nat) : Int) = sums N n (n + 1) := by decide +kernel
def srt (l : List Int) : List Int := l.mergeSort fun a b => decide (a ≤ b)
theorem srt_perm (l : List Int) : (srt l).Perm l := List.mergeSort_perm l _
theorem srt_le (l : List Int) : (srt l).Pairwise (· ≤ ·) := by
  have h := List.pairwise_mergeSort (le := fun a b : Int => decide (a ≤ b)) (fun a b c h1 h2 => decide_eq_true (Int.le_trans (of_decide_eq_true h1) (of_decide_eq_true h2))) (fun a b => by
    rcases Int.le_total a b with h | h
    · rw [decide_eq_true h, Bool.true_or]
    · rw [decide_eq_true h, Bool.or_true]) l
  exact h.imp fun h => of_decide_eq_true h
/-- the rooms of a web, sorted -/
def roomsR (rs : List Rw) : List Int := srt (GW.oneEach (allRooms rs))
theorem rooms_mem {rs : List Rw} {k : Int} : k ∈ roomsR rs ↔ k ∈ allRooms rs := (srt_perm _).mem_iff.trans (GW.oneEach_mem k _)
theorem rooms_pw (rs : List Rw) : (roomsR rs).Pairwise (· < ·) := by
  have h1 := srt_le (GW.oneEach (allRooms rs))
  have h2 : (roomsR rs).Nodup := (srt_perm _).nodup_iff.mpr (GW.oneEach_nodup _)
  exact (h1.and h2).imp fun h => by omega
theorem rooms_is {rs : List Rw} {ms : List Int} (pw : ms.Pairwise (· < ·)) (h : ∀ k, k ∈ ms ↔ k ∈ allRooms rs) : ms = roomsR rs := pw_same pw (rooms_pw rs) fun k => (h k).trans rooms_mem.symm
theorem rooms_len (rs : List Rw) : (roomsR rs).length = (GW.oneEach (allRooms rs)).length := (srt_perm _).length_eq
/-- few enough lays for a table -/
def fewL (rs : List Rw) (n : Nat) (x : Str) : Prop := rs.length * (cntS n (roomsR rs).length * 2 ^ (bitsN n x).toNat) ≤ 20000
theorem layIn_of {rs : List Rw} {n : Nat} {x : Str} (ok : WebOk rs) (kd : Kind n x) (f : fewL rs n x) : LayIn rs n x (roomsR rs) := ⟨ok, kd, rooms_pw rs, fun _ => rooms_mem, f⟩
def spMany (CM : Addr) : Sp := fun vs H Q E => ∃ (p : Addr) (rs : List Rw) (n : Nat) (x : Str), vs = [.ref p, .int n, .str x] ∧ WebAt H p rs ∧ WebOk rs ∧ Kind n x ∧ (fewL rs n x → ∀ H', Same H H' → Q .non H') ∧ (¬ fewL rs n x → ∀ H', Same H H' → E (.ref CM) none H')
theorem sc_look_at_many : FnScope ["web", "size", "way"] ["web", "size", "way"] (defScope s_look_at_many) := ⟨rfl, rfl, rfl, by decide +kernel, rfl, by decide +kernel, by decide +kernel⟩
section
variable {P : Program} {w : World} {K : PySem.W.Frag} {mg : Str → Option Value} {base : Heap}
theorem ok_many {CM : Addr} {newId initId : String} {bmB : List Value} (OM : Own0 K mg "TooMany" CM "ValueError" newId initId bmB) (mLays : ∃ t, mg "MOST_LAYS" = some (.int 20000 t)) (T : At K mg "look_at_many" s_look_at_many ["web", "size", "way"]) (B : Bt mg) (c_rooms_in : Cal P w K mg base 1 "rooms_in" ["rows"] (spRoomsIn w)) (c_reckoned : Cal P w K mg base 2 "reckoned" ["rooms", "size", "way"] spReckoned) :
    CalX P w K mg base 3 "look_at_many" ["web", "size", "way"] (spMany CM) := by
  obtain ⟨tl, mLays⟩ := mLays
  refine cal_ofX T sc_look_at_many (fun vs H Q E h => ?_) (fun f cdv A outer s H vs Q E hr h => ?_)
  · obtain ⟨p, rs, n, x, rfl, _⟩ := h
    rfl
  · obtain ⟨p, rs, n, x, rfl, hW, ok, kd, qy, qn⟩ := h
    refine ⟨_, (pss_one (ps_if (pt_cmpR op_gt (pe_op op_mul (pe_own c_reckoned hr (by decide) (by rfl) (pa_cons (pe_callB call_len_seq (by rfl) B.len PySem.boot_len (pa_cons (pe_own c_rooms_in hr (by decide) (by rfl) (pa_cons (pv 0) pa_nil)) pa_nil)) (pa_cons (pv 1) (pa_cons (pv 2) pa_nil)))) (pe_callB call_len_seq (by rfl) B.len PySem.boot_len (pa_cons (pv 0) pa_nil))) (pe_glob (v := .int 20000) rfl mLays ⟨_, rfl⟩) (nomark _)) (pss_one (ps_raiseT rfl OM (takes_of rfl rfl rfl rfl))) pss_nil)), ?_⟩
    obtain ⟨S, hS, hin⟩ := id ok.all
    refine ⟨_, rfl, p, rs, S, rfl, hW, by omega, hin, fun ms u H1 pw mem s1 nu hu => ?_⟩
    obtain rfl := rooms_is pw mem
    have few12 : (roomsR rs).length ≤ 12 := by
      have := nodup_few (S := S) (pw.imp fun h => Int.ne_of_lt h) fun k hk => hin k ((mem k).mp hk)
      omega
    refine ⟨u, _, rfl, .inl (SqL.of hu), _, rfl, _, rfl, (roomsR rs).length, n, x, by rw [List.length_map]; rfl, few12, kd, ?_⟩
    obtain ⟨ws, hp, hrs⟩ := id hW
    have hwl := hrs.len
    have nk := kd.hi
    have f80 := ok.few
    have key : sums (roomsR rs).length n (n + 1) * 2 ^ (bitsN n x).toNat * (ws.length : Int) = ((rs.length * (cntS n (roomsR rs).length * 2 ^ (bitsN n x).toNat) : Nat) : Int) := by
      rw [← cnt_sums n (by omega) _ (by omega), hwl]
      simp only [Int.natCast_mul, Int.natCast_pow]
      rw [Int.mul_comm]
      rfl
    refine ⟨_, rfl, p, _, rfl, .inl (SqL.of (s1 _ _ hp)), _, _, rfl, rfl, .inr ⟨by omega, by omega⟩, _, _, rfl, rfl, _, rfl, ?_⟩
    show (if decide (20000 < sums (roomsR rs).length n (n + 1) * 2 ^ (bitsN n x).toNat * (ws.length : Int)) = true then _ else _)
    rw [key]
    refine iteB (fun z => ?_) (fun z => ?_)
    · refine qn (fun f => ?_) H1 s1
      have := of_decide_eq_true z
      unfold fewL at f
      omega
    · refine qy ?_ H1 s1
      have := of_decide_eq_false z
      unfold fewL
      omega
end
end Su
/-! ### LS: all that may lie, at each row -/
namespace Su
open PySem PySem.Spec PyProof.Rows L2
open LamX hiding takes0
def spStands (C CF CM : Addr) (TL : List (Addr × Str)) : Sp := fun vs H Q E => ∃ v1 vz vw : V, vs = [v1, vz, vw] ∧
  ((∃ (q : Addr) (g : G) (r : Option Nat), Tg q H v1 g ∧ GW.lookG g = some r ∧ ∀ (H' : Hp) (d : Addr), Same H H' → H d = none → H' d = some (.xd [("row", GW.rowV r)]) → E (.ref C) (some d) H') ∨
   (∃ (q p : Addr) (rs : List Rw) (gz gw : G), v1 = .ref p ∧ WebAt H p rs ∧ WebOk rs ∧ Tg q H vz gz ∧ Tg q H vw gw ∧ Tabs TL H ∧
    (∀ s, GW.kindG gz gw = some s → ∀ (H' : Hp) (d : Addr), Same H H' → H d = none → H' d = some (.xd [("part", .str s)]) → E (.ref CF) (some d) H') ∧
    ∀ (n : Nat) (x : Str), gz = .int n → gw = .str x → Kind n x →
      (¬ fewL rs n x → ∀ H', Same H H' → E (.ref CM) none H') ∧
      (fewL rs n x → ∀ (cs : List CE) (u : Addr) (us : List V) (H' : Hp), ExtN H H' → Tabs TL H' → NewN H u → Came (laySys rs (roomsR rs) n x) cs → H' u = some (.lst us) → TabTo H' us cs rs.length → Q (.ref u) H')))
theorem sc_stands : FnScope ["web", "size", "way"] ["web", "size", "way"] (defScope s_stands) := ⟨rfl, rfl, rfl, by decide +kernel, rfl, by decide +kernel, by decide +kernel⟩
section
variable {P : Program} {w : World} {K : PySem.W.Frag} {mg : Str → Option Value} {base : Heap}
theorem ok_stands {C CF CM : Addr} {TL : List (Addr × Str)} (T : AtD K mg "stands" s_stands ["web", "size", "way"] [.int 4, .str "last"]) (B : Bt mg) (c_look_at_web : CalX P w K mg base 5 "look_at_web" ["thing"] (GW.spLook C)) (c_look_at_kind : CalX P w K mg base 4 "look_at_kind" ["size", "way"] (GW.spKind CF))
    (c_look_at_many : CalX P w K mg base 3 "look_at_many" ["web", "size", "way"] (spMany CM)) (c_lays_come : Cal P w K mg base 8 "lays_come" ["web", "size", "way"] (spCome w TL)) (c_table_of : Cal P w K mg base 1 "table_of" ["came", "web"] (spTable w)) :
    CalX P w K mg base 9 "stands" ["web", "size", "way"] (spStands C CF CM TL) := by
  refine cal_ofXD T sc_stands (fun vs H Q E h => ?_) (fun f cdv A outer s H vs Q E hr h => ?_)
  · obtain ⟨v1, vz, vw, rfl, _⟩ := h
    rfl
  · obtain ⟨v1, vz, vw, rfl, h⟩ := h
    refine ⟨_, (pss_cons (ps_expr (pe_ownX (takes_of rfl rfl rfl rfl) c_look_at_web hr (by decide) (by rfl) (pa_cons (pv 0) pa_nil)))
      (pss_cons (ps_expr (pe_ownX (takes_of rfl rfl rfl rfl) c_look_at_kind hr (by decide) (by rfl) (pa_cons (pv 1) (pa_cons (pv 2) pa_nil))))
      (pss_cons (ps_expr (pe_ownX (takes_of rfl rfl rfl rfl) c_look_at_many hr (by decide) (by rfl) (pa_cons (pv 0) (pa_cons (pv 1) (pa_cons (pv 2) pa_nil)))))
      (pss_one (ps_ret (pe_own c_table_of hr (by decide) (by rfl) (pa_cons (pe_own c_lays_come hr (by decide) (by rfl) (pa_cons (pv 0) (pa_cons (pv 1) (pa_cons (pv 2) pa_nil)))) (pa_cons (pv 0) pa_nil)))))))), ?_⟩
    rcases h with ⟨q0, g, r, hv, lk, qn⟩ | ⟨q0, p, rs, gz, gw, rfl, hW, ok, tz, tw, hT, qkind, qy⟩
    · refine ⟨_, rfl, q0, v1, g, rfl, hv, fun e => ?_, fun r' e H1 d s1 nd hd => ?_⟩
      · rw [lk] at e
        cases e
      · rw [lk] at e
        cases e
        exact qn H1 d s1 nd hd
    obtain ⟨ws, hp, hrs⟩ := id hW
    have hwl := hrs.len
    have f80 := ok.few
    refine ⟨_, rfl, p + 1, .ref p, _, rfl, GW.tg_web hW (Nat.ne_of_lt (Nat.lt_succ_self p)), fun _ H1 s1 => ?_, fun r' e => ?_⟩
    rotate_left
    · rw [GW.look_web ok] at e
      cases e
    refine ⟨_, rfl, _, rfl, q0, vz, vw, gz, gw, rfl, tz.keep (Keeps.same s1), tw.keep (Keeps.same s1), fun ek => ?_, fun st ek H2 d s2 nd hd => qkind st ek H2 d (s1.trans s2) (s1.free nd) hd⟩
    obtain ⟨n, x, rfl, rfl, kd⟩ := GW.kind_ok ek
    cases tz
    cases tw
    obtain ⟨qm, q⟩ := qy n x rfl rfl kd
    refine ⟨_, rfl, _, rfl, _, rfl, p, rs, n, x, rfl, hW.same s1, ok, kd, fun fw H2 s2 => ?_, fun nf H2 s2 => qm nf H2 (s1.trans s2)⟩
    have s02 := s1.trans s2
    have q := q fw
    have T2 : Tabs TL H2 := hT.ext fun b o e => s02 _ _ e
    refine ⟨_, rfl, _, rfl, _, rfl, p, rs, n, x, roomsR rs, rfl, hW.same s02, layIn_of ok kd fw, T2, fun C3 H3 xs e3 hT3 nC nd3 hx3 came => ?_⟩
    have c20 := came_few (layIn_of ok kd fw) came
    rw [List.length_map] at c20
    have e03 : ExtN H H3 := (ExtN.of s02).trans e3
    refine ⟨_, rfl, C3, p, xs, ws, rfl, nd3, hx3, e03 _ _ hp (fun _ z => nomatch z), by omega, fun x1 h1 => ?_, fun z => nC.ne (s02 _ _ hp) (fun _ y => nomatch y) z.symm, c20, fun u us H4 fr nu hu ht hrn => ?_⟩
    · have := (came.ok x1.e (List.mem_map.mpr ⟨x1, h1, rfl⟩)).1
      rw [hwl]
      exact this
    · rw [hwl] at ht
      have e04 : ExtN H H4 := fun c o ec nt => fr _ _ (e03 _ _ ec nt) (fun z => nC.ne (s02 _ _ ec) nt z)
      have T4 : Tabs TL H4 := by
        have t3 := hT3 (.lst [])
        intro pq hpq
        obtain ⟨ps, h1, h2, h3⟩ := t3 pq hpq
        have nP : pq.1 ≠ C3 := fun z => by
          rw [z, upd_same] at h1
          cases h1
        have nc : ∀ c, (upd H3 C3 (.lst [])) c = some (LamX.CodeO c pq.2) → c ≠ C3 := fun c e z => by
          rw [z, upd_same] at e
          cases e
        rw [upd_ne nP] at h1
        refine ⟨ps, fr _ _ h1 nP, h2, fun pos cv hc => ?_⟩
        obtain ⟨c, e1, e2⟩ := h3 pos cv hc
        have n2 := nc c e2
        rw [upd_ne n2] at e2
        exact ⟨c, e1, fr _ _ e2 n2⟩
      refine q _ u us H4 e04 T4 (fun o ho => ?_) came hu ht
      refine Classical.byContradiction fun z => ?_
      have e4 := e03 _ _ ho fun ps e => z ⟨ps, e⟩
      rw [nu] at e4
      cases e4
end
end Su
/-! ### ND5: sorted(d) of a dict whose keys are tuples of any depth -/
namespace Su
open PySem PySem.Spec PyProof.Rows L2
def rSortedND (w : World) (K : PySem.W.Frag) : List V → Hp → VK → Prop := fun xs H Q => ∃ (a : Addr) (kvs : List NEnt) (zs : List (V × PyData)), xs = [.ref a] ∧ ND w H a kvs ∧ zs.map (·.1) = kvs.map (fun e => V.ref e.2.1) ∧ (∀ z ∈ zs, Dp K H z.1 z.2) ∧ PySem.W.AllAlike (zs.map (·.2)) ∧ PySem.W.Sortable (zs.map (·.2)) ∧ (∀ z ∈ zs, z.2.depth ≤ 60) ∧
  ∀ p, H p = none → Q (.ref p) (L2.upd H p (.lst ((srtD zs).map (·.1))))
section
variable {X : Cx}
theorem cr_sortedND (hc : X.calm = true) (hu : X.A.units + 65 < cLine) : CallR X (.builtin "sorted") (rSortedND X.w X.K) := by
  intro pins s σ H xs us Q I r h
  obtain ⟨a, kvs, zs, rfl, d, ez, hd, hal, hk, hdp, q⟩ := h
  rw [Vals.ref1 r]
  obtain ⟨ys, rel, o, es, ep, ho, hx, hdd, he, _, _⟩ := d.of I.hok
  have hl : kvs.length = ys.length := Paired.length rel
  have hz : es.size = kvs.length := by
    rw [← Array.length_toList, he, List.length_map, hl]
  have few := d.few
  refine Calls.call_function_entry kind_sorted plain_sorted entry_sorted (args_sorted1 _) ?_
  unfold Builtin.«sorted»
  refine wpAny_bind (m := checkCount "sorted" 1 1 _) (wpAny_pure (wpAny_bind (PySem.W.kdu_collect (A := X.A.in1) (KdlSrc.rawDict d.low (es := es) (ep := ep)) (I.ok.hd hc) ⟨o, ho, hx, hdd⟩ (by omega) fun h' tk acc hkp hacc => ?_)))
  have ev : acc.toList = kvs.map (fun e => Value.ref e.2.1) := by
    refine List.ext_getElem? fun i => ?_
    have h1 : acc.size = kvs.length := by rw [hacc.1, hz]
    by_cases lt : i < kvs.length
    · obtain ⟨e, ei⟩ : ∃ e, kvs[i]? = some e := ⟨_, List.getElem?_eq_getElem lt⟩
      obtain ⟨b, hb, e1, e2, _⟩ := paired_get rel ei
      obtain ⟨v, hv⟩ : ∃ v, acc[i]? = some v := ⟨_, Array.getElem?_eq_getElem (by omega)⟩
      obtain ⟨hi, ek⟩ := hacc.2 i v hv
      have ent : es[i]? = some ⟨b.1.hash X.w, .ref b.2.1, b.2.2⟩ := by
        rw [← Array.getElem?_toList, he, List.getElem?_map, hb]
        rfl
      rw [Array.getElem?_eq_getElem hi] at ent
      injection ent with ent
      rw [Array.getElem?_toList, hv, List.getElem?_map, ei, ek, ent, ← e2]
      rfl
    · rw [List.getElem?_eq_none (by rw [Array.length_toList]; omega), List.getElem?_eq_none (by rw [List.length_map]; omega)]
  have rv0 : Vals (kvs.map fun e => V.ref e.2.1) acc.toList := keys_vals ev
  rw [← ez] at rv0
  have I1 : Inv X pins σ H { s with heap := h', toks := tk } := I.kept hkp
  have alen : acc.toList.length ≤ sizeLine := by
    rw [ev, List.length_map]
    exact few
  refine wpAny_bind (wpAny_newList ?_ alen)
  have at1 : (h'.push (seqObj "list" acc.toList.toArray 0)).get? h'.objs.size = some (seqObj "list" acc.toList.toArray 0) := Heap.get?_push_size _ rfl
  show wpAny _ _ _ _ _ { s with heap := h'.push (seqObj "list" acc.toList.toArray 0), toks := tk }
  have er := each_reads I1 rv0 hd
  have er' : PySem.W.EachIs (fun u (z : V × PyData) => ∃ as, Reads (PySem.W.sortingHeap (h'.push (seqObj "list" acc.toList.toArray 0)) h'.objs.size acc.toList) u z.2 as) acc.toList zs := er.mono fun _ _ ⟨as, r⟩ => ⟨as, PyProof.Rows.Reads.keeps (fun b o e => by
    have lt : b < h'.objs.size := Heap.lt_size e
    exact PySem.W.sortingHeap_old (Nat.ne_of_lt lt) (Heap.get?_push_of_some _ e)) r⟩
  have each := each_rel (zs := zs) rv0
  have zl : zs.length = kvs.length := by
    have y := congrArg List.length ez
    rwa [List.length_map, List.length_map] at y
  have S := PySem.W.SortsAt.data (prog := X.prog) (w := X.w) (A := X.A.in1.in1) (s := { s with heap := PySem.W.sortingHeap (h'.push (seqObj "list" acc.toList.toArray 0)) h'.objs.size acc.toList, toks := tk }) (PySem.W.each_map (R := fun v d => ∃ as, Reads (PySem.W.sortingHeap (h'.push (seqObj "list" acc.toList.toArray 0)) h'.objs.size acc.toList) v d as) (fun z : V × PyData => z.2) er') hal hk (PySem.W.bound_map fun b hb => by
    have := hdp b hb
    show X.A.units + 1 + 1 + b.2.depth < cLine
    omega)
  refine wpAny_bind (wpAny_holding (wpAny_call_entry slot_list_sort ⟨_, at1, rfl⟩ entry_list_sort (PySem.W.list_sort_vals (s := { s with heap := h'.push (seqObj "list" acc.toList.toArray 0), toks := tk }) at1 S alen ⟨_, rfl, ?_⟩) (args_list_sort _)))
  have h2 := PySem.W.sortVals_data false each er' hal
  have olen : ((srtD zs).map (·.1)).length ≤ sizeLine := by
    rw [List.length_map, List.length_mergeSort, zl]
    exact few
  generalize PySem.W.sortVals (PySem.W.dataKind _ (zs.map fun z : V × PyData => z.2)) false acc.toList acc.toList = out at h2 ⊢
  obtain ⟨c, hcc⟩ := sortedHeap_at (vs := acc.toList) (out := out.toArray) at1
  refine wpAny_pure ⟨_, rfl, .ref h'.objs.size, L2.upd H h'.objs.size (.lst ((srtD zs).map (·.1))), I1.laid (t' := tk) (fun b u e => ?_) (Nat.le_refl _) (show ObjOk X.prog X.w _ _ _ (.lst _) from ⟨olen, out, c, rel_each h2, hcc⟩), rfl, q _ (I1.hok.fresh (Nat.le_refl _))⟩
  have lt : b < h'.objs.size := Heap.lt_size e
  rw [sortedHeap_old (Nat.ne_of_lt lt) (by rw [size_push']; exact Nat.lt_succ_of_lt lt)]
  exact Heap.get?_push_of_some _ e
def tDNewN : TE := fun _ H Q => ∀ p, H p = none → (p == sysModules) = false → Q (.ref p) (L2.upd H p (.dK []))
theorem pe_dnewN {pos : Pos} : PE X (.Dict [] [] pos) tDNewN := ⟨fun pins s σ H Q I h => by
  have low : (s.heap.objs.size == sysModules) = false := beq_eq_false_iff_ne.mpr (Ne.symm (Nat.ne_of_lt I.big))
  exact wpAny_Dict_empty ⟨.ref s.heap.objs.size, _, I.laid (a := s.heap.objs.size) (o := .dK []) (t' := s.toks) (fun _ _ q => Heap.get?_push_of_some _ q) (Nat.le_refl _) (dk_empty s.heap I.big), rfl, h _ (I.hok.fresh (Nat.le_refl _)) low⟩⟩
end
end Su
/-! ### R3a: the law's search for lays: its dicts and its line -/
namespace Su
open PySem PySem.Spec PyProof.Rows L2
open LamX hiding takes0
/-- an entry: the lay's place, the place of its tuple in the line -/
structure SE where
  e : CE
  T : Addr
  A : Addr
def kvsI (xs : List SE) (i : Nat) : List NEnt := (xs.filter fun x => decide (x.e.row = i)).map fun x => (x.e.st, x.T, V.bl true)
theorem kvsI_snoc (xs : List SE) (x : SE) (i : Nat) : kvsI (xs ++ [x]) i = if x.e.row = i then kvsI xs i ++ [(x.e.st, x.T, V.bl true)] else kvsI xs i := by
  unfold kvsI
  rw [List.filter_append, List.map_append]
  by_cases c : x.e.row = i
  · rw [if_pos c, List.filter_cons, if_pos (decide_eq_true c)]
    rfl
  · rw [if_neg c, List.filter_cons, if_neg (by rw [decide_eq_false c]; exact Bool.false_ne_true)]
    simp
theorem kvsI_keys {xs : List SE} {i : Nat} {s : NestedKey} : s ∈ (kvsI xs i).map (·.1) ↔ ((i, s) : PK) ∈ xs.map fun x => x.e.key := by
  unfold kvsI
  rw [List.map_map]
  constructor
  · intro h
    obtain ⟨x, hx, rfl⟩ := List.mem_map.mp h
    obtain ⟨h1, h2⟩ := List.mem_filter.mp hx
    exact List.mem_map.mpr ⟨x, h1, Prod.ext (of_decide_eq_true h2) rfl⟩
  · intro h
    obtain ⟨x, hx, ex⟩ := List.mem_map.mp h
    have e1 : x.e.row = i := congrArg Prod.fst ex
    have e2 : x.e.st = s := congrArg Prod.snd ex
    exact List.mem_map.mpr ⟨x, List.mem_filter.mpr ⟨hx, decide_eq_true e1⟩, e2⟩
theorem kvsI_get {xs : List SE} {i : Nat} {s : NestedKey} : (nGet (kvsI xs i) s).isSome = decide (((i, s) : PK) ∈ xs.map fun x => x.e.key) := by
  cases z : nGet (kvsI xs i) s with
  | none =>
    have n := nGet_none z
    exact (decide_eq_false fun m => n (kvsI_keys.mpr m)).symm
  | some v =>
    refine (decide_eq_true (kvsI_keys.mp ?_)).symm
    unfold nGet at z
    obtain ⟨e, he, _⟩ := Option.map_eq_some_iff.mp z
    exact List.mem_map.mpr ⟨e, List.mem_of_find?_eq_some he, of_decide_eq_true (List.find?_some (p := fun e : NEnt => decide (e.1 = s)) he)⟩
theorem kvsI_put {xs : List SE} {x : SE} (new : x.e.key ∉ xs.map fun x => x.e.key) : nPut (kvsI xs x.e.row) x.e.st x.T (.bl true) = kvsI (xs ++ [x]) x.e.row := by
  rw [kvsI_snoc, if_pos rfl]
  unfold nPut
  rw [if_neg (by rw [kvsI_get, decide_eq_false new]; exact Bool.false_ne_true)]
theorem kvsI_len (xs : List SE) (i : Nat) : (kvsI xs i).length ≤ xs.length := by
  unfold kvsI
  rw [List.length_map]
  exact List.length_filter_le _ _
/-- the law's dicts, one for each row, and its line -/
structure LSt (w : World) (H0 H : Hp) (B L : Addr) (ins : List Addr) (xs : List SE) : Prop where
  sm : Same H0 H
  fb : H0 B = none
  fl : H0 L = none
  fi : ∀ d ∈ ins, H0 d = none
  ll : LLs H B ins
  lb : L ≠ B
  li : L ∉ ins
  l : H L = some (.lst (xs.map fun x => V.ref x.A))
  d : ∀ i d, ins[i]? = some d → ND w H d (kvsI xs i)
  es : ∀ x ∈ xs, PTup H x.A [.int (x.e.row : Nat), .ref x.T] ∧ layV.at_ H x.e.st (.ref x.T)
theorem LSt.same {w : World} {H0 H H' : Hp} {B L : Addr} {ins : List Addr} {xs : List SE} (h : LSt w H0 H B L ins xs) (s : Same H H') : LSt w H0 H' B L ins xs :=
  ⟨h.sm.trans s, h.fb, h.fl, h.fi, ⟨s _ _ h.ll.b, h.ll.nd, h.ll.nb⟩, h.lb, h.li, s _ _ h.l, fun i d e => (h.d i d e).same s, fun x hx => ⟨(h.es x hx).1.same s, layV.keep (KP.same s) (h.es x hx).2⟩⟩
theorem lay_dep {H : Hp} {s : NestedKey} {v : V} (h : layV.at_ H s v) : s.depth ≤ 6 := by
  obtain ⟨p, u, rfl, _⟩ := h
  exact layK_depth p
theorem LSt.lput {w : World} {H0 H : Hp} {B L d : Addr} {ins : List Addr} {xs : List SE} {i : Nat} {o : HO} (h : LSt w H0 H B L ins xs) (ed : ins[i]? = some d) : (L2.upd H d o) L = some (.lst (xs.map fun x => V.ref x.A)) := by
  rw [upd_ne (fun z : L = d => h.li (by rw [z]; exact List.mem_of_getElem? ed))]
  exact h.l
theorem LSt.more {w : World} {H0 H H2 : Hp} {B L d T A : Addr} {ins : List Addr} {xs : List SE} {e : CE} (h : LSt w H0 H B L ins xs) (new : e.key ∉ xs.map fun x => x.e.key) (ed : ins[e.row]? = some d) (hT : layV.at_ H e.st (.ref T)) (few : xs.length < sizeLine)
    (s : Same (L2.upd H d (ndO w d (nPut (kvsI xs e.row) e.st T (.bl true)))) H2) (pt : PTup H2 A [.int (e.row : Nat), .ref T]) :
    FrL (L :: ins) H (L2.upd H2 L (.lst ((xs.map fun x => V.ref x.A) ++ [.ref A]))) ∧ KP H (L2.upd H2 L (.lst ((xs.map fun x => V.ref x.A) ++ [.ref A]))) ∧ LSt w H0 (L2.upd H2 L (.lst ((xs.map fun x => V.ref x.A) ++ [.ref A]))) B L ins (xs ++ [⟨e, T, A⟩]) := by
  have dm : d ∈ ins := List.mem_of_getElem? ed
  have nLd : L ≠ d := fun z => h.li (z ▸ dm)
  have nBd : B ≠ d := fun z => h.ll.nb (z ▸ dm)
  have D := h.d _ _ ed
  have put := D.put (v := .bl true) (layV.key hT) (by have := lay_dep hT; omega) (Nat.lt_of_le_of_lt (kvsI_len xs e.row) few)
  have kd : KP H (L2.upd H d (ndO w d (nPut (kvsI xs e.row) e.st T (.bl true)))) := D.kp _
  have hL1 : (L2.upd H d (ndO w d (nPut (kvsI xs e.row) e.st T (.bl true)))) L = some (.lst (xs.map fun x => V.ref x.A)) := by
    rw [upd_ne nLd]
    exact h.l
  have hL2 := s _ _ hL1
  have kL : KP H2 (L2.upd H2 L (.lst ((xs.map fun x => V.ref x.A) ++ [.ref A]))) := KP.lst hL2
  have kk := (kd.trans (KP.same s)).trans kL
  have s2 := s
  have np : nPut (kvsI xs e.row) e.st T (.bl true) = kvsI (xs ++ [⟨e, T, A⟩]) e.row := kvsI_put (x := ⟨e, T, A⟩) new
  have old : ∀ {c : Addr} {o : HO}, H c = some o → c ≠ d → c ≠ L → (L2.upd H2 L (.lst ((xs.map fun x => V.ref x.A) ++ [.ref A]))) c = some o := fun hc n1 n2 => by
    rw [upd_ne n2]
    refine s2 _ _ ?_
    rw [upd_ne n1]
    exact hc
  refine ⟨fun c o ec n => old ec (fun z => n (List.mem_cons_of_mem _ (z ▸ dm))) (fun z => n (z ▸ List.mem_cons_self)), kk, fun c o ec => ?_, h.fb, h.fl, h.fi, ⟨?_, h.ll.nd, h.ll.nb⟩, h.lb, h.li, ?_, fun i d' ei => ?_, fun x hx => ?_⟩
  · exact old (h.sm _ _ ec) (ne_of_none ec (h.fi d dm)) (ne_of_none ec h.fl)
  · exact old h.ll.b nBd h.lb.symm
  · rw [upd_same, List.map_append]
    rfl
  · rw [kvsI_snoc]
    by_cases c : d' = d
    · subst c
      have ei2 : i = e.row := (List.getElem?_inj (List.getElem?_eq_some_iff.mp ei).1 h.ll.nd).mp (ei.trans ed.symm)
      subst ei2
      have z := (put.same s).keep kL.k (upd_ne nLd.symm)
      rw [np] at z
      rw [if_pos rfl]
      rw [kvsI_snoc, if_pos rfl] at z
      exact z
    · have ni : ¬ e.row = i := fun z => c (by
        rw [z] at ed
        rw [ed] at ei
        cases ei
        rfl)
      have nLd' : d' ≠ L := fun z => h.li (z ▸ List.mem_of_getElem? ei)
      rw [if_neg ni]
      exact (((h.d i d' ei).keep kd.k (upd_ne c)).same s).keep kL.k (upd_ne nLd')
  · rcases List.mem_append.mp hx with hx | hx
    · exact ⟨kk.p _ _ (h.es x hx).1, layV.keep kk (h.es x hx).2⟩
    · rw [List.mem_singleton.mp hx]
      exact ⟨kL.p _ _ pt, layV.keep kk hT⟩
theorem FrL.trans {ins : List Addr} {H1 H2 H3 : Hp} (h : FrL ins H1 H2) (g : FrL ins H2 H3) : FrL ins H1 H3 := fun c o e n => g _ _ (h _ _ e n) n
theorem te_mid {te : TE} {σ : L2.St} {H : Hp} {Q : VK} (M : V → Hp → Prop) (hR : ∀ v H', M v H' → Q v H') (h : ∀ R : VK, (∀ v H', M v H' → R v H') → te σ H R) : te σ H Q := h Q hR
theorem seqfor_mid {K : PySem.W.Frag} {te : TE} {g : TG} {tb S : TS} {D : Ends} {σ : L2.St} {H : Hp} (M : V → Hp → Prop) (h : ∀ R : VK, (∀ v H', M v H' → R v H') → te σ H R) (hR : ∀ v H', M v H' → tSeq (tFor (iList K (fun _ H Q => Q v H)) g tb) S D σ H') : tSeq (tFor (iList K te) g tb) S D σ H := h _ hR
theorem LsAt.get {H : Hp} : ∀ {vs : List V} {ss : List Ly}, LsAt H vs ss → ∀ {i : Nat} {v : V}, vs[i]? = some v → ∃ a p, v = .ref a ∧ ss[i]? = some p ∧ LayAt H a p.1 p.2
  | _, _, .nil, i, v, e => by simp at e
  | _, _, .cons h t, 0, v, e => by cases e; exact ⟨_, _, rfl, rfl, h⟩
  | _, _, .cons h t, i + 1, v, e => LsAt.get t (i := i) (by simpa using e)
def startE (q : Ly) : CE := ⟨0, layK q, none⟩
/-- the law's entries are gone through, up to a number -/
def GoneL (Y : Sys) (cs : List CE) (n : Nat) : Prop := ∀ i e, i < n → cs[i]? = some e → ∀ r, Y.rs[e.row]? = some r → ∀ a ∈ asksL r, ∀ t ∈ r.2, ((t.toNat, nextS Y.bh e.st a) : PK) ∈ cs.map CE.key
theorem PInv.cameL {Y : Sys} {cs : List CE} (h : PInv Y cs []) (g : GoneL Y cs cs.length) : Came Y cs :=
  ⟨h.nd, h.st, fun e he r er a ha t ht => by
    obtain ⟨i, hi⟩ := List.mem_iff_getElem?.mp he
    exact g i e (List.getElem?_eq_some_iff.mp hi).1 hi r er a ha t ht, h.bk, h.ok⟩
/-- what comes is the same, however it was gone through -/
theorem came_sub {Y : Sys} {cs ds : List CE} (hc : Came Y cs) (hd : Came Y ds) : ∀ (i : Nat) (e : CE), cs[i]? = some e → e.key ∈ ds.map CE.key := by
  have row0 : ∀ {r0 : Nat} {r : Rw}, Y.rs[r0]? = some r → True := fun _ => trivial
  intro i
  induction i using Nat.strongRecOn with
  | ind i ih =>
    intro e he
    have b := hc.bk i e he
    unfold Sys.frmOk at b
    split at b
    · rename_i z
      have := hd.st _ b.2
      rw [show e.key = (0, e.st) from Prod.ext b.1 rfl]
      exact this
    · rename_i r0 s0 a z
      obtain ⟨j, e0, r, h1, h2, h3, h4, h5, h6, h7⟩ := b
      obtain ⟨e1, he1, ek⟩ := List.mem_map.mp (ih j h1 e0 h2)
      have k1 : e1.row = r0 := congrArg Prod.fst (ek.trans h3)
      have k2 : e1.st = s0 := congrArg Prod.snd (ek.trans h3)
      have := hd.cl e1 he1 r (by rw [k1]; exact h4) a h5 _ h6
      rw [k2, ← h7] at this
      exact this
theorem came_same {Y : Sys} {cs ds : List CE} (hc : Came Y cs) (hd : Came Y ds) (i : Nat) : (rowE cs i).Perm (rowE ds i) := by
  have mem : ∀ {xs : List CE} {s : NestedKey}, s ∈ rowE xs i ↔ ((i, s) : PK) ∈ xs.map CE.key := by
    intro xs s
    unfold rowE
    constructor
    · intro h
      obtain ⟨x, hx, rfl⟩ := List.mem_map.mp h
      obtain ⟨h1, h2⟩ := List.mem_filter.mp hx
      exact List.mem_map.mpr ⟨x, h1, Prod.ext (of_decide_eq_true h2) rfl⟩
    · intro h
      obtain ⟨x, hx, ex⟩ := List.mem_map.mp h
      exact List.mem_map.mpr ⟨x, List.mem_filter.mpr ⟨hx, decide_eq_true (congrArg Prod.fst ex)⟩, congrArg Prod.snd ex⟩
  have nd : ∀ {xs : List CE}, (xs.map CE.key).Nodup → (rowE xs i).Nodup := by
    intro xs h
    unfold rowE
    have h1 : (xs.filter fun e => decide (e.row = i)).Pairwise fun a b => a.key ≠ b.key := (List.pairwise_map.mp h).sublist List.filter_sublist
    refine List.pairwise_map.mpr (List.Pairwise.imp_of_mem (fun {a b} ha hb hab e => hab ?_) h1)
    exact Prod.ext ((of_decide_eq_true (List.mem_filter.mp ha).2).trans (of_decide_eq_true (List.mem_filter.mp hb).2).symm) e
  refine (List.perm_ext_iff_of_nodup (nd hc.nd) (nd hd.nd)).mpr fun s => ?_
  rw [mem, mem]
  constructor
  · intro h
    obtain ⟨e, he, ek⟩ := List.mem_map.mp h
    obtain ⟨j, hj⟩ := List.mem_iff_getElem?.mp he
    rw [← ek]
    exact came_sub hc hd j e hj
  · intro h
    obtain ⟨e, he, ek⟩ := List.mem_map.mp h
    obtain ⟨j, hj⟩ := List.mem_iff_getElem?.mp he
    rw [← ek]
    exact came_sub hd hc j e hj
theorem came_sort {Y : Sys} {cs ds : List CE} (hc : Came Y cs) (hd : Came Y ds) (i : Nat) : sortL ((rowE cs i).map unlay) = sortL ((rowE ds i).map unlay) := sortL_perm ((came_same hc hd i).map unlay)
end Su
/-! ### LRm: the law's rooms -/
namespace Su
open PySem PySem.Spec PyProof.Rows L2
open LamX hiding takes0
def spLRooms : Sp := fun vs H Q _ => ∃ (p : Addr) (rs : List Rw), vs = [.ref p] ∧ WebAt H p rs ∧ WebOk rs ∧
  ∀ (ms : List Int) (u : Addr) (H' : Hp), ms.Pairwise (· < ·) → (∀ k : Int, k ∈ ms ↔ k ∈ allRooms rs) → Same H H' → H u = none → H' u = some (.lst (ms.map V.int)) → Q (.ref u) H'
theorem sc_law_web_rooms : FnScope ["_law_web_here", "_law_found", "_law_rooms", "_law_tos_here", "_law_room"] ["_law_web_here"] (defScope s_law_web_rooms) := ⟨rfl, rfl, rfl, by decide +kernel, rfl, by decide +kernel, by decide +kernel⟩
section
variable {P : Program} {w : World} {K : PySem.W.Frag} {mg : Str → Option Value} {base : Heap}
theorem ok_lrooms (T : At K mg "_law_web_rooms" s_law_web_rooms ["_law_web_here"]) (B : Bt mg) : Cal P w K mg base 1 "_law_web_rooms" ["_law_web_here"] spLRooms := by
  refine cal_of T sc_law_web_rooms (fun vs H Q E h => ?_) (fun f cdv A outer s H vs Q E hr h => ?_)
  · obtain ⟨p, rs, rfl, _⟩ := h
    rfl
  · obtain ⟨p, rs, rfl, ⟨ws, hp, hrs⟩, ok, q⟩ := h
    have hwl := hrs.len
    have h80 := ok.few
    obtain ⟨S, hS, hin⟩ := ok.all
    refine ⟨_, (pss_cons (ps_set (i := 1) sc_law_web_rooms.nd rfl (Or.inl rfl) pe_dnewK)
      (pss_cons (ps_for PassesOwn.never rfl (pi_list (pv 0)) (pg_tup (by rfl) (pgs_cons (pg_name (i := 2) sc_law_web_rooms.nd rfl (Or.inl rfl)) (pgs_cons (pg_name (i := 3) sc_law_web_rooms.nd rfl (Or.inl rfl)) pgs_nil))) (pss_one (ps_for PassesOwn.never rfl (pi_tup (pv 2)) (pg_name (i := 4) sc_law_web_rooms.nd rfl (Or.inl rfl)) (pss_one (ps_dput (hu_of hr) (pv 1) (pv 4) pe_bl rfl)))))
      (pss_one (ps_ret (pe_callB (cr_sortedDI rfl) (by rfl) B.sorted (by decide +kernel) (pa_cons (pv 1) pa_nil)))))), ?_⟩
    refine fun D nD => ?_
    have good : ∀ {kvs : List (Key × V)} {ks : List Int} {l : List Int}, KeysI kvs ks → ks.Nodup → (∀ k, k ∈ ks ↔ k ∈ l) → (∀ k ∈ l, k ∈ S) → kvs.length ≤ 12 := by
      intro kvs ks l h nd mem hl
      rw [h.len]
      exact Nat.le_trans (nodup_few nd fun k hk => hl k ((mem k).mp hk)) hS
    refine ⟨_, rfl, p, rfl, ⟨_, SqL.of (same_upd nD _ _ hp)⟩, ?_⟩
    refine for_list (K := K) (a := p) (xs := ws) (fun j σ H2 => ∃ (y2 y3 y4 : Option V) (kvs : List (Key × V)) (ks : List Int), σ = [some (.ref p), some (.ref D), y2, y3, y4] ∧ H2 D = some (.dK kvs) ∧ KeysI kvs ks ∧ ks.Nodup ∧ (∀ k, k ∈ ks ↔ k ∈ allRooms (rs.take j)) ∧ Same H H2) ?_ ?_ ?_ ?_
    · exact ⟨none, none, none, [], [], rfl, upd_same, rfl, List.nodup_nil, fun k => by simp [allRooms], same_upd nD⟩
    · rintro j σ H2 _ ⟨_, _, _, _, _, _, _, _, _, _, s2⟩
      exact SqL.of (s2 _ _ hp)
    · rintro j x σ H2 hx ⟨y2, y3, y4, kvs, ks, rfl, hD, hks, nd, mem, s2⟩
      obtain ⟨r, er, ra, rb, rc, rfl, ha, hb, hc⟩ := hrs.get hx
      refine ⟨ra, _, rfl, (ha.same s2).sq, rfl, _, _, rfl, _, _, rfl, rfl, ?_⟩
      refine ⟨_, rfl, rb, rfl, ⟨_, (hb.same s2).sq⟩, ?_⟩
      refine for_tup (K := K) (a := rb) (xs := r.1.map V.int) (fun i σ H3 => ∃ (y4 : Option V) (kvs : List (Key × V)) (ks : List Int), σ = [some (.ref p), some (.ref D), some (.ref rb), some (.ref rc), y4] ∧ H3 D = some (.dK kvs) ∧ KeysI kvs ks ∧ ks.Nodup ∧ (∀ k, k ∈ ks ↔ k ∈ allRooms (rs.take j) ++ r.1.take i) ∧ Same H H3) ?_ ?_ ?_ ?_
      · exact ⟨_, kvs, ks, rfl, hD, hks, nd, fun k => by rw [List.take_zero, List.append_nil]; exact mem k, s2⟩
      · rintro i σ H3 _ ⟨_, _, _, _, _, _, _, _, s3⟩
        exact (hb.same s3).sq
      · rintro i y σ H3 hy ⟨y4, kvs, ks, rfl, hD3, hks3, nd3, mem3, s3⟩
        rw [List.getElem?_map] at hy
        obtain ⟨t, et, rfl⟩ := Option.map_eq_some_iff.mp hy
        have sub3 : ∀ k ∈ allRooms (rs.take j) ++ r.1.take i, k ∈ S := by
          intro k hk
          rcases List.mem_append.mp hk with z | z
          · exact hin k (allRooms_sub z)
          · refine hin k (allRooms_sub (i := j + 1) ?_)
            rw [allRooms_take er]
            exact List.mem_append_right _ (List.mem_of_mem_take z)
        have few := good hks3 nd3 mem3 sub3
        obtain ⟨ks', h1, h2, h3⟩ := hks3.put nd3 t (.bl true)
        refine ⟨_, rfl, _, rfl, D, _, rfl, DPut.k (k := Sum.inl t) hD3 (small1000 (by omega)), ?_⟩
        refine ⟨_, _, ks', rfl, upd_same, h1, h2, fun k => ?_, fun c o ec => ?_⟩
        · rw [h3 k, mem3 k, List.take_add_one, et, ← List.append_assoc]
          constructor
          · rintro (z | z)
            · exact List.mem_append_left _ z
            · exact List.mem_append_right _ (List.mem_singleton.mpr z)
          · intro z
            rcases List.mem_append.mp z with y | y
            · exact .inl y
            · exact .inr (List.mem_singleton.mp y)
        · rw [upd_ne (ne_of_none ec nD)]
          exact s3 _ _ ec
      · rintro σ H3 ⟨y4, kvs, ks, rfl, hD3, hks3, nd3, mem3, s3⟩
        refine ⟨_, _, _, kvs, ks, rfl, hD3, hks3, nd3, fun k => ?_, s3⟩
        rw [mem3 k, List.length_map, List.take_length, allRooms_take er]
    · rintro σ H2 ⟨y2, y3, y4, kvs, ks, rfl, hD, hks, nd, mem, s2⟩
      rw [hwl, List.take_length] at mem
      have few := good hks nd mem hin
      refine ⟨_, rfl, D, kvs, ks, rfl, hD, hks, (by rw [← hks.len]; omega), fun ys u pm so nu => ?_⟩
      exact q ys u _ (pw_lt so (pm.nodup_iff.mpr nd)) (fun k => (pm.mem_iff).trans (mem k)) (s2.trans (same_upd nu)) (s2.free nu) upd_same
end
end Su
/-! ### R3: the lays that stand at rows, the law's -/
namespace Su
open PySem PySem.Spec PyProof.Rows L2
open LamX hiding takes0
def spLStands : Sp := fun vs H Q _ => ∃ (p : Addr) (rs : List Rw) (n : Nat) (x : Str), vs = [.ref p, .int n, .str x] ∧ WebAt H p rs ∧ LayIn rs n x (roomsR rs) ∧
  ∀ (u : Addr) (us : List V) (cs : List CE) (H' : Hp), Same H H' → H u = none → H' u = some (.lst us) → Came (laySys rs (roomsR rs) n x) cs → TabTo H' us cs rs.length → Q (.ref u) H'
theorem sc_law_stands : FnScope ["_law_web_here", "_law_size", "_law_way_here", "_law_there", "_law_line", "_law_lay", "_law_at", "_law_row", "_law_one", "_law_later", "_law_to", "_law_some"] ["_law_web_here", "_law_size", "_law_way_here"] (defScope s_law_stands) := ⟨rfl, rfl, rfl, by decide +kernel, rfl, by decide +kernel, by decide +kernel⟩
section
variable {P : Program} {w : World} {K : PySem.W.Frag} {mg : Str → Option Value} {base : Heap}
theorem ok_lstands (T : At K mg "_law_stands" s_law_stands ["_law_web_here", "_law_size", "_law_way_here"]) (B : Bt mg) (c_web_rooms : Cal P w K mg base 1 "_law_web_rooms" ["_law_web_here"] spLRooms) (c_all_lays : Cal P w K mg base 1 "_law_all_lays" ["_law_rooms", "_law_size", "_law_way_here"] spLAll) (c_asked : Cal P w K mg base 2 "_law_asked" ["_law_lay", "_law_room", "_law_way_here"] spLAsk) :
    Cal P w K mg base 3 "_law_stands" ["_law_web_here", "_law_size", "_law_way_here"] spLStands := by
  refine cal_of T sc_law_stands (fun vs H Q E h => ?_) (fun f cdv A outer s H vs Q E hr h => ?_)
  · obtain ⟨p, rs, n, x, rfl, _⟩ := h
    rfl
  · obtain ⟨p, rs, n, x, rfl, hW, hl, q⟩ := h
    refine ⟨_, (pss_cons (ps_setLc (i := 3) (own := [("_law_row", 7)]) (g := (gName 7)) (tt := tYes) (te := tDNewN) (by rfl) sc_law_stands.nd rfl rfl (sw_true rfl rfl rfl (by decide +kernel)) (pi_list (pv 0)) (blkOk_by (own := [("_law_row", 7)]) (N := ["_law_web_here", "_law_size", "_law_way_here", "_law_there", "_law_line", "_law_lay", "_law_at", "_law_row", "_law_one", "_law_later", "_law_to", "_law_some"]) (sc := defScope s_law_stands) (by decide +kernel)) (fun _ _ _ _ _ => (pg_name (i := 7) sc_law_stands.nd rfl (Or.inl rfl))) (fun _ _ _ _ _ => pts_nil) (fun _ _ _ _ _ => pe_dnewN))
      (pss_cons (ps_set (i := 4) sc_law_stands.nd rfl (Or.inl rfl) (pe_lst pa_nil))
      (pss_cons (ps_for PassesOwn.never rfl (pi_list (pe_own c_all_lays hr (by decide) (by rfl) (pa_cons (pe_own c_web_rooms hr (by decide) (by rfl) (pa_cons (pv 0) pa_nil)) (pa_cons (pv 1) (pa_cons (pv 2) pa_nil))))) (pg_name (i := 5) sc_law_stands.nd rfl (Or.inl rfl)) (pss_cons (ps_nput (units9 hr) (pe_ix ix_list (pv 3) pe_int (fun _ _ => rfl)) (pv 5) pe_bl rfl)
      (pss_one (ps_expr (pe_bm PySem.F.plainAttrs_list PySem.F.slot_list_append PySem.F.type_list_append mt_append (pv 4) (pa_cons (pe_tupF (pa_cons pe_int (pa_cons (pv 5) pa_nil))) pa_nil))))))
      (pss_cons (ps_set (i := 6) sc_law_stands.nd rfl (Or.inl rfl) pe_int)
      (pss_cons (ps_while PassesOwn.never (pt_cmpR op_lt (pv 6) (pe_callB call_len_seq (by rfl) B.len PySem.boot_len (pa_cons (pv 4) pa_nil)) (nomark _)) (pss_cons (ps_asg (pe_ix ix_list (pv 4) (pv 6) (fun _ _ => rfl)) (pg_tup (by rfl) (pgs_cons (pg_name (i := 7) sc_law_stands.nd rfl (Or.inl rfl)) (pgs_cons (pg_name (i := 5) sc_law_stands.nd rfl (Or.inl rfl)) pgs_nil))))
      (pss_cons (ps_for PassesOwn.never rfl (pi_list (pe_orT (pe_callTy call_list_of (by rfl) B.list (by decide +kernel) (pa_cons (pe_ix ix_tup (pe_ix ix_list (pv 0) (pv 7) (fun _ _ => rfl)) pe_int (fun _ _ => rfl)) pa_nil)) (pe_one (pe_lst (pa_cons pe_non pa_nil))))) (pg_name (i := 8) sc_law_stands.nd rfl (Or.inl rfl)) (pss_cons (ps_set (i := 9) sc_law_stands.nd rfl (Or.inl rfl) (pe_own c_asked hr (by decide) (by rfl) (pa_cons (pv 5) (pa_cons (pv 8) (pa_cons (pv 2) pa_nil)))))
      (pss_one (ps_for PassesOwn.never rfl (pi_tup (pe_ix ix_tup (pe_ix ix_list (pv 0) (pv 7) (fun _ _ => rfl)) pe_int (fun _ _ => rfl))) (pg_name (i := 10) sc_law_stands.nd rfl (Or.inl rfl)) (pss_one (ps_if (pt_cmpR (op_nNotIn (units9 hr)) (pv 9) (pe_ix ix_list (pv 3) (pv 10) (fun _ _ => rfl)) (by rfl)) (pss_cons (ps_nput (units9 hr) (pe_ix ix_list (pv 3) (pv 10) (fun _ _ => rfl)) (pv 9) pe_bl rfl)
      (pss_one (ps_expr (pe_bm PySem.F.plainAttrs_list PySem.F.slot_list_append PySem.F.type_list_append mt_append (pv 4) (pa_cons (pe_tupF (pa_cons (pv 10) (pa_cons (pv 9) pa_nil))) pa_nil))))) pss_nil))))))
      (pss_one (ps_set (i := 6) sc_law_stands.nd rfl (Or.inl rfl) (pe_op op_add (pv 6) pe_int))))))
      (pss_one (ps_ret (pe_lc (own := [("_law_some", 11)]) (g := (gName 11)) (tt := tYes) (te := (tCB (rSortedND w K) (tCons (tVar 11) tNil))) (by rfl) sc_law_stands.nd (pi_list (pv 3)) (blkOk_by (own := [("_law_some", 11)]) (N := ["_law_web_here", "_law_size", "_law_way_here", "_law_there", "_law_line", "_law_lay", "_law_at", "_law_row", "_law_one", "_law_later", "_law_to", "_law_some"]) (sc := defScope s_law_stands) (by decide +kernel)) (fun _ _ _ _ _ => (pg_name (i := 11) sc_law_stands.nd rfl (Or.inl rfl))) (fun _ _ _ _ _ => pts_nil) (fun _ _ _ _ _ => (pe_callB (show CallR _ _ (rSortedND w K) from cr_sortedND rfl (units65 hr)) (by rfl) B.sorted (by decide +kernel) (pa_cons (pv 11) pa_nil))))))))))), ?_⟩
    obtain ⟨ws, hp, hrs⟩ := id hW
    have hwl := hrs.len
    have h80 := hl.web.few
    have hpos := hl.web.pos
    have kd := hl.kd
    have hY : ∀ s, (laySys rs (roomsR rs) n x).ok s ↔ ∃ p ∈ laysL (roomsR rs) n (bitsN n x).toNat, s = layK p := fun s => Iff.rfl
    have few := hl.few
    have few1 : cntS n (roomsR rs).length * 2 ^ (bitsN n x).toNat ≤ 100000 := by
      have := Nat.le_mul_of_pos_left (cntS n (roomsR rs).length * 2 ^ (bitsN n x).toNat) hpos
      omega
    have Yrs : (laySys rs (roomsR rs) n x).rs = rs := rfl
    have Yss : (laySys rs (roomsR rs) n x).ss = (laysL (roomsR rs) n (bitsN n x).toNat).map layK := rfl
    have Ybh : ∀ (p : Ly) (k : Int), (laySys rs (roomsR rs) n x).bh (layK p) k = layK (askF x p.1 p.2 k) := fun p k => by
      show layK (askF x (unlay (layK p)).1 (unlay (layK p)).2 k) = _
      rw [unlay_lay]
    have okA : ∀ {st : NestedKey} {r : Rw} {q : Option Int}, (laySys rs (roomsR rs) n x).ok st → r ∈ rs → q ∈ asksL r → (laySys rs (roomsR rs) n x).ok (nextS (laySys rs (roomsR rs) n x).bh st q) := fun {st r q} ok hr hq => by
      cases q with
      | none => exact ok
      | some k =>
        obtain ⟨p0, hp0, rfl⟩ := ok
        have hk : k ∈ r.1 := by
          unfold asksL at hq
          split at hq
          · simp at hq
          · obtain ⟨k2, hk2, e2⟩ := List.mem_map.mp hq
            cases e2
            exact hk2
        refine ⟨_, lays_ask hl.rg hl.kd hp0 ((hl.all k).mpr (List.mem_flatten.mpr ⟨r.1, List.mem_map.mpr ⟨r, hr, rfl⟩, hk⟩)), ?_⟩
        exact Ybh p0 k
    generalize laySys rs (roomsR rs) n x = Y at hY Yrs Yss Ybh okA q
    have fewP : ∀ {xs : List SE}, PInv Y (xs.map fun x => x.e) [] → xs.length ≤ 20000 := fun {xs} hI => by
      have := few_pk hY hI.nd fun q hq => by
        obtain ⟨e, he, rfl⟩ := List.mem_map.mp hq
        exact hI.ok e he
      rw [lays_len hl.nm hl.nd, List.length_map, List.length_map, Yrs] at this
      omega
    have zl : (20000 : Nat) < sizeLine := by rw [sizeLine_eq]; omega
    refine ⟨_, rfl, p, rfl, ⟨_, SqL.of hp⟩, fun B nB => ?_⟩
    refine lc_list (K := K) (a := p) (xs := ws) (fun i H2 => Same H H2 ∧ ∃ ins : List Addr, ins.length = i ∧ LLs H2 B ins ∧ ∀ a ∈ ins, H a = none ∧ H2 a = some (.dK []) ∧ (a == sysModules) = false) ?_ ?_ ?_ ?_
    · exact ⟨same_upd nB, [], rfl, ⟨upd_same, List.nodup_nil, List.not_mem_nil⟩, fun a h => nomatch h⟩
    · rintro i H2 _ ⟨s2, _⟩
      exact SqL.of (s2 _ _ hp)
    · rintro i v H2 hv ⟨s2, ins, il, ll, hin⟩
      have hil : i < ws.length := (List.getElem?_eq_some_iff.mp hv).1
      refine ⟨rfl, tyes ?_⟩
      refine fun D nD low => ?_
      have sD : Same H2 (upd H2 D (.dK [])) := same_upd nD
      refine ⟨_, sD _ _ ll.b, (by rw [List.length_map]; exact small1000 (by omega)), fun c o ec => ?_, ins ++ [D], by rw [List.length_append, il]; rfl, ⟨?_, ?_, ?_⟩, fun a ha => ?_⟩
      · rw [upd_ne (ne_of_none ec nB)]
        exact sD _ _ (s2 _ _ ec)
      · rw [upd_same, List.map_append]
        rfl
      · rw [List.nodup_append]
        refine ⟨ll.nd, List.nodup_cons.mpr ⟨List.not_mem_nil, List.nodup_nil⟩, fun a ha b hb => ?_⟩
        rw [List.mem_singleton.mp hb]
        exact ne_of_none (hin a ha).2.1 nD
      · intro z
        rcases List.mem_append.mp z with z | z
        · exact ll.nb z
        · rw [List.mem_singleton.mp z] at ll
          rw [ll.b] at nD
          cases nD
      · rcases List.mem_append.mp ha with ha | ha
        · refine ⟨(hin a ha).1, ?_, (hin a ha).2.2⟩
          rw [upd_ne (fun z : a = B => ll.nb (by rw [← z]; exact ha))]
          exact sD _ _ (hin a ha).2.1
        · rw [List.mem_singleton.mp ha]
          refine ⟨s2.free nD, ?_, low⟩
          rw [upd_ne (fun z => by rw [z, ll.b] at nD; cases nD)]
          exact upd_same
    rintro H2 ⟨s2, ins, il, ll, hin⟩
    refine ⟨(by show 0 ≤ sizeLine; exact Nat.zero_le _), fun L nL => ?_⟩
    have sL : Same H2 (upd H2 L (.lst [])) := same_upd nL
    have A0 : LSt w H (upd H2 L (.lst [])) B L ins [] := by
      refine ⟨s2.trans sL, nB, s2.free nL, fun d hd => (hin d hd).1, ⟨sL _ _ ll.b, ll.nd, ll.nb⟩, (fun z => by rw [z, ll.b] at nL; cases nL), (fun z => by rw [(hin L z).2.1] at nL; cases nL), upd_same, fun i d ed => ?_, fun x hx => nomatch hx⟩
      have dm := List.mem_of_getElem? ed
      exact ND.new (sL _ _ (hin d dm).2.1) (hin d dm).2.2
    have hL3 : (upd H2 L (.lst [])) L = some (.lst []) := upd_same
    generalize upd H2 L (.lst []) = H3 at sL A0 hL3
    clear hin nB nL
    have e0 : ins[0]? = some ins[0] := List.getElem?_eq_getElem (by omega)
    generalize ins[0] = d0 at e0
    refine ⟨_, rfl, p, rs, rfl, hW.same A0.sm, hl.web, fun ms u H4 pw mem s4 nu hu => ?_⟩
    rw [rooms_is pw mem] at hu
    have A4 := A0.same s4
    refine ⟨_, rfl, _, rfl, u, roomsR rs, n, x, rfl, hu, kd, hl.m12, hl.nm, hl.nd, few1, fun Lp us ps H5 s5 nLp hLp pm hls => ?_⟩
    have A5 := A4.same s5
    have nLpL : Lp ≠ L := fun z => by rw [z, A4.l] at nLp; cases nLp
    have nLpi : Lp ∉ ins := fun z => by
      obtain ⟨i, hi⟩ := List.mem_iff_getElem?.mp z
      rcases (A4.d i Lp hi).at_ with e | ⟨_, e⟩
      · rw [e] at nLp
        cases nLp
      · rw [e] at nLp
        cases nLp
    clear s4 s5 A0 A4 nu hu sL hL3
    have pl : ps.length ≤ 100000 := by
      rw [pm.length_eq, lays_len hl.nm hl.nd]
      exact few1
    have psnd : ps.Nodup := pm.nodup_iff.mpr (nodup_lays hl.nm hl.nd _ _)
    have startI : ∀ {j : Nat} {xs : List SE}, (xs.map fun x => x.e) = (ps.take j).map startE → ∀ {a : Ly}, ps[j]? = some a → ((0, layK a) : PK) ∉ xs.map fun x => x.e.key := fun {j xs} e {a} ea hm => by
      have : xs.map (fun x => x.e.key) = (ps.take j).map fun q => ((0, layK q) : PK) := by
        rw [show (xs.map fun x => x.e.key) = (xs.map fun x => x.e).map CE.key by rw [List.map_map]; rfl, e, List.map_map]
        rfl
      rw [this] at hm
      obtain ⟨q2, hq2, e2⟩ := List.mem_map.mp hm
      have e3 : q2 = a := layK_inj (congrArg Prod.snd e2)
      subst e3
      obtain ⟨i, hi⟩ := List.mem_iff_getElem?.mp hq2
      rw [List.getElem?_take] at hi
      split at hi
      · rename_i lt
        have := (List.getElem?_inj (List.getElem?_eq_some_iff.mp hi).1 psnd).mp (hi.trans ea.symm)
        omega
      · cases hi
    refine ⟨Lp, rfl, ⟨_, SqL.of hLp⟩, ?_⟩
    refine for_list (K := K) (a := Lp) (xs := us) (fun j σ H6 => ∃ (xs : List SE) (y5 : Option V), σ = [some (.ref p), some (.int n), some (.str x), some (.ref B), some (.ref L), y5, none, none, none, none, none, none] ∧ LSt w H H6 B L ins xs ∧ (xs.map fun x => x.e) = (ps.take j).map startE ∧ KP H5 H6 ∧ FrL (L :: ins) H5 H6) ?_ ?_ ?_ ?_
    · exact ⟨[], none, rfl, A5, by simp, KP.refl _, FrL.refl _ _⟩
    · rintro j σ H6 _ ⟨_, _, _, _, _, _, fr⟩
      exact SqL.of (fr _ _ hLp (fun z => by rcases List.mem_cons.mp z with z | z; exact nLpL z; exact nLpi z))
    · rintro j v σ H6 hv ⟨xs, y5, rfl, A6, ex, k6, fr⟩
      obtain ⟨a, q0, rfl, eq0, hla⟩ := hls.get hv
      have hla6 := hla.kp k6
      have at6 : layV.at_ H6 (layK q0) (.ref a) := ⟨q0, a, rfl, rfl, hla6⟩
      have new := startI ex eq0
      have xl : xs.length ≤ ps.length := by
        have := congrArg List.length ex
        rw [List.length_map, List.length_map, List.length_take] at this
        omega
      have fx : xs.length < sizeLine := by
        rw [sizeLine_eq]
        omega
      refine ⟨_, rfl, B, _, _, .ref d0, rfl, rfl, SqL.of A6.ll.b, atI_nat (j := 0) (by rw [List.getElem?_map, e0]; rfl), _, rfl, d0, a, _, layK q0, rfl, rfl, A6.d 0 d0 e0, layV.key at6, Nat.le_trans (layK_depth q0) (by decide), Nat.lt_of_le_of_lt (kvsI_len xs 0) fx, ?_⟩
      refine ⟨_, rfl, .inl ⟨rfl, _, SqL.of (A6.lput e0)⟩, _, rfl, (by show 2 ≤ sizeLine; decide), fun A H8 s8 nA pA => ?_⟩
      obtain ⟨fr9, k9, A9⟩ := A6.more (e := startE q0) new e0 at6 fx s8 pA
      refine ⟨L, _, _, rfl, rfl, s8 _ _ (A6.lput e0), by rw [List.length_map]; exact fx, ?_⟩
      refine ⟨_, _, rfl, A9, ?_, k6.trans k9, fr.trans fr9⟩
      rw [List.map_append, ex, List.take_add_one, eq0, List.map_append]
      rfl
    rintro σ H6 ⟨xs0, y5, rfl, A6, ex0, k6, fr6⟩
    rw [hls.len, List.take_length] at ex0
    have I0 : PInv Y (xs0.map fun x => x.e) [] := by
      rw [ex0]
      refine ⟨?_, fun s hs => ?_, fun i e he => ?_, fun e he => ?_, List.nodup_nil, (fun p hp => nomatch hp), fun p hp => nomatch hp⟩
      · rw [List.map_map]
        exact nodup_map psnd fun a _ b _ e => layK_inj (congrArg Prod.snd e)
      · rw [Yss] at hs
        obtain ⟨q1, hq1, rfl⟩ := List.mem_map.mp hs
        rw [List.map_map]
        exact List.mem_map.mpr ⟨q1, pm.mem_iff.mpr hq1, rfl⟩
      · rw [List.getElem?_map] at he
        obtain ⟨q1, eq1, rfl⟩ := Option.map_eq_some_iff.mp he
        refine ⟨rfl, ?_⟩
        rw [Yss]
        exact List.mem_map.mpr ⟨q1, pm.mem_iff.mp (List.mem_of_getElem? eq1), rfl⟩
      · obtain ⟨q1, hq1, rfl⟩ := List.mem_map.mp he
        refine ⟨?_, (hY _).mpr ⟨q1, pm.mem_iff.mp hq1, rfl⟩⟩
        rw [Yrs]
        exact hpos
    clear ex0 startI psnd pm hls nLpL nLpi hLp nLp
    refine while_n (fun m σ H7 => ∃ (xs : List SE) (a : Nat) (y5 y7 y8 y9 y10 : Option V), m = 20000 - a ∧ σ = [some (.ref p), some (.int n), some (.str x), some (.ref B), some (.ref L), y5, some (.int (a : Nat)), y7, y8, y9, y10, none] ∧
      LSt w H H7 B L ins xs ∧ PInv Y (xs.map fun x => x.e) [] ∧ a ≤ xs.length ∧ GoneL Y (xs.map fun x => x.e) a) 20000 ?_ ?_ ?_
    · exact ⟨xs0, 0, y5, none, none, none, none, rfl, rfl, A6, I0, Nat.zero_le _, fun i e hi => absurd hi (Nat.not_lt_zero _)⟩
    · clear A6 I0 xs0 k6 fr6 A5
      rintro m σ H7 ⟨xs, a, y5, y7, y8, y9, y10, rfl, rfl, A7, hI, ha, hG⟩
      refine ⟨_, rfl, _, rfl, L, _, rfl, .inl (SqL.of A7.l), _, _, rfl, rfl, _, rfl, iteB (fun z => ?_) (fun z => ?_)⟩
      · have lt : a < xs.length := by
          have z := of_decide_eq_true z
          rw [List.length_map] at z
          omega
        obtain ⟨x1, ex⟩ : ∃ x, xs[a]? = some x := ⟨_, List.getElem?_eq_getElem lt⟩
        have xm := List.mem_of_getElem? ex
        obtain ⟨hA1, hv1⟩ := A7.es x1 xm
        obtain ⟨rlt, sok⟩ := hI.ok x1.e (List.mem_map.mpr ⟨x1, xm, rfl⟩)
        rw [Yrs] at rlt
        obtain ⟨ws2, hpw, hrs2⟩ := hW.same A7.sm
        have wl := hrs2.len
        have ew : ws2[x1.e.row]? = some ws2[x1.e.row] := List.getElem?_eq_getElem (by omega)
        obtain ⟨r, er, ra, rb, rc, ewr, hra, hrb, hrc⟩ := hrs2.get ew
        have rm := List.mem_of_getElem? er
        have rok := hl.web.row r rm
        refine ⟨_, rfl, _, rfl, L, _, _, _, rfl, rfl, SqL.of A7.l, atI_nat (j := a) (by rw [List.getElem?_map, ex]; rfl), x1.A, _, rfl, hA1.sq, rfl, _, _, rfl, _, _, rfl, rfl, ?_⟩
        dsimp only
        refine seqfor_mid (fun v H' => ∃ aa, v = .ref aa ∧ Same H7 H' ∧ H' aa = some (.lst ((asksL r).map aVo))) ?_ ?_
        · intro R hR
          refine ⟨_, rfl, _, rfl, p, _, _, _, rfl, rfl, SqL.of hpw, atI_nat (j := x1.e.row) (by rw [ew, ewr]), ra, _, _, _, rfl, rfl, hra.sq, atI_nat (j := 0) rfl, rb, _, rfl, .inr hrb.sq, fun l nl => ?_⟩
          have sl : Same H7 (upd H7 l (.lst (r.1.map V.int))) := same_upd nl
          have hl2 : (upd H7 l (.lst (r.1.map V.int))) l = some (.lst (r.1.map V.int)) := upd_same
          refine ⟨_, .inl ⟨_, SqL.of hl2, rfl⟩, ?_⟩
          by_cases c : r.1 = []
          · rw [c] at sl ⊢
            refine iteF ⟨(by show 1 ≤ sizeLine; decide), fun l2 nl2 => hR _ _ ⟨l2, rfl, sl.trans (same_upd nl2), ?_⟩⟩
            unfold asksL
            rw [if_pos c]
            exact upd_same
          · have e1 : (!(r.1.map V.int).isEmpty) = true := by
              cases h : r.1 with
              | nil => exact absurd h c
              | cons a l => rfl
            rw [e1]
            refine iteT (hR _ _ ⟨l, rfl, sl, ?_⟩)
            unfold asksL
            rw [if_neg c, List.map_map]
            exact hl2
        rintro v H8 ⟨aa, rfl, s8, haa⟩
        refine ⟨aa, rfl, ⟨_, SqL.of haa⟩, ?_⟩
        have A8 := A7.same s8
        have hv8 := layV.keep (KP.same s8) hv1
        have naaL : aa ≠ L := fun z => by
          rw [z, A8.l] at haa
          have e2 := HO.lst.inj (Option.some.inj haa)
          cases q0 : asksL r with
          | nil => 
            rw [q0] at e2
            obtain ⟨i, hi⟩ := List.mem_iff_getElem?.mp xm
            have := congrArg List.length e2
            rw [List.length_map] at this
            simp at this
            rw [this] at xm
            cases xm
          | cons o os =>
            rw [q0] at e2
            cases xs with
            | nil => cases xm
            | cons y ys =>
              have := (List.cons.inj e2).1
              cases o <;> cases this
        have naai : aa ∉ ins := fun z => by
          obtain ⟨i, hi⟩ := List.mem_iff_getElem?.mp z
          rcases (A8.d i aa hi).at_ with e | ⟨_, e⟩
          · rw [e] at haa
            cases haa
          · rw [e] at haa
            cases haa
        refine for_list (K := K) (a := aa) (xs := (asksL r).map aVo) (fun i σ H9 => ∃ (xs2 : List SE) (y8 y9 y10 : Option V), σ = [some (.ref p), some (.int n), some (.str x), some (.ref B), some (.ref L), some (.ref x1.T), some (.int (a : Nat)), some (.int (x1.e.row : Nat)), y8, y9, y10, none] ∧
          LSt w H H9 B L ins xs2 ∧ PInv Y (xs2.map fun x => x.e) [] ∧ (∃ mo, xs2 = xs ++ mo) ∧ (∀ q ∈ (asksL r).take i, ∀ t ∈ r.2, ((t.toNat, nextS Y.bh x1.e.st q) : PK) ∈ (xs2.map fun x => x.e).map CE.key) ∧ KP H8 H9 ∧ FrL (L :: ins) H8 H9) ?_ ?_ ?_ ?_
        · exact ⟨xs, y8, y9, y10, rfl, A8, hI, ⟨[], by simp⟩, (fun q hq => by simp at hq), KP.refl _, FrL.refl _ _⟩
        · rintro i σ H9 _ ⟨_, _, _, _, _, _, _, _, _, _, fr⟩
          exact SqL.of (fr _ _ haa (fun z => by rcases List.mem_cons.mp z with z | z; exact naaL z; exact naai z))
        · rintro i v σ H9 hv ⟨xs2, y8, y9, y10, rfl, A9, hI9, ⟨mo, emo⟩, hq9, k9, fr9⟩
          rw [List.getElem?_map] at hv
          obtain ⟨q0, eq0, rfl⟩ := Option.map_eq_some_iff.mp hv
          have q0m := List.mem_of_getElem? eq0
          obtain ⟨pl0, u0, est, eu0, hla⟩ := layV.keep k9 hv8
          cases eu0
          have ok0 : LayOk x n pl0.1 pl0.2 := by
            obtain ⟨pp, hpp, e2⟩ := (hY _).mp sok
            rw [est] at e2
            rw [layK_inj e2]
            exact layOk_of hl.rg kd hpp
          have okn := okA sok rm q0m
          refine ⟨_, rfl, _, rfl, _, rfl, x1.T, pl0, q0, x, rfl, hla, fun e => ?_, ?_, ?_, fun v H10 t10 la => ?_⟩
          · rw [ok0.sl.len]
            exact ok0.tr e
          · rw [ok0.sl.len]
            exact ok0.pos
          · rw [ok0.sl.len]
            exact ok0.few
          have eN : nextS Y.bh x1.e.st q0 = layK (askO x pl0 q0) := by
            rw [est]
            cases q0 with
            | none => rfl
            | some k => exact Ybh pl0 k
          have A10 := A9.same t10
          have hv10 : layV.at_ H10 (nextS Y.bh x1.e.st q0) (.ref v) := ⟨_, v, eN, rfl, la⟩
          generalize hst : nextS Y.bh x1.e.st q0 = st' at okn hv10 eN
          have est' : st' = nextS Y.bh x1.e.st q0 := hst.symm
          obtain ⟨ws3, hpw3, hrs3⟩ := hW.same A10.sm
          have wl3 := hrs3.len
          have ew3 : ws3[x1.e.row]? = some ws3[x1.e.row] := List.getElem?_eq_getElem (by omega)
          obtain ⟨r', er', ra3, rb3, rc3, ewr3, hra3, hrb3, hrc3⟩ := hrs3.get ew3
          rw [er] at er'
          cases er'
          refine ⟨_, rfl, _, rfl, p, _, _, _, rfl, rfl, SqL.of hpw3, atI_nat (j := x1.e.row) (by rw [ew3, ewr3]), ra3, _, _, _, rfl, rfl, hra3.sq, atI_nat (j := 1) rfl, rc3, rfl, ⟨_, hrc3.sq⟩, ?_⟩
          refine for_tup (K := K) (a := rc3) (xs := r.2.map V.int) (fun j σ H11 => ∃ (xs3 : List SE) (y10 : Option V), σ = [some (.ref p), some (.int n), some (.str x), some (.ref B), some (.ref L), some (.ref x1.T), some (.int (a : Nat)), some (.int (x1.e.row : Nat)), some (aVo q0), some (.ref v), y10, none] ∧
            LSt w H H11 B L ins xs3 ∧ PInv Y (xs3.map fun x => x.e) [] ∧ (∃ m2, xs3 = xs2 ++ m2) ∧ (∀ t ∈ r.2.take j, ((t.toNat, st') : PK) ∈ (xs3.map fun x => x.e).map CE.key) ∧ KP H10 H11 ∧ FrL (L :: ins) H10 H11) ?_ ?_ ?_ ?_
          · exact ⟨xs2, y10, rfl, A10, hI9, ⟨[], by simp⟩, (fun t ht => by simp at ht), KP.refl _, FrL.refl _ _⟩
          · rintro j σ H11 _ ⟨_, _, _, _, _, _, _, k11, _⟩
            exact (k11.k _ _ hrc3).sq
          · rintro j u σ H11 hu ⟨xs3, y10', rfl, A11, hI11, ⟨m2, em2⟩, ht11, k11, fr11⟩
            obtain ⟨t, et, rfl⟩ := map_geti hu
            have tm := List.mem_of_getElem? et
            have t0 := rok.tos.lo t tm
            have tn := rok.tos.hi t tm
            obtain ⟨tt, rfl⟩ : ∃ tt : Nat, t = (tt : Int) := ⟨t.toNat, by omega⟩
            have ht12 : ∀ u ∈ r.2.take (j + 1), u ∈ r.2.take j ∨ u = (tt : Int) := fun u hu => by
              rw [List.take_add_one, et] at hu
              rcases List.mem_append.mp hu with h | h
              · exact .inl h
              · exact .inr (by simpa using h)
            have trow : tt < rs.length := by omega
            have ed : ins[tt]? = some ins[tt] := List.getElem?_eq_getElem (by omega)
            generalize ins[tt] = d at ed
            have hv11 := layV.keep k11 hv10
            have dp : st'.depth ≤ 8 := Nat.le_trans (lay_dep hv11) (by decide)
            have ix : atI (ins.map V.ref) (tt : Int) = some (.ref d) := atI_nat (j := tt) (by rw [List.getElem?_map, ed]; rfl)
            refine ⟨_, rfl, _, rfl, _, rfl, B, _, _, .ref d, rfl, rfl, SqL.of A11.ll.b, ix, v, d, _, st', rfl, rfl, A11.d tt d ed, layV.key hv11, dp, _, rfl, iteB (fun z => ?_) (fun z => ?_)⟩
            · have z := of_not z
              rw [kvsI_get] at z
              have new3 := of_decide_eq_false z
              have few3 : xs3.length < sizeLine := Nat.lt_of_le_of_lt (fewP hI11) zl
              refine ⟨_, rfl, _, rfl, B, _, _, .ref d, rfl, rfl, SqL.of A11.ll.b, ix, _, rfl, d, v, _, st', rfl, rfl, A11.d tt d ed, layV.key hv11, dp, Nat.lt_of_le_of_lt (kvsI_len xs3 tt) few3, ?_⟩
              refine ⟨_, rfl, .inl ⟨rfl, _, SqL.of (A11.lput ed)⟩, _, rfl, _, rfl, (by show 2 ≤ sizeLine; decide), fun A H12 s12 nA pA => ?_⟩
              obtain ⟨fr13, k13, A13⟩ := A11.more (e := ⟨tt, st', some (x1.e.row, x1.e.st, q0)⟩) new3 ed hv11 few3 s12 pA
              refine ⟨L, _, _, rfl, rfl, s12 _ _ (A11.lput ed), by rw [List.length_map]; exact few3, ?_⟩
              refine ⟨_, _, rfl, A13, ?_, ⟨m2 ++ [⟨⟨tt, st', some (x1.e.row, x1.e.st, q0)⟩, v, A⟩], by rw [em2, List.append_assoc]⟩, fun u hu => ?_, k11.trans k13, fr11.trans fr13⟩
              · rw [List.map_append]
                refine hI11.more (x := ⟨tt, st', some (x1.e.row, x1.e.st, q0)⟩) (fun hm => new3 ?_) ?_ ⟨by rw [Yrs]; exact trow, okn⟩
                · rw [List.map_map] at hm
                  exact hm
                · refine ⟨a, x1.e, r, ?_, ?_, rfl, by rw [Yrs]; exact er, q0m, tm, est'⟩
                  · rw [List.length_map, em2, emo, List.length_append, List.length_append]
                    omega
                  · rw [List.getElem?_append_left (by rw [List.length_map, em2, emo, List.length_append, List.length_append]; omega), List.getElem?_map, em2, emo, List.append_assoc, List.getElem?_append_left lt, ex]
                    rfl
              · rw [List.map_append, List.map_append]
                rcases ht12 u hu with h | h
                · exact List.mem_append_left _ (ht11 u h)
                · subst h
                  exact List.mem_append_right _ (List.mem_singleton.mpr rfl)
            · have z := of_not2 z
              rw [kvsI_get] at z
              have old3 := of_decide_eq_true z
              refine ⟨xs3, _, rfl, A11, hI11, ⟨m2, em2⟩, fun u hu => ?_, k11, fr11⟩
              rcases ht12 u hu with h | h
              · exact ht11 u h
              · subst h
                rw [List.map_map]
                exact old3
          · rintro σ H11 ⟨xs3, y10', rfl, A11, hI11, ⟨m2, em2⟩, ht11, k11, fr11⟩
            rw [List.length_map, List.take_length] at ht11
            refine ⟨xs3, _, _, _, rfl, A11, hI11, ⟨mo ++ m2, by rw [em2, emo, List.append_assoc]⟩, fun q hq => ?_, k9.trans ((KP.same t10).trans k11), (fr9.same t10).trans fr11⟩
            rw [List.take_add_one, eq0] at hq
            intro t ht
            rcases List.mem_append.mp hq with h | h
            · have := hq9 q h t ht
              rw [em2, List.map_append, List.map_append]
              exact List.mem_append_left _ this
            · have h : q = q0 := by simpa using h
              subst h
              rw [hst]
              exact ht11 t ht
        · rintro σ H9 ⟨xs2, y8, y9, y10, rfl, A9, hI9, ⟨mo, emo⟩, hq9, k9, fr9⟩
          rw [List.length_map, List.take_length] at hq9
          refine ⟨_, rfl, _, _, rfl, rfl, 20000 - (a + 1), ?_, xs2, a + 1, _, _, _, _, _, rfl, rfl, A9, hI9, ?_, fun i e hie he r2 er2 q hq t ht => ?_⟩
          · have := fewP hI
            omega
          · rw [emo, List.length_append]
            omega
          · by_cases c : i < a
            · rw [emo, List.map_append, List.getElem?_append_left (by rw [List.length_map]; omega)] at he
              have := hG i e c he r2 er2 q hq t ht
              rw [emo, List.map_append, List.map_append]
              exact List.mem_append_left _ this
            · have ei : i = a := by omega
              subst ei
              rw [List.getElem?_map, emo, List.getElem?_append_left lt, ex] at he
              cases he
              rw [Yrs, er] at er2
              cases er2
              exact hq9 q hq t ht
      · have en : a = xs.length := by
          have z := of_decide_eq_false z
          rw [List.length_map] at z
          omega
        subst en
        have cam := hI.cameL (by rw [List.length_map]; exact hG)
        have hB7 := A7.ll.b
        refine ⟨_, rfl, B, rfl, ⟨_, SqL.of hB7⟩, fun D nD => ?_⟩
        refine lc_list (K := K) (a := B) (xs := ins.map V.ref) (fun i H8 => Same H7 H8 ∧ ∃ us, H8 D = some (.lst us) ∧ (∀ v ∈ us, v ≠ .ref D) ∧ TabTo H8 us (xs.map fun x => x.e) i) ?_ ?_ ?_ ?_
        · exact ⟨same_upd nD, [], upd_same, (fun v hv => nomatch hv), rfl, fun k v e => by simp at e⟩
        · rintro i H8 _ ⟨s8, _⟩
          exact SqL.of (s8 _ _ hB7)
        · rintro i v H8 hv ⟨s8, us8, hD8, hne, hul, hus⟩
          rw [List.getElem?_map] at hv
          obtain ⟨d, ed, rfl⟩ := Option.map_eq_some_iff.mp hv
          have hil : i < ins.length := (List.getElem?_eq_some_iff.mp ed).1
          have A8 := A7.same s8
          have hd8 := A8.d i d ed
          have hts : ∀ t ∈ (xs.filter fun x => decide (x.e.row = i)).map (fun x => ((V.ref x.T, unlay x.e.st) : V × Ly)), ∃ u, t.1 = .ref u ∧ LayAt H8 u t.2.1 t.2.2 := fun t ht => by
            obtain ⟨y, hy, rfl⟩ := List.mem_map.mp ht
            obtain ⟨pl1, u1, e1, e2, hla⟩ := (A8.es y (List.mem_filter.mp hy).1).2
            refine ⟨u1, e2, ?_⟩
            show LayAt H8 u1 (unlay y.e.st).1 (unlay y.e.st).2
            rw [e1, unlay_lay]
            exact hla
          have e1 : ((xs.filter fun x => decide (x.e.row = i)).map (fun x => ((V.ref x.T, unlay x.e.st) : V × Ly))).map (·.2) = (rowE (xs.map fun x => x.e) i).map unlay := by
            unfold rowE
            rw [List.map_map, List.filter_map, List.map_map, List.map_map]
            rfl
          have e2 : (tdat ((xs.filter fun x => decide (x.e.row = i)).map (fun x => ((V.ref x.T, unlay x.e.st) : V × Ly)))).map (·.1) = (kvsI xs i).map fun e => V.ref e.2.1 := by
            rw [tdat_fst]
            unfold kvsI
            rw [List.map_map, List.map_map]
            rfl
          generalize (xs.filter fun x => decide (x.e.row = i)).map (fun x => ((V.ref x.T, unlay x.e.st) : V × Ly)) = ts at hts e1 e2
          refine ⟨rfl, tyes ?_⟩
          refine ⟨_, rfl, d, _, tdat ts, rfl, hd8, e2, tdat_dp hts, tdat_alike ts, tdat_sortable ts, tdat_deep ts, fun M nM => ?_⟩
          rw [tdat_srt]
          have sM : Same H8 (upd H8 M (.lst ((tsort ts).map (·.1)))) := same_upd nM
          have hM : (upd H8 M (.lst ((tsort ts).map (·.1)))) M = some (.lst ((tsort ts).map (·.1))) := upd_same
          have hls9 := lsv_of ((tsort_ls hts).same sM)
          rw [e1] at hls9
          have hD9 := sM _ _ hD8
          generalize upd H8 M (.lst ((tsort ts).map (·.1))) = H9 at sM hM hls9 hD9 ⊢
          have nMD : M ≠ D := fun z => by rw [z, hD8] at nM; cases nM
          have k10 : KP H9 (upd H9 D (.lst (us8 ++ [.ref M]))) := KP.lst hD9
          have keepR : ∀ {v : V} {ps : List Ly}, v ≠ .ref D → LRow H8 v ps → LRow (upd H9 D (.lst (us8 ++ [.ref M]))) v ps := fun ne ⟨b, wb, e, hb, hs⟩ => by
            refine ⟨b, wb, e, ?_, (hs.keep (KP.same sM)).keep k10⟩
            rw [upd_ne (fun z => ne (by rw [e, z]))]
            exact sM _ _ hb
          refine ⟨us8, hD9, small1000 (by omega), fun c o ec => ?_, _, upd_same, fun v hv => ?_, ?_, fun k v ek => ?_⟩
          · rw [upd_ne (ne_of_none ec nD)]
            exact sM _ _ (s8 _ _ ec)
          · rcases List.mem_append.mp hv with hv | hv
            · exact hne v hv
            · rw [List.mem_singleton.mp hv]
              exact fun z => nMD (V.ref.inj z)
          · rw [List.length_append, hul]
            rfl
          · by_cases hk : k < us8.length
            · rw [List.getElem?_append_left hk] at ek
              exact keepR (hne v (List.mem_of_getElem? ek)) (hus k v ek)
            · have lt := (List.getElem?_eq_some_iff.mp ek).1
              rw [List.length_append, List.length_singleton] at lt
              obtain rfl : k = us8.length := by omega
              rw [List.getElem?_append_right (Nat.le_refl _), Nat.sub_self] at ek
              cases ek
              rw [hul]
              exact ⟨M, _, rfl, by rw [upd_ne nMD]; exact hM, hls9.keep k10⟩
        · rintro H8 ⟨s8, us8, hD8, _, ht⟩
          rw [List.length_map, il, hwl] at ht
          exact q D us8 _ H8 (A7.sm.trans s8) (A7.sm.free nD) hD8 cam ht
    · rintro σ H3 Q1 Q2 hQ ⟨v, e1, v2, e2, p2, ys, e3, e4, i, j, e5, e6, k, e7, e8⟩
      exact ⟨v, e1, v2, e2, p2, ys, e3, e4, i, j, e5, e6, k, e7, hQ _ _ e8⟩
end
end Su
/-! ### J0: the law's webs -/
namespace Su
open PySem PySem.Spec PyProof.Rows L2
def spLTos : Sp := fun vs H Q _ => ∃ (p : Addr) (row many : Int), vs = [.ref p, .int row, .int many] ∧ PoolAt H p ∧ 0 ≤ row ∧ 1 ≤ many ∧ many < 1000 ∧
  ∀ (t : Addr) (H' : Hp) (ns : List Int), Kept p H H' → PoolAt H' p → T2 H' t (ns.map V.int) → Ris 0 (many - 1) ns → Q (.ref t) H'
def spLWeb : Sp := fun vs H Q _ => ∃ (p : Addr) (mr mo : Int), vs = [.ref p, .int mr, .int mo] ∧ PoolAt H p ∧ 1 ≤ mr ∧ mr ≤ 80 ∧ 1 ≤ mo ∧ mo ≤ 12 ∧
  ∀ (u : Addr) (H' : Hp) (rs : List Rw), H u = none → Kept p H H' → PoolAt H' p → WebAt H' u rs → WebOk rs → (rs.length : Int) ≤ mr → (∃ S : List Int, (S.length : Int) ≤ mo ∧ ∀ k ∈ allRooms rs, k ∈ S) → Q (.ref u) H'
theorem sc_law_tos : FnScope ["_law_pool_here", "_law_row", "_law_many", "_law_way_here", "_law_found", "_law_turn"] ["_law_pool_here", "_law_row", "_law_many"] (defScope s_law_tos) := ⟨rfl, rfl, rfl, by decide +kernel, rfl, by decide +kernel, by decide +kernel⟩
theorem sc_law_web : FnScope ["_law_pool_here", "_law_most_rows", "_law_most_rooms", "_law_many", "_law_rooms", "_law_web_here", "_law_row", "_law_asked_for"] ["_law_pool_here", "_law_most_rows", "_law_most_rooms"] (defScope s_law_web) := ⟨rfl, rfl, rfl, by decide +kernel, rfl, by decide +kernel, by decide +kernel⟩
section
variable {P : Program} {w : World} {K : PySem.W.Frag} {mg : Str → Option Value} {base : Heap}
theorem ok_ltos (T : At K mg "_law_tos" s_law_tos ["_law_pool_here", "_law_row", "_law_many"]) (B : Bt mg) (c_take : Cal P w K mg base 1 "_law_take" ["_law_pool_here", "_law_many"] spTake) : Cal P w K mg base 2 "_law_tos" ["_law_pool_here", "_law_row", "_law_many"] spLTos := by
  refine cal_of T sc_law_tos (fun vs H Q E h => ?_) (fun f cdv A outer s H vs Q E hr h => ?_)
  · obtain ⟨p, row, many, rfl, _⟩ := h
    rfl
  · obtain ⟨p, row, many, rfl, hp, r0, m1, m2, q⟩ := h
    refine ⟨_, (pss_cons (ps_set (i := 3) sc_law_tos.nd rfl (Or.inl rfl) (pe_own c_take hr (by decide) (by rfl) (pa_cons (pv 0) (pa_cons pe_int pa_nil))))
      (pss_cons (ps_set (i := 4) sc_law_tos.nd rfl (Or.inl rfl) pe_dnewK)
      (pss_cons (ps_if (PW.pt (pw_and (pt_cmpR op_gt (pv 3) pe_int (nomark _)) (pw_and1 (pt_cmpR op_lt (pe_op op_add (pv 1) pe_int) (pv 2) (nomark _))))) (pss_one (ps_dput (hu_of hr) (pv 4) (pe_op op_add (pv 1) pe_int) pe_bl rfl)) pss_nil)
      (pss_cons (ps_for PassesOwn.never rfl (pi_range1 (by rfl) B.range (pa_cons (pe_ix ix_list (pe_lst (pa_cons pe_int (pa_cons pe_int (pa_cons pe_int (pa_cons pe_int (pa_cons pe_int (pa_cons pe_int (pa_cons pe_int (pa_cons pe_int pa_nil))))))))) (pv 3) (fun _ _ => rfl)) pa_nil)) (pg_name (i := 5) sc_law_tos.nd rfl (Or.inl rfl)) (pss_one (ps_dput (hu_of hr) (pv 4) (pe_own c_take hr (by decide) (by rfl) (pa_cons (pv 0) (pa_cons (pv 2) pa_nil))) pe_bl rfl)))
      (pss_one (ps_ret (pe_callTy call_tupleF (by rfl) B.tuple (by decide +kernel) (pa_cons (pe_callB (cr_sortedDI rfl) (by rfl) B.sorted (by decide +kernel) (pa_cons (pv 4) pa_nil)) pa_nil)))))))), ?_⟩
    refine ⟨_, rfl, p, 8, rfl, hp, by decide, by decide, fun wy o w0 w1 po => ?_⟩
    have hp1 : PoolAt (upd H p o) p := ⟨o, upd_same, po⟩
    have hk1 : Kept p H (upd H p o) := Kept.upd p H o
    refine fun D nD => ?_
    have eDp : D ≠ p := pool_ne hp1 nD
    have nD0 : H D = none := hk1.free eDp nD
    -- the end, from any dict
    have fin : ∀ (H2 : Hp) (kvs : List (Key × V)) (ks : List Int), H2 D = some (.dK kvs) → KeysI kvs ks → ks.Nodup → ks.length ≤ 1 → (∀ k ∈ ks, 0 ≤ k ∧ k < many) → PoolAt H2 p → Kept p H H2 → ∀ y5 : Option V,
        tSeq (tFor (iRng1 (tCons (tOp (rIxL K) (tLst (tCons (tC (.int 0)) (tCons (tC (.int 0)) (tCons (tC (.int 0)) (tCons (tC (.int 1)) (tCons (tC (.int 1)) (tCons (tC (.int 1)) (tCons (tC (.int 2)) (tCons (tC (.int 2)) tNil))))))))) (tVar 3)) tNil)) (gName 5)
          (sDPut (tVar 4) (tCall spTake [] E0 (tCons (tVar 0) (tCons (tVar 2) tNil))) (tC (.bl true)))) (tRet (tCB (rTupL K) (tCons (tCB rSortedDI (tCons (tVar 4) tNil)) tNil))) { nx := fun _ H' => Q .non H', rt := Q } [some (.ref p), some (.int row), some (.int many), some (.int wy), some (.ref D), y5] H2 := by
      intro H2 kvs ks hD hks nd hl hb hp2 k2 y5
      refine ⟨(by show 8 ≤ sizeLine; decide), fun L nL => ?_⟩
      have eLp : L ≠ p := pool_ne hp2 nL
      have eLD : D ≠ L := ne_of_none hD nL
      obtain ⟨v, hv, ev⟩ := cons_nil_fin (xs := [V.int 0, .int 0, .int 0, .int 1, .int 1, .int 1, .int 2, .int 2]) 8 rfl w0 w1
      obtain ⟨n, en, hn⟩ : ∃ n : Nat, v = .int n ∧ n ≤ 2 := by
        simp only [List.mem_cons, List.not_mem_nil, or_false] at hv
        rcases hv with e | e | e | e | e | e | e | e
        all_goals first
          | exact ⟨0, e, by decide⟩
          | exact ⟨1, e, by decide⟩
          | exact ⟨2, e, by decide⟩
      subst en
      refine ⟨_, rfl, L, _, _, _, rfl, rfl, SqL.of upd_same, ev, ?_⟩
      refine ⟨(n : Int), rfl, by omega, by omega, ?_⟩
      rw [show ((n : Int)).toNat = n by omega]
      refine for_range (lo := 0) (n := n) (fun i σ H3 => ∃ (kvs : List (Key × V)) (ks : List Int) (y5 : Option V), σ = [some (.ref p), some (.int row), some (.int many), some (.int wy), some (.ref D), y5] ∧ H3 D = some (.dK kvs) ∧ KeysI kvs ks ∧ ks.Nodup ∧ kvs.length ≤ 1 + i ∧ (∀ k ∈ ks, 0 ≤ k ∧ k < many) ∧ PoolAt H3 p ∧ Kept p H H3) ?_ ?_ ?_
      · exact ⟨kvs, ks, y5, rfl, (by rw [upd_ne eLD]; exact hD), hks, nd, (by rw [hks.len]; exact hl), hb, hp2.upd eLp.symm, k2.trans (Kept.same (same_upd nL))⟩
      · rintro i σ H3 hi ⟨kvs, ks, y5, rfl, hD3, hks3, nd3, hl3, hb3, hp3, k3⟩
        refine ⟨_, rfl, _, rfl, _, rfl, p, many, rfl, hp3, m1, by omega, fun r o2 r0 r1 po2 => ?_⟩
        have hD4 : (upd H3 p o2) D = some (.dK kvs) := by
          rw [upd_ne eDp]
          exact hD3
        obtain ⟨ks', h1, h2, h3⟩ := hks3.put nd3 r (.bl true)
        refine ⟨D, _, rfl, DPut.k (k := Sum.inl r) hD4 (small1000 (by omega)), ?_⟩
        refine ⟨_, ks', _, rfl, upd_same, h1, h2, ?_, fun k hk => ?_, PoolAt.upd ⟨o2, upd_same, po2⟩ eDp.symm, (k3.trans (Kept.upd p H3 o2)).set nD0⟩
        · have := length_putK kvs (Sum.inl r) (.bl true)
          omega
        · rcases (h3 k).mp hk with z | z
          · exact hb3 k z
          · rw [z]
            exact ⟨r0, r1⟩
      · rintro σ H3 ⟨kvs, ks, y5, rfl, hD3, hks3, nd3, hl3, hb3, hp3, k3⟩
        refine ⟨_, rfl, D, kvs, ks, rfl, hD3, hks3, (by rw [← hks3.len]; omega), fun ys u pm so nu => ?_⟩
        refine ⟨u, _, rfl, SqL.of upd_same, fun t H4 s4 nt pt => ?_⟩
        have eup : u ≠ p := pool_ne hp3 nu
        refine q t H4 ys (k3.trans (Kept.same ((same_upd nu).trans s4))) ((hp3.upd eup.symm).same s4) (.inl pt) ⟨pw_lt so (pm.nodup_iff.mpr nd3), fun k hk => (hb3 k (pm.subset hk)).1, fun k hk => ?_⟩
        have := (hb3 k (pm.subset hk)).2
        omega
    have hk2 : Kept p H (upd (upd H p o) D (.dK [])) := hk1.set nD0
    have hp2 : PoolAt (upd (upd H p o) D (.dK [])) p := hp1.upd eDp.symm
    refine ⟨_, rfl, _, _, rfl, rfl, _, rfl, iteB (fun z1 => ?_) (fun z1 => iteF ?_)⟩
    · refine ⟨_, rfl, _, _, rfl, rfl, _, rfl, _, _, rfl, rfl, _, rfl, iteB (fun z2 => ?_) (fun z2 => ?_)⟩
      · have z3 : row + 1 < many := of_decide_eq_true z2
        refine ⟨_, rfl, _, rfl, _, _, rfl, rfl, D, _, rfl, DPut.k (k := Sum.inl (row + 1)) upd_same (small1000 (by decide)), ?_⟩
        refine fin _ [(Sum.inl (row + 1), .bl true)] [row + 1] upd_same rfl (by simp) (Nat.le_refl _) (fun k hk => ?_) (hp2.upd eDp.symm) (hk2.set nD0) none
        rw [List.mem_singleton.mp hk]
        omega
      · exact fin _ [] [] upd_same rfl (by simp) (by decide) (fun k hk => (List.not_mem_nil hk).elim) hp2 hk2 none
    · exact fin _ [] [] upd_same rfl (by simp) (by decide) (fun k hk => (List.not_mem_nil hk).elim) hp2 hk2 none
theorem ok_lweb (T : At K mg "_law_web" s_law_web ["_law_pool_here", "_law_most_rows", "_law_most_rooms"]) (B : Bt mg) (c_take : Cal P w K mg base 1 "_law_take" ["_law_pool_here", "_law_many"] spTake) (c_picked : Cal P w K mg base 2 "_law_picked" ["_law_pool_here", "_law_some", "_law_many"] (spPicked K))
    (c_tos : Cal P w K mg base 2 "_law_tos" ["_law_pool_here", "_law_row", "_law_many"] spLTos) : Cal P w K mg base 3 "_law_web" ["_law_pool_here", "_law_most_rows", "_law_most_rooms"] spLWeb := by
  refine cal_of T sc_law_web (fun vs H Q E h => ?_) (fun f cdv A outer s H vs Q E hr h => ?_)
  · obtain ⟨p, mr, mo, rfl, _⟩ := h
    rfl
  · obtain ⟨p, mr, mo, rfl, hp, r1, r80, o1, o12, q⟩ := h
    refine ⟨_, (pss_cons (ps_set (i := 3) sc_law_web.nd rfl (Or.inl rfl) (pe_op op_add pe_int (pe_own c_take hr (by decide) (by rfl) (pa_cons (pv 0) (pa_cons (pv 1) pa_nil)))))
      (pss_cons (ps_set (i := 4) sc_law_web.nd rfl (Or.inl rfl) (pe_own c_picked hr (by decide) (by rfl) (pa_cons (pv 0) (pa_cons (pe_listRg rfl (by rfl) B.list (prg_1 (by rfl) B.range pe_int)) (pa_cons (pe_op op_add pe_int (pe_own c_take hr (by decide) (by rfl) (pa_cons (pv 0) (pa_cons (pv 2) pa_nil)))) pa_nil)))))
      (pss_cons (ps_set (i := 5) sc_law_web.nd rfl (Or.inl rfl) (pe_lst pa_nil))
      (pss_cons (ps_for PassesOwn.never rfl (pi_range1 (by rfl) B.range (pa_cons (pv 3) pa_nil)) (pg_name (i := 6) sc_law_web.nd rfl (Or.inl rfl)) (pss_cons (ps_set (i := 7) sc_law_web.nd rfl (Or.inl rfl) (pe_own c_picked hr (by decide) (by rfl) (pa_cons (pv 0) (pa_cons (pv 4) (pa_cons (pe_ix ix_list (pe_lst (pa_cons pe_int (pa_cons pe_int (pa_cons pe_int (pa_cons pe_int (pa_cons pe_int (pa_cons pe_int (pa_cons pe_int pa_nil)))))))) (pe_own c_take hr (by decide) (by rfl) (pa_cons (pv 0) (pa_cons pe_int pa_nil))) (fun _ _ => rfl)) pa_nil)))))
      (pss_one (ps_expr (pe_bm PySem.F.plainAttrs_list PySem.F.slot_list_append PySem.F.type_list_append mt_append (pv 5) (pa_cons (pe_tupF (pa_cons (pe_callTy call_tupleF (by rfl) B.tuple (by decide +kernel) (pa_cons (pv 7) pa_nil)) (pa_cons (pe_own c_tos hr (by decide) (by rfl) (pa_cons (pv 0) (pa_cons (pv 6) (pa_cons (pv 3) pa_nil)))) pa_nil))) pa_nil))))))
      (pss_one (ps_ret (pv 5))))))), ?_⟩
    refine ⟨_, rfl, _, rfl, p, mr, rfl, hp, r1, by omega, fun rr o rr0 rr1 po => ?_⟩
    have hp1 : PoolAt (upd H p o) p := ⟨o, upd_same, po⟩
    obtain ⟨n, hn⟩ : ∃ n : Nat, 1 + rr = (n : Int) := ⟨(1 + rr).toNat, by omega⟩
    refine ⟨_, _, rfl, rfl, ?_⟩
    refine ⟨_, rfl, 100, rfl, ⟨by decide, by decide, by decide, by decide, by decide⟩, fun b nb => ?_⟩
    rw [hundred_rg]
    have ebp : b ≠ p := pool_ne hp1 nb
    refine ⟨_, rfl, _, rfl, p, mo, rfl, hp1.upd ebp.symm, o1, by omega, fun ro o2 ro0 ro1 po2 => ?_⟩
    refine ⟨_, _, rfl, rfl, p, b, hundred, _, rfl, ⟨o2, upd_same, po2⟩, SqL.of (by rw [upd_ne ebp, upd_same]), ebp, hundred_nd, (by rw [hundred_len]; decide), (by omega), fun ra H2 ms nra k2 hp2 hra nd hsub hml hle => ?_⟩
    have kk2 : Kept p H H2 := ((Kept.upd p H o).trans ((Kept.same (same_upd nb)).trans (Kept.upd p _ o2))).trans k2
    have erp : ra ≠ p := (free_upd nra).1
    have hml12 : ms.length ≤ 12 := by
      rw [hml]
      omega
    have hr99 : ∀ k ∈ ms, 0 ≤ k ∧ k ≤ 99 := fun k hk => by
      have := hundred_mem (hsub k hk)
      omega
    have hall : ∀ rs : List Rw, (∀ r ∈ rs, RowOk n r ∧ ∀ k ∈ r.1, k ∈ ms) → ∀ k ∈ allRooms rs, k ∈ ms := by
      intro rs hrow k hk
      obtain ⟨l, hl, hk⟩ := List.mem_flatten.mp hk
      obtain ⟨r, hr, rfl⟩ := List.mem_map.mp hl
      exact (hrow r hr).2 k hk
    refine ⟨(by show 0 ≤ sizeLine; decide), fun wa nwa => ?_⟩
    have ewp : wa ≠ p := pool_ne hp2 nwa
    have ewr : ra ≠ wa := ne_of_none hra nwa
    have nwa0 : H wa = none := kk2.free ewp nwa
    refine ⟨_, rfl, _, congrArg (fun z => [V.int z]) hn, by omega, by omega, ?_⟩
    rw [show ((n : Int)).toNat = n by omega]
    refine for_range (lo := 0) (n := n) (fun i σ H3 => ∃ (y6 y7 : Option V) (ws : List V) (rs : List Rw), σ = [some (.ref p), some (.int mr), some (.int mo), some (.int n), some (.ref ra), some (.ref wa), y6, y7] ∧ H3 wa = some (.lst ws) ∧ RowsAt H3 ws rs ∧ rs.length = i ∧ (∀ r ∈ rs, RowOk n r ∧ ∀ k ∈ r.1, k ∈ ms) ∧ H3 ra = some (.lst (ms.map V.int)) ∧ PoolAt H3 p ∧ Kept p H H3) ?_ ?_ ?_
    · refine ⟨none, none, [], [], ?_, upd_same, trivial, rfl, fun r hr => (List.not_mem_nil hr).elim, (by rw [upd_ne ewr]; exact hra), hp2.upd ewp.symm, kk2.set nwa0⟩
      rw [← hn]
      rfl
    · rintro i σ H3 hi ⟨y6, y7, ws, rs, rfl, hwa, hrs, hlen, hrow, hra3, hp3, k3⟩
      have hwl := hrs.len
      refine ⟨_, rfl, _, rfl, (by show 7 ≤ sizeLine; decide), fun L nL => ?_⟩
      have eLp : L ≠ p := pool_ne hp3 nL
      refine ⟨_, rfl, p, 7, rfl, hp3.upd eLp.symm, by decide, by decide, fun r3 o3 r30 r31 po3 => ?_⟩
      obtain ⟨v, hv, ev⟩ := cons_nil_fin (xs := [V.int 1, .int 1, .int 1, .int 1, .int 0, .int 2, .int 3]) 7 rfl r30 r31
      obtain ⟨m, em, hm⟩ : ∃ m : Nat, v = .int m ∧ m ≤ 3 := by
        simp only [List.mem_cons, List.not_mem_nil, or_false] at hv
        rcases hv with e | e | e | e | e | e | e
        all_goals first
          | exact ⟨0, e, by decide⟩
          | exact ⟨1, e, by decide⟩
          | exact ⟨2, e, by decide⟩
          | exact ⟨3, e, by decide⟩
      subst em
      have eLra : ra ≠ L := ne_of_none hra3 nL
      refine ⟨L, _, _, _, rfl, rfl, SqL.of (by rw [upd_ne eLp, upd_same]), ev, ?_⟩
      refine ⟨p, ra, ms, _, rfl, ⟨o3, upd_same, po3⟩, SqL.of (by rw [upd_ne erp, upd_ne eLra]; exact hra3), erp, nd, by omega, by omega, fun q1 H4 m1 nq1 k4 hp4 hq1 nd1 sub1 len1 le1 => ?_⟩
      have kk4 : Kept p H3 H4 := ((Kept.same (same_upd nL)).trans (Kept.upd p _ o3)).trans k4
      have hwa4 : H4 wa = some (.lst ws) := kk4 _ _ hwa ewp
      refine ⟨_, rfl, .inl ⟨rfl, _, SqL.of hwa4⟩, _, rfl, q1, _, rfl, SqL.of hq1, fun u5 H5 s5 nu5 pu5 => ?_⟩
      refine ⟨_, rfl, _, rfl, _, rfl, p, 0 + (i : Int), (n : Int), rfl, hp4.same s5, by omega, by omega, by omega, fun u6 H6 tos k6 hp6 hu6 ris6 => ?_⟩
      refine ⟨(by show 2 ≤ sizeLine; decide), fun t3 H7 s7 nt3 pt3 => ?_⟩
      have kk7 : Kept p H3 H7 := ((kk4.trans (Kept.same s5)).trans k6).trans (Kept.same s7)
      have hwa7 : H7 wa = some (.lst ws) := kk7 _ _ hwa ewp
      refine ⟨wa, _, _, rfl, rfl, hwa7, small1000 (by omega), ?_⟩
      refine ⟨_, _, ws ++ [.ref t3], rs ++ [(m1, tos)], rfl, upd_same, ?_, (by rw [List.length_append, hlen]; rfl), fun r hr => ?_, ?_, ?_, ?_⟩
      · have kz : K2 H7 (upd H7 wa (.lst (ws ++ [.ref t3]))) := K2.lst hwa7
        refine RowsAt.snoc (hrs.keep ((K2.of kk7 hp3).trans kz)) ⟨t3, u5, u6, rfl, kz _ _ (.inl pt3), kz _ _ ((K2.of k6 (hp4.same s5) _ _ (.inl pu5)).same s7), kz _ _ (hu6.same s7)⟩
      · rcases List.mem_append.mp hr with z | z
        · exact hrow r z
        · rw [List.mem_singleton.mp z]
          refine ⟨⟨⟨pw_lt le1 nd1, fun k hk => (hr99 k (sub1 k hk)).1, fun k hk => (hr99 k (sub1 k hk)).2⟩, ?_, ris6⟩, sub1⟩
          show m1.length ≤ 6
          omega
      · rw [upd_ne ewr]
        exact kk7 _ _ hra3 erp
      · exact (hp6.same s7).upd ewp.symm
      · exact (k3.trans kk7).set nwa0
    · rintro σ H3 ⟨y6, y7, ws, rs, rfl, hwa, hrs, hlen, hrow, hra3, hp3, k3⟩
      refine ⟨_, rfl, q wa H3 rs nwa0 k3 hp3 ⟨ws, hwa, hrs⟩ ⟨by omega, by omega, fun r hr => (by rw [hlen]; exact (hrow r hr).1), ms, hml12, hall rs hrow⟩ (by omega) ⟨ms, by rw [hml]; omega, hall rs hrow⟩⟩
end
end Su
/-! ### LSd: all that may lie, at each row: of a web and a kind that are some -/
namespace Su
open PySem PySem.Spec PyProof.Rows L2
open LamX hiding takes0
/-- new lists, none twice -/
def RowsNewN (H : Hp) (us : List V) (u : Addr) : Prop := ∃ js : List Addr, us = js.map V.ref ∧ js.Nodup ∧ u ∉ js ∧ ∀ a ∈ js, NewN H a
def spStandsD (TL : List (Addr × Str)) : Sp := fun vs H Q _ => ∃ (p : Addr) (rs : List Rw) (n : Nat) (x : Str), vs = [.ref p, .int n, .str x] ∧ WebAt H p rs ∧ WebOk rs ∧ Kind n x ∧ fewL rs n x ∧ Tabs TL H ∧
  ∀ (cs : List CE) (u : Addr) (us : List V) (H' : Hp), ExtN H H' → Tabs TL H' → NewN H u → Came (laySys rs (roomsR rs) n x) cs → H' u = some (.lst us) → TabTo H' us cs rs.length → RowsNewN H us u → Q (.ref u) H'
theorem sc_standsD : FnScope ["web", "size", "way"] ["web", "size", "way"] (defScope s_standsD) := ⟨rfl, rfl, rfl, by decide +kernel, rfl, by decide +kernel, by decide +kernel⟩
section
variable {P : Program} {w : World} {K : PySem.W.Frag} {mg : Str → Option Value} {base : Heap}
theorem ok_standsD {CM : Addr} {TL : List (Addr × Str)} (T : AtD K mg "stands" s_standsD ["web", "size", "way"] [.int 4, .str "last"]) (B : Bt mg) (c_look_at_web : Cal P w K mg base 5 "look_at_web" ["thing"] spLook) (c_look_at_kind : Cal P w K mg base 4 "look_at_kind" ["size", "way"] spKind)
    (c_look_at_many : CalX P w K mg base 3 "look_at_many" ["web", "size", "way"] (spMany CM)) (c_lays_come : Cal P w K mg base 8 "lays_come" ["web", "size", "way"] (spCome w TL)) (c_table_of : Cal P w K mg base 1 "table_of" ["came", "web"] (spTable w)) :
    CalD P w K mg base 9 "stands" ["web", "size", "way"] [.int 4, .str "last"] (spStandsD TL) := by
  refine cal_ofD T sc_standsD (fun vs H Q E h => ?_) (fun f cdv A outer s H vs Q E hr h => ?_)
  · obtain ⟨p, rs, n, x, rfl, _⟩ := h
    rfl
  · obtain ⟨p, rs, n, x, rfl, hW, ok, kd, fw, hT, q⟩ := h
    refine ⟨_, (pss_cons (ps_expr (pe_own c_look_at_web hr (by decide) (by rfl) (pa_cons (pv 0) pa_nil)))
      (pss_cons (ps_expr (pe_own c_look_at_kind hr (by decide) (by rfl) (pa_cons (pv 1) (pa_cons (pv 2) pa_nil))))
      (pss_cons (ps_expr (pe_ownX takes0 c_look_at_many hr (by decide) (by rfl) (pa_cons (pv 0) (pa_cons (pv 1) (pa_cons (pv 2) pa_nil)))))
      (pss_one (ps_ret (pe_own c_table_of hr (by decide) (by rfl) (pa_cons (pe_own c_lays_come hr (by decide) (by rfl) (pa_cons (pv 0) (pa_cons (pv 1) (pa_cons (pv 2) pa_nil)))) (pa_cons (pv 0) pa_nil)))))))), ?_⟩
    obtain ⟨ws, hp, hrs⟩ := id hW
    have hwl := hrs.len
    have f80 := ok.few
    obtain ⟨S, hS, hin⟩ := ok.all
    refine ⟨_, rfl, p, rs, rfl, hW, ok, fun H1 s1 => ?_⟩
    refine ⟨_, rfl, _, rfl, n, x, rfl, kd, ?_⟩
    refine ⟨_, rfl, _, rfl, _, rfl, p, rs, n, x, rfl, hW.same s1, ok, kd, fun _ H2 s2 => ?_, fun nf => absurd fw nf⟩
    have s02 := s1.trans s2
    have T2 : Tabs TL H2 := hT.ext fun b o e => s02 _ _ e
    refine ⟨_, rfl, _, rfl, _, rfl, p, rs, n, x, roomsR rs, rfl, hW.same s02, layIn_of ok kd fw, T2, fun C3 H3 xs e3 hT3 nC nd3 hx3 came => ?_⟩
    have c20 := came_few (layIn_of ok kd fw) came
    rw [List.length_map] at c20
    have e03 : ExtN H H3 := (ExtN.of s02).trans e3
    refine ⟨_, rfl, C3, p, xs, ws, rfl, nd3, hx3, e03 _ _ hp (fun _ z => nomatch z), by omega, fun x1 h1 => ?_, fun z => nC.ne (s02 _ _ hp) (fun _ y => nomatch y) z.symm, c20, fun u us H4 fr nu hu ht hrn => ?_⟩
    · have := (came.ok x1.e (List.mem_map.mpr ⟨x1, h1, rfl⟩)).1
      rw [hwl]
      exact this
    · rw [hwl] at ht
      have e04 : ExtN H H4 := fun c o ec nt => fr _ _ (e03 _ _ ec nt) (fun z => nC.ne (s02 _ _ ec) nt z)
      have T4 : Tabs TL H4 := by
        have t3 := hT3 (.lst [])
        intro pq hpq
        obtain ⟨ps, h1, h2, h3⟩ := t3 pq hpq
        have nP : pq.1 ≠ C3 := fun z => by
          rw [z, upd_same] at h1
          cases h1
        have nc : ∀ c, (upd H3 C3 (.lst [])) c = some (LamX.CodeO c pq.2) → c ≠ C3 := fun c e z => by
          rw [z, upd_same] at e
          cases e
        rw [upd_ne nP] at h1
        refine ⟨ps, fr _ _ h1 nP, h2, fun pos cv hc => ?_⟩
        obtain ⟨c, e1, e2⟩ := h3 pos cv hc
        have n2 := nc c e2
        rw [upd_ne n2] at e2
        exact ⟨c, e1, fr _ _ e2 n2⟩
      have newN : ∀ {a : Addr}, H3 a = none → NewN H a := fun {a} na o ho => by
        refine Classical.byContradiction fun z => ?_
        have e4 := e03 _ _ ho fun ps e => z ⟨ps, e⟩
        rw [na] at e4
        cases e4
      obtain ⟨js, ejs, jnd, uj, hj⟩ := hrn
      exact q _ u us H4 e04 T4 (newN nu) came hu ht ⟨js, ejs, jnd, uj, fun a ha => newN (hj a ha)⟩
end
end Su
/-! ### R4: the law's ways -/
namespace Su
open PySem PySem.Spec PyProof.Rows L2
open LamX hiding takes0
/-- so many lays at most -/
def smallK (rooms n : Nat) (x : Str) : Prop := cntS n rooms * 2 ^ (bitsN n x).toNat ≤ 168
def spLWay : Sp := fun vs H Q _ => ∃ (p : Addr) (m : Nat), vs = [.ref p, .int m] ∧ PoolAt H p ∧ m ≤ 4 ∧
  ∀ (t : Addr) (n : Nat) (x : Str) (H' : Hp), Kept p H H' → PoolAt H' p → PTup H' t [.int n, .str x] → Kind n x → smallK m n x → Q (.ref t) H'
theorem smalls : ∀ m < 5, ((∀ n < 9, 1 ≤ n → n ≤ ([8, 8, 8, 3, 2] : List Nat).getD m 0 → cntS n m ≤ 168) ∧ (∀ n ∈ [1, 2], cntS n m * 2 ^ (n - 1) ≤ 168) ∧ (m < 3 → cntS 4 m * 2 ^ 3 ≤ 168)) := by decide +kernel
theorem sc_law_way : FnScope ["_law_pool_here", "_law_rooms", "_law_way_here"] ["_law_pool_here", "_law_rooms"] (defScope s_law_way) := ⟨rfl, rfl, rfl, by decide +kernel, rfl, by decide +kernel, by decide +kernel⟩
section
variable {P : Program} {w : World} {K : PySem.W.Frag} {mg : Str → Option Value} {base : Heap}
theorem ok_lway (T : At K mg "_law_way" s_law_way ["_law_pool_here", "_law_rooms"]) (B : Bt mg) (c_take : Cal P w K mg base 1 "_law_take" ["_law_pool_here", "_law_many"] spTake) : Cal P w K mg base 2 "_law_way" ["_law_pool_here", "_law_rooms"] spLWay := by
  refine cal_of T sc_law_way (fun vs H Q E h => ?_) (fun f cdv A outer s H vs Q E hr h => ?_)
  · obtain ⟨p, m, rfl, _⟩ := h
    rfl
  · obtain ⟨p, m, rfl, hp, m4, q⟩ := h
    refine ⟨_, (pss_cons (ps_set (i := 2) sc_law_way.nd rfl (Or.inl rfl) (pe_ix ix_list (pe_lst (pa_cons pe_str (pa_cons pe_str (pa_cons pe_str pa_nil)))) (pe_own c_take hr (by decide) (by rfl) (pa_cons (pv 0) (pa_cons pe_int pa_nil))) (fun _ _ => rfl)))
      (pss_cons (ps_if (pt_cmpR op_eq (pv 2) pe_str (nomark _)) (pss_one (ps_ret (pe_tupF (pa_cons (pe_ix ix_list (pe_lst (pa_cons pe_int (pa_cons pe_int (pa_cons pe_int (pa_cons pe_int pa_nil))))) (pe_own c_take hr (by decide) (by rfl) (pa_cons (pv 0) (pa_cons (pe_op op_add pe_int (pe_callTy call_int1 (by rfl) B.int (by decide +kernel) (pa_cons (pe_cmpR op_lt (pv 1) pe_int (nomark _)) pa_nil))) pa_nil))) (fun _ _ => rfl)) (pa_cons (pv 2) pa_nil))))) pss_nil)
      (pss_one (ps_ret (pe_tupF (pa_cons (pe_op op_add pe_int (pe_own c_take hr (by decide) (by rfl) (pa_cons (pv 0) (pa_cons (pe_ix ix_list (pe_lst (pa_cons pe_int (pa_cons pe_int (pa_cons pe_int (pa_cons pe_int (pa_cons pe_int pa_nil)))))) (pv 1) (fun _ _ => rfl)) pa_nil)))) (pa_cons (pv 2) pa_nil))))))), ?_⟩
    refine ⟨(by show 3 ≤ sizeLine; decide), fun L nL => ?_⟩
    have eLp : L ≠ p := pool_ne hp nL
    have sL : Same H (upd H L (.lst [V.str "last", V.str "first", V.str "tree"])) := same_upd nL
    have hL : (upd H L (.lst [V.str "last", V.str "first", V.str "tree"])) L = some (.lst [V.str "last", V.str "first", V.str "tree"]) := upd_same
    generalize upd H L (.lst [V.str "last", V.str "first", V.str "tree"]) = H1 at sL hL ⊢
    refine ⟨_, rfl, p, 3, rfl, hp.same sL, by decide, by decide, fun r o r0 r1 po => ?_⟩
    have hp2 : PoolAt (upd H1 p o) p := ⟨o, upd_same, po⟩
    have k2 : Kept p H1 (upd H1 p o) := Kept.upd p H1 o
    have hL2 := k2 _ _ hL eLp
    have k02 : Kept p H (upd H1 p o) := (Kept.same sL).trans k2
    generalize upd H1 p o = H2 at hp2 k2 hL2 k02 ⊢
    obtain ⟨v, hv, ev⟩ := cons_nil_fin (xs := [V.str "last", V.str "first", V.str "tree"]) 3 rfl r0 r1
    refine ⟨L, _, _, _, rfl, rfl, SqL.of hL2, ev, ?_⟩
    obtain ⟨x, rfl, hx⟩ : ∃ x : Str, v = .str x ∧ (x = "last" ∨ x = "first" ∨ x = "tree") := by
      simp only [List.mem_cons, List.not_mem_nil, or_false] at hv
      rcases hv with e | e | e
      · exact ⟨_, e, .inl rfl⟩
      · exact ⟨_, e, .inr (.inl rfl)⟩
      · exact ⟨_, e, .inr (.inr rfl)⟩
    refine ⟨_, rfl, rfl, _, rfl, iteB (fun z => ?_) (fun z => ?_)⟩
    · have e : x = "tree" := V.str.inj (of_decide_eq_true z)
      subst e
      clear ev hv hL2 hL z sL k2
      refine ⟨(by show 4 ≤ sizeLine; decide), fun L2 nL2 => ?_⟩
      have eLp2 : L2 ≠ p := pool_ne hp2 nL2
      have sL2 : Same H2 (upd H2 L2 (.lst [V.int 1, V.int 2, V.int 2, V.int 4])) := same_upd nL2
      have hL2 : (upd H2 L2 (.lst [V.int 1, V.int 2, V.int 2, V.int 4])) L2 = some (.lst [V.int 1, V.int 2, V.int 2, V.int 4]) := upd_same
      generalize upd H2 L2 (.lst [V.int 1, V.int 2, V.int 2, V.int 4]) = H3 at sL2 hL2 ⊢
      obtain ⟨c, ec, hc⟩ : ∃ c : Int, (3 : Int) + (if decide ((m : Int) < 3) = true then 1 else 0) = c ∧ (c = 3 ∨ (c = 4 ∧ m < 3)) := by
        by_cases h : (m : Int) < 3
        · exact ⟨4, by rw [if_pos (decide_eq_true h)]; rfl, .inr ⟨rfl, by omega⟩⟩
        · exact ⟨3, by rw [if_neg (by rw [decide_eq_false h]; exact Bool.false_ne_true)]; rfl, .inl rfl⟩
      refine ⟨_, rfl, _, rfl, _, _, rfl, rfl, .inr ⟨_, rfl, _, _, rfl, rfl, p, c, congrArg (fun z => [V.ref p, V.int z]) ec, hp2.same sL2, by omega, by omega, fun r' o' r0' r1' po' => ?_⟩⟩
      have hp4 : PoolAt (upd H3 p o') p := ⟨o', upd_same, po'⟩
      have k4 : Kept p H (upd H3 p o') := (k02.trans (Kept.same sL2)).trans (Kept.upd p H3 o')
      have hL4 : (upd H3 p o') L2 = some (.lst [V.int 1, V.int 2, V.int 2, V.int 4]) := (Kept.upd p H3 o') _ _ hL2 eLp2
      generalize upd H3 p o' = H4 at hp4 k4 hL4 ⊢
      have sm := smalls m (by omega)
      obtain ⟨n, en, hn⟩ : ∃ n : Nat, atI [V.int 1, V.int 2, V.int 2, V.int 4] r' = some (V.int (n : Nat)) ∧ (n = 1 ∨ n = 2 ∨ (n = 4 ∧ m < 3)) := by
        have hr : r' = 0 ∨ r' = 1 ∨ r' = 2 ∨ (r' = 3 ∧ m < 3) := by omega
        rcases hr with rfl | rfl | rfl | ⟨rfl, h3⟩
        · exact ⟨1, rfl, .inl rfl⟩
        · exact ⟨2, rfl, .inr (.inl rfl)⟩
        · exact ⟨2, rfl, .inr (.inl rfl)⟩
        · exact ⟨4, rfl, .inr (.inr ⟨rfl, h3⟩)⟩
      refine ⟨L2, _, _, V.int (n : Nat), rfl, rfl, SqL.of hL4, en, _, rfl, (by show 2 ≤ sizeLine; decide), fun t H5 s5 n5 p5 => q t n "tree" H5 (k4.trans (Kept.same s5)) (hp4.same s5) p5 ⟨.inr (.inr rfl), by omega, by omega, fun _ => by omega⟩ ?_⟩
      show cntS n m * 2 ^ (bitsN n "tree").toNat ≤ 168
      rw [show bitsN n "tree" = (n : Int) - 1 from if_pos rfl, show ((n : Int) - 1).toNat = n - 1 by omega]
      rcases hn with rfl | rfl | ⟨rfl, h3⟩
      · exact sm.2.1 1 (by simp)
      · exact sm.2.1 2 (by simp)
      · exact sm.2.2 h3
    · have e : x ≠ "tree" := fun e => (of_decide_eq_false z) (by rw [e])
      clear ev hv hL2 hL z sL k2
      refine ⟨_, rfl, (by show 5 ≤ sizeLine; decide), fun L2 nL2 => ?_⟩
      have eLp2 : L2 ≠ p := pool_ne hp2 nL2
      have sL2 : Same H2 (upd H2 L2 (.lst [V.int 8, V.int 8, V.int 8, V.int 3, V.int 2])) := same_upd nL2
      have hL2 : (upd H2 L2 (.lst [V.int 8, V.int 8, V.int 8, V.int 3, V.int 2])) L2 = some (.lst [V.int 8, V.int 8, V.int 8, V.int 3, V.int 2]) := upd_same
      generalize upd H2 L2 (.lst [V.int 8, V.int 8, V.int 8, V.int 3, V.int 2]) = H3 at sL2 hL2 ⊢
      obtain ⟨c, hc, ec, c8⟩ : ∃ c : Nat, atI [V.int 8, V.int 8, V.int 8, V.int 3, V.int 2] (m : Int) = some (V.int (c : Nat)) ∧ c = ([8, 8, 8, 3, 2] : List Nat).getD m 0 ∧ 1 ≤ c ∧ c ≤ 8 := by
        have hm : m = 0 ∨ m = 1 ∨ m = 2 ∨ m = 3 ∨ m = 4 := by omega
        rcases hm with rfl | rfl | rfl | rfl | rfl
        · exact ⟨8, rfl, rfl, by decide⟩
        · exact ⟨8, rfl, rfl, by decide⟩
        · exact ⟨8, rfl, rfl, by decide⟩
        · exact ⟨3, rfl, rfl, by decide⟩
        · exact ⟨2, rfl, rfl, by decide⟩
      refine ⟨_, rfl, L2, _, _, V.int (c : Nat), rfl, rfl, SqL.of hL2, hc, p, (c : Int), rfl, hp2.same sL2, by omega, by omega, fun r' o' r0' r1' po' => ?_⟩
      have hp4 : PoolAt (upd H3 p o') p := ⟨o', upd_same, po'⟩
      have k4 : Kept p H (upd H3 p o') := (k02.trans (Kept.same sL2)).trans (Kept.upd p H3 o')
      generalize upd H3 p o' = H4 at hp4 k4 ⊢
      have sm := smalls m (by omega)
      obtain ⟨n, rfl⟩ : ∃ n : Nat, r' = (n : Int) := ⟨r'.toNat, by omega⟩
      refine ⟨_, _, rfl, rfl, _, rfl, (by show 2 ≤ sizeLine; decide), fun t H5 s5 n5 p5 => ?_⟩
      rw [show ((fun i j : Int => V.int (i + j)) 1 (n : Int)) = V.int ((n + 1 : Nat) : Int) from congrArg V.int (by omega)] at p5
      refine q t (n + 1) x H5 (k4.trans (Kept.same s5)) (hp4.same s5) p5 ⟨hx, by omega, by omega, fun z => absurd z e⟩ ?_
      show cntS (n + 1) m * 2 ^ (bitsN (n + 1 : Nat) x).toNat ≤ 168
      rw [show bitsN (n + 1 : Nat) x = 0 from if_neg e]
      have := sm.1 (n + 1) (by omega) (by omega) (by rw [← ec]; omega)
      simpa using this
end
end Su
/-! ### R5: tables of lays as data -/
namespace Su
open PySem PySem.Spec PyProof.Rows L2
open LamX hiding takes0
theorem Kept.tabs {p : Addr} {H H' : Hp} {T : List (Addr × Str)} (k : Kept p H H') (hp : PoolAt H p) (t : Tabs T H) : Tabs T H' := by
  obtain ⟨o, e, g, m, rfl, _⟩ := hp
  exact FrL.tabs (ins := [p]) (fun c o ec n => k c o ec fun z => n (List.mem_singleton.mpr z)) (fun x hx => by
    rw [List.mem_singleton.mp hx]
    exact ⟨_, e⟩) t
theorem seqN {K : PySem.W.Frag} {H H' : Hp} {a : Addr} {xs : List V} (h : SqL K H a xs) (e : ∀ o, H a = some o → (∀ ps, o ≠ .tbl ps) → H' a = some o) : SqL K H' a xs := by
  rcases h with (h | ⟨ob, h⟩) | h
  · exact .inl (.inl (e _ h fun _ z => nomatch z))
  · exact .inl (.inr ⟨ob, e _ h fun _ z => nomatch z⟩)
  · exact .inr h
theorem PoolAt.extN {p : Addr} {H H' : Hp} (h : PoolAt H p) (e : ExtN H H') : PoolAt H' p := by
  obtain ⟨o, ho, po⟩ := h
  refine ⟨o, e _ _ ho fun ps z => ?_, po⟩
  obtain ⟨g, m, rfl, _⟩ := po
  cases z
theorem ExtN.keeps {p : Addr} {H H' : Hp} (e : ExtN H H') : Keeps p H H' := ⟨fun a vs _ h => e _ _ h (fun _ z => nomatch z), fun a vs h => (KP.ext e).k _ _ h, fun a kvs h => e _ _ h (fun _ z => nomatch z)⟩
theorem neF {s : Str} : ¬ (!decide (V.str s = V.str s)) = true := by
  rw [decide_eq_true rfl]
  decide
def rowD' (ps : List Ly) : PyData := .list (ps.map layP)
def tabR (cs : List CE) (n : Nat) : List (List Ly) := (List.range n).map fun k => sortL ((rowE cs k).map unlay)
def tabD (cs : List CE) (n : Nat) : PyData := .list ((tabR cs n).map rowD')
theorem svs_dp {K : PySem.W.Frag} {H : Hp} : ∀ {ps : List Ly} {ws : List V}, SVs layV H (ps.map layK) ws → DpAll K H ws (ps.map layP)
  | [], _, h => by
    cases h
    exact .nil
  | p :: ps, _, h => by
    cases h with
    | cons h1 t =>
      obtain ⟨p', u, e, rfl, hla⟩ := h1
      obtain rfl := layK_inj e
      exact .cons (lay_dp hla) (svs_dp t)
theorem LRow.dp {K : PySem.W.Frag} {H : Hp} {v : V} {ps : List Ly} (h : LRow H v ps) : Dp K H v (rowD' ps) := by
  obtain ⟨a, ws, rfl, ha, hs⟩ := h
  exact .lst (SqL.of ha) (svs_dp hs)
theorem trow_dp {K : PySem.W.Frag} {H : Hp} : ∀ {us : List V} {rs : List (List Ly)}, us.length = rs.length → (∀ (k : Nat) (v : V) (ps : List Ly), us[k]? = some v → rs[k]? = some ps → LRow H v ps) → DpAll K H us (rs.map rowD')
  | [], [], _, _ => .nil
  | v :: us, ps :: rs, l, h => .cons (h 0 v ps rfl rfl).dp (trow_dp (by simpa using l) fun k v' ps' e1 e2 => h (k + 1) v' ps' (by simpa using e1) (by simpa using e2))
  | [], _ :: _, l, _ => by cases l
  | _ :: _, [], l, _ => by cases l
theorem tabR_get {cs : List CE} {n k : Nat} {ps : List Ly} (h : (tabR cs n)[k]? = some ps) : ps = sortL ((rowE cs k).map unlay) ∧ k < n := by
  unfold tabR at h
  rw [List.getElem?_map] at h
  obtain ⟨i, hi, rfl⟩ := Option.map_eq_some_iff.mp h
  obtain ⟨lt, e⟩ := List.getElem?_eq_some_iff.mp hi
  rw [List.length_range] at lt
  rw [List.getElem_range] at e
  subst e
  exact ⟨rfl, lt⟩
theorem tabR_len (cs : List CE) (n : Nat) : (tabR cs n).length = n := by
  unfold tabR
  rw [List.length_map, List.length_range]
theorem TabTo.dp {K : PySem.W.Frag} {H : Hp} {u : Addr} {us : List V} {cs : List CE} {n : Nat} (h : TabTo H us cs n) (hu : H u = some (.lst us)) : Dp K H (.ref u) (tabD cs n) :=
  .lst (SqL.of hu) (trow_dp (by rw [tabR_len]; exact h.1) fun k v ps e1 e2 => by
    rw [(tabR_get e2).1]
    exact h.2 k v e1)
theorem came_tab {Y : Sys} {cs ds : List CE} (hc : Came Y cs) (hd : Came Y ds) (n : Nat) : tabR cs n = tabR ds n := by
  unfold tabR
  exact List.map_congr_left fun k _ => came_sort hc hd k
theorem came_lays {rs : List Rw} {ms : List Int} {n : Nat} {x : Str} {cs : List CE} (c : Came (laySys rs ms n x) cs) {k : Nat} {p : Ly} (h : p ∈ sortL ((rowE cs k).map unlay)) : p ∈ laysL ms n (bitsN n x).toNat := by
  have h1 := (List.mergeSort_perm _ _).mem_iff.mp h
  obtain ⟨s, hs, rfl⟩ := List.mem_map.mp h1
  unfold rowE at hs
  obtain ⟨e, he, rfl⟩ := List.mem_map.mp hs
  obtain ⟨p0, hp0, ep⟩ := (c.ok e (List.mem_filter.mp he).1).2
  rw [ep, unlay_lay]
  exact hp0
theorem came_nodup {rs : List Rw} {ms : List Int} {n : Nat} {x : Str} {cs : List CE} (c : Came (laySys rs ms n x) cs) (k : Nat) : (sortL ((rowE cs k).map unlay)).Nodup := by
  refine (List.mergeSort_perm _ _).nodup_iff.mpr ?_
  have h1 : (cs.filter fun e => decide (e.row = k)).Pairwise fun a b => a.key ≠ b.key := (List.pairwise_map.mp c.nd).sublist List.filter_sublist
  unfold rowE
  rw [List.map_map]
  refine List.pairwise_map.mpr (List.Pairwise.imp_of_mem (fun {a b} ha hb hab e => hab ?_) h1)
  obtain ⟨p, hp, ep⟩ := (c.ok a (List.mem_filter.mp ha).1).2
  obtain ⟨q, hq, eq⟩ := (c.ok b (List.mem_filter.mp hb).1).2
  have e3 : unlay a.st = unlay b.st := e
  rw [ep, eq, unlay_lay, unlay_lay] at e3
  refine Prod.ext ((of_decide_eq_true (List.mem_filter.mp ha).2).trans (of_decide_eq_true (List.mem_filter.mp hb).2).symm) ?_
  show a.st = b.st
  rw [ep, eq, e3]
theorem rowD_fine {x : Str} {n : Nat} : ∀ {ps : List Ly}, (∀ p ∈ ps, LayOk x n p.1 p.2) → FineL (ps.map layP) 2 (1001 * ps.length)
  | [], _ => FineL.nil
  | p :: ps, h => by
    have z := FineL.cons (h p List.mem_cons_self).fine (rowD_fine fun q hq => h q (List.mem_cons_of_mem _ hq))
    have e : 1000 + 1 + 1001 * ps.length = 1001 * (p :: ps).length := by
      rw [List.length_cons]
      omega
    rw [← e]
    exact z
theorem tabD_fine {x : Str} {n b : Nat} : ∀ {rs : List (List Ly)}, (∀ ps ∈ rs, ps.length ≤ b ∧ ∀ p ∈ ps, LayOk x n p.1 p.2) → FineL (rs.map rowD') 3 ((1001 * b + 1) * rs.length)
  | [], _ => FineL.nil
  | ps :: rs, h => by
    obtain ⟨h1, h2⟩ := h ps List.mem_cons_self
    have f1 : Fine (rowD' ps) 3 (1001 * b) := (Fine.list (rowD_fine h2)).up (Nat.le_refl _) (Nat.mul_le_mul_left 1001 h1)
    have z := FineL.cons f1 (tabD_fine fun q hq => h q (List.mem_cons_of_mem _ hq))
    have e : 1001 * b + 1 + (1001 * b + 1) * rs.length = (1001 * b + 1) * (ps :: rs).length := by
      rw [List.length_cons, Nat.mul_add]
      omega
    rw [← e]
    exact z
/-- a told table, as data -/
theorem tab_fine {rs : List Rw} {n : Nat} {x : Str} {cs : List CE} (li : LayIn rs n x (roomsR rs)) (c : Came (laySys rs (roomsR rs) n x) cs) : Fine (tabD cs rs.length) 4 ((1001 * (cntS n (roomsR rs).length * 2 ^ (bitsN n x).toNat) + 1) * rs.length) := by
  have z := tabD_fine (x := x) (n := n) (b := cntS n (roomsR rs).length * 2 ^ (bitsN n x).toNat) (rs := tabR cs rs.length) fun ps hps => by
    obtain ⟨k, hk⟩ := List.mem_iff_getElem?.mp hps
    obtain ⟨rfl, _⟩ := tabR_get hk
    refine ⟨?_, fun p hp => layOk_of li.rg li.kd (came_lays c hp)⟩
    rw [← lays_len li.nm li.nd]
    exact (came_nodup c k).length_le_of_subset fun p hp => came_lays c hp
  rw [tabR_len] at z
  exact (Fine.list z).up (Nat.le_refl _) (Nat.le_refl _)
theorem LRow.ext {H H' : Hp} {v : V} {ps : List Ly} (h : LRow H v ps) (e : ExtN H H') : LRow H' v ps := by
  obtain ⟨a, ws, rfl, ha, hs⟩ := h
  exact ⟨a, ws, rfl, e _ _ ha (fun _ z => nomatch z), hs.keep (KP.ext e)⟩
theorem TabTo.ext {H H' : Hp} {us : List V} {cs : List CE} {n : Nat} (h : TabTo H us cs n) (e : ExtN H H') : TabTo H' us cs n := ⟨h.1, fun k v ek => (h.2 k v ek).ext e⟩
theorem LRow.frl {ins : List Addr} {H H' : Hp} {a : Addr} {ps : List Ly} (h : LRow H (.ref a) ps) (f : FrL ins H H') (l : ∀ a ∈ ins, ∃ ws, H a = some (.lst ws)) (n : a ∉ ins) : LRow H' (.ref a) ps := by
  obtain ⟨b, ws, e, ha, hs⟩ := h
  cases e
  exact ⟨a, ws, rfl, f _ _ ha n, hs.keep (f.kp l)⟩
end Su
/-! ### R6: the law -/
namespace Su
open PySem PySem.Spec PyProof.Rows L2
open LamX hiding takes0
def spLaw (K : PySem.W.Frag) (TL : List (Addr × Str)) : Sp := fun vs H Q _ => ∃ (a : Addr) (ns : List Int), vs = [.ref a] ∧ SqL K H a (ns.map V.int) ∧ ns.length ≤ 63 ∧ Tabs TL H ∧ ∀ H', Q (.bl true) H'
structure Calls (P : Program) (w : World) (K : PySem.W.Frag) (mg : Str → Option Value) (base : Heap) (TL : List (Addr × Str)) : Prop where
  pool : Cal P w K mg base 1 "_law_pool" ["_law_script", "_law_k"] (spPool K)
  take : Cal P w K mg base 1 "_law_take" ["_law_pool_here", "_law_many"] spTake
  web : Cal P w K mg base 3 "_law_web" ["_law_pool_here", "_law_most_rows", "_law_most_rooms"] spLWeb
  rooms : Cal P w K mg base 1 "_law_web_rooms" ["_law_web_here"] spLRooms
  way : Cal P w K mg base 2 "_law_way" ["_law_pool_here", "_law_rooms"] spLWay
  lst : Cal P w K mg base 3 "_law_stands" ["_law_web_here", "_law_size", "_law_way_here"] spLStands
  st : CalD P w K mg base 9 "stands" ["web", "size", "way"] [.int 4, .str "last"] (spStandsD TL)
theorem sc_law : FnScope ["_law_script", "_law_k", "_law_pool_here", "_law_web_here", "_law_kept", "_law_size", "_law_way_here", "_law_due", "_law_found", "_law_some", "_law_room"] ["_law_script"] (defScope s_law) := ⟨rfl, rfl, rfl, by decide +kernel, rfl, by decide +kernel, by decide +kernel⟩
section
variable {P : Program} {w : World} {K : PySem.W.Frag} {mg : Str → Option Value} {base : Heap}
theorem ok_law {TL : List (Addr × Str)} {f : Addr} {fd : FuncData} (F : Fun K "law" "law" s_law f fd) (B : Bt mg) (CA : Calls P w K mg base TL) : FnG P w K mg base CX0 10 f fd ["_law_script"] (spLaw K TL) := by
  obtain ⟨c_pool, c_take, c_web, c_web_rooms, c_way, c_lstands, c_stands⟩ := CA
  refine fnG_fun F sc_law (fun vs H Q E h => ?_) (fun cdv A outer s H vs Q E hg hr h => ?_)
  · obtain ⟨a, ns, rfl, _⟩ := h
    rfl
  · obtain ⟨a, ns, rfl, hS, hlen, hT, q⟩ := h
    refine ⟨_, (pss_cons (ps_for PassesOwn.never rfl (pi_range1 (by rfl) B.range (pa_cons (pe_callB (call_max2 rfl) (by rfl) B.max (by decide +kernel) (pa_cons pe_int (pa_cons (pe_callB (call_min2 rfl) (by rfl) B.min (by decide +kernel) (pa_cons (pe_callB call_len_seq (by rfl) B.len PySem.boot_len (pa_cons (pv 0) pa_nil)) (pa_cons pe_int pa_nil))) pa_nil))) pa_nil)) (pg_name (i := 1) sc_law.nd rfl (Or.inl rfl)) (pss_cons (ps_set (i := 2) sc_law.nd rfl (Or.inl rfl) (pe_own c_pool hr (by decide) (by rfl) (pa_cons (pv 0) (pa_cons (pv 1) pa_nil))))
      (pss_cons (ps_set (i := 3) sc_law.nd rfl (Or.inl rfl) (pe_own c_web hr (by decide) (by rfl) (pa_cons (pv 2) (pa_cons pe_int (pa_cons pe_int pa_nil)))))
      (pss_cons (ps_set (i := 4) sc_law.nd rfl (Or.inl rfl) (pe_callB (call_reprD hg hr.units) (by rfl) B.repr (by decide +kernel) (pa_cons (pv 3) pa_nil)))
      (pss_cons (ps_asg (pe_own c_way hr (by decide) (by rfl) (pa_cons (pv 2) (pa_cons (pe_callB call_len_seq (by rfl) B.len PySem.boot_len (pa_cons (pe_own c_web_rooms hr (by decide) (by rfl) (pa_cons (pv 3) pa_nil)) pa_nil)) pa_nil))) (pg_tup (by rfl) (pgs_cons (pg_name (i := 5) sc_law.nd rfl (Or.inl rfl)) (pgs_cons (pg_name (i := 6) sc_law.nd rfl (Or.inl rfl)) pgs_nil))))
      (pss_cons (ps_set (i := 7) sc_law.nd rfl (Or.inl rfl) (pe_own c_lstands hr (by decide) (by rfl) (pa_cons (pv 3) (pa_cons (pv 5) (pa_cons (pv 6) pa_nil)))))
      (pss_cons (ps_set (i := 8) sc_law.nd rfl (Or.inl rfl) (pe_ownD 2 c_stands hr (by decide) (by rfl) (by decide) (pa_cons (pv 3) (pa_cons (pv 5) (pa_cons (pv 6) pa_nil)))))
      (pss_cons (ps_if (PW.pt (pw_or (pt_not (pt_val (pe_callB call_isi (by rfl) B.isinstance (by decide +kernel) (pa_cons (pv 8) (pa_cons (pe_bltn (v := .ty "list") (u := .type "list") (by rfl) B.list (by decide +kernel) rfl) pa_nil))))) (pw_or (pt_cmpR op_ne (pe_callB (call_reprD hg hr.units) (by rfl) B.repr (by decide +kernel) (pa_cons (pv 8) pa_nil)) (pe_callB (call_reprD hg hr.units) (by rfl) B.repr (by decide +kernel) (pa_cons (pv 7) pa_nil)) (nomark _)) (pw_or1 (pt_cmpR op_ne (pe_callB (call_reprD hg hr.units) (by rfl) B.repr (by decide +kernel) (pa_cons (pv 3) pa_nil)) (pv 4) (nomark _)))))) (pss_one (ps_ret pe_bl)) pss_nil)
      (pss_cons (ps_for PassesOwn.never rfl (pi_list (pv 8)) (pg_name (i := 9) sc_law.nd rfl (Or.inl rfl)) (pss_one (ps_expr (pe_bm PySem.F.plainAttrs_list PySem.F.slot_list_append PySem.F.type_list_append mt_append (pv 9) (pa_cons pe_non pa_nil)))))
      (pss_cons (ps_if (pt_cmpR (op_neD hr.units) (pe_lc (own := [("_law_some", 9)]) (g := (gName 9)) (tt := tYes) (te := (tCB (rLenK K) (tCons (tVar 9) tNil))) (by rfl) sc_law.nd (pi_list (pv 8)) (blkOk_by (own := [("_law_some", 9)]) (N := ["_law_script", "_law_k", "_law_pool_here", "_law_web_here", "_law_kept", "_law_size", "_law_way_here", "_law_due", "_law_found", "_law_some", "_law_room"]) (sc := defScope s_law) (by decide +kernel)) (fun _ _ _ _ _ => (pg_name (i := 9) sc_law.nd rfl (Or.inl rfl))) (fun _ _ _ _ _ => pts_nil) (fun _ _ _ _ _ => (pe_callB call_len_seq (by rfl) B.len PySem.boot_len (pa_cons (pv 9) pa_nil)))) (pe_lc (own := [("_law_some", 9)]) (g := (gName 9)) (tt := tYes) (te := (tOp (rI0 fun i j => .int (i + j)) (tCB (rLenK K) (tCons (tVar 9) tNil)) (tC (.int 1)))) (by rfl) sc_law.nd (pi_list (pv 7)) (blkOk_by (own := [("_law_some", 9)]) (N := ["_law_script", "_law_k", "_law_pool_here", "_law_web_here", "_law_kept", "_law_size", "_law_way_here", "_law_due", "_law_found", "_law_some", "_law_room"]) (sc := defScope s_law) (by decide +kernel)) (fun _ _ _ _ _ => (pg_name (i := 9) sc_law.nd rfl (Or.inl rfl))) (fun _ _ _ _ _ => pts_nil) (fun _ _ _ _ _ => (pe_op op_add (pe_callB call_len_seq (by rfl) B.len PySem.boot_len (pa_cons (pv 9) pa_nil)) pe_int))) (nomark _)) (pss_one (ps_ret pe_bl)) pss_nil)
      (pss_cons (ps_expr (pe_bm0 PySem.F.plainAttrs_list PySem.F.slot_list_clear PySem.F.type_list_clear mt_clear (pv 8)))
      (pss_cons (ps_if (pt_cmpR (op_neD hr.units) (pe_ownD 2 c_stands hr (by decide) (by rfl) (by decide) (pa_cons (pv 3) (pa_cons (pv 5) (pa_cons (pv 6) pa_nil)))) (pv 7) (nomark _)) (pss_one (ps_ret pe_bl)) pss_nil)
      (pss_one (ps_if (PW.pt (pw_and (pt_cmpR op_lt (pe_callB call_len_seq (by rfl) B.len PySem.boot_len (pa_cons (pe_own c_web_rooms hr (by decide) (by rfl) (pa_cons (pv 3) pa_nil)) pa_nil)) pe_int (nomark _)) (pw_and1 (pt_cmpR (op_neD hr.units) (pe_ownD 0 c_stands hr (by decide) (by rfl) (by decide) (pa_cons (pv 3) pa_nil)) (pe_own c_lstands hr (by decide) (by rfl) (pa_cons (pv 3) (pa_cons pe_int (pa_cons pe_str pa_nil)))) (nomark _))))) (pss_one (ps_ret pe_bl)) pss_nil))))))))))))))
      (pss_cons (ps_set (i := 10) sc_law.nd rfl (Or.inl rfl) (pe_own c_take hr (by decide) (by rfl) (pa_cons (pe_own c_pool hr (by decide) (by rfl) (pa_cons (pv 0) (pa_cons pe_int pa_nil))) (pa_cons pe_int pa_nil))))
      (pss_cons (ps_set (i := 3) sc_law.nd rfl (Or.inl rfl) (pe_lst (pa_cons (pe_tupF (pa_cons (pe_tupF (pa_cons (pv 10) pa_nil)) (pa_cons (pe_tupF (pa_cons pe_int pa_nil)) pa_nil))) (pa_cons (pe_tupF (pa_cons (pe_tupF pa_nil) (pa_cons (pe_tupF (pa_cons pe_int pa_nil)) pa_nil))) pa_nil))))
      (pss_one (ps_ret (pe_cmpR (op_eqD hr.units) (pe_ownD 2 c_stands hr (by decide) (by rfl) (by decide) (pa_cons (pv 3) (pa_cons pe_int (pa_cons pe_str pa_nil)))) (pe_own c_lstands hr (by decide) (by rfl) (pa_cons (pv 3) (pa_cons pe_int (pa_cons pe_str pa_nil)))) (nomark _))))))), ?_⟩
    obtain ⟨m, hm, hm2⟩ : ∃ m : Nat, (if (if (3 : Int) < ((ns.map V.int).length : Int) then 3 else ((ns.map V.int).length : Int)) > 1 then (if (3 : Int) < ((ns.map V.int).length : Int) then 3 else ((ns.map V.int).length : Int)) else 1) = (m : Int) ∧ m ≤ 3 := by
      rw [List.length_map]
      refine ⟨(if (if (3 : Int) < (ns.length : Int) then 3 else (ns.length : Int)) > 1 then (if (3 : Int) < (ns.length : Int) then 3 else (ns.length : Int)) else 1).toNat, ?_, ?_⟩
      all_goals
        by_cases e1 : (3 : Int) < (ns.length : Int)
        · simp only [e1, if_true]
          decide
        · simp only [e1, if_false]
          split <;> omega
    refine ⟨_, rfl, a, _, rfl, .inl hS, _, _, rfl, _, _, rfl, ?_⟩
    refine ⟨(m : Int), congrArg (fun z => [V.int z]) hm, by omega, by omega, ?_⟩
    rw [show ((m : Int)).toNat = m by omega]
    refine for_range (lo := 0) (n := m) (fun i σ H2 => ∃ y1 y2 y3 y4 y5 y6 y7 y8 y9 : Option V, σ = [some (.ref a), y1, y2, y3, y4, y5, y6, y7, y8, y9, none] ∧ SqL K H2 a (ns.map V.int) ∧ Tabs TL H2) ?_ ?_ ?_
    · exact ⟨none, none, none, none, none, none, none, none, none, rfl, hS, hT⟩
    · rintro i σ Hs hi ⟨y1, y2, y3, y4, y5, y6, y7, y8, y9, rfl, hSs, hTs⟩
      refine ⟨_, rfl, _, rfl, a, ns, _, rfl, hSs, by omega, by omega, fun p H1 s1 np hp1 => ?_⟩
      have ek : ∀ {Hx Hy : Hp}, ExtN Hs Hx → Kept p Hx Hy → ExtN Hs Hy := fun e k c o ec n => k _ _ (e _ _ ec n) (ne_of_none ec np)
      refine ⟨_, rfl, p, 5, 4, rfl, hp1, by decide, by decide, by decide, by decide, fun W H3 rs nW k3 hp3 hW okA hmr hSA => ?_⟩
      have eWp : W ≠ p := pool_ne hp1 nW
      have l5 : rs.length ≤ 5 := by omega
      have T3 := k3.tabs hp1 (hTs.ext fun b o e => s1 _ _ e)
      have E3 := ek (ExtN.of s1) k3
      clear nW k3 hp1 s1 hmr hTs hT hS H1
      refine ⟨_, rfl, W, webD rs, 3, 300000, rfl, hW.dp, okA.fine, by decide, by decide, ?_⟩
      refine ⟨_, rfl, _, rfl, W, rs, rfl, hW, okA, fun ms u1 H4 pw mem s4 nu1 hu1 => ?_⟩
      have ems := rooms_is pw mem
      subst ems
      have m4 : (roomsR rs).length ≤ 4 := by
        obtain ⟨S, hS4, hin⟩ := hSA
        have := nodup_few (S := S) ((rooms_pw rs).imp fun h => Int.ne_of_lt h) fun k hk => hin k (rooms_mem.mp hk)
        omega
      refine ⟨u1, _, rfl, .inl (SqL.of hu1), ?_⟩
      rw [List.length_map]
      refine ⟨p, (roomsR rs).length, rfl, hp3.same s4, m4, fun t n x H5 k5 hp5 pt kd sm => ?_⟩
      have E5 := ek (E3.trans (ExtN.of s4)) k5
      have T5 := k5.tabs (hp3.same s4) (T3.ext fun b o e => s4 _ _ e)
      have hW5 : WebAt H5 W rs := by
        obtain ⟨ws, e, r⟩ := hW.same s4
        exact ⟨ws, k5 _ _ e eWp, r.keep (K2.of k5 (hp3.same s4))⟩
      clear k5 s4 hu1 nu1 pw mem T3 E3 hp3 hp5 ek np hW
      have few168 : cntS n (roomsR rs).length * 2 ^ (bitsN n x).toNat ≤ 168 := sm
      have fw : fewL rs n x := by
        have := Nat.mul_le_mul l5 few168
        show rs.length * (cntS n (roomsR rs).length * 2 ^ (bitsN n x).toNat) ≤ 20000
        omega
      have li := layIn_of okA kd fw
      have mle : (1001 * (cntS n (roomsR rs).length * 2 ^ (bitsN n x).toNat) + 1) * rs.length ≤ 1000000 := by
        have := Nat.mul_le_mul (show 1001 * (cntS n (roomsR rs).length * 2 ^ (bitsN n x).toNat) + 1 ≤ 168169 by omega) l5
        omega
      refine ⟨t, _, rfl, pt.sq, rfl, _, _, rfl, _, _, rfl, rfl, ?_⟩
      refine ⟨_, rfl, _, rfl, _, rfl, W, rs, n, x, rfl, hW5, li, fun u us cs H6 s6 nu hu came ht => ?_⟩
      have E6 := E5.trans (ExtN.of s6)
      have T6 : Tabs TL H6 := T5.ext fun b o e => s6 _ _ e
      have hW6 := hW5.same s6
      have f1 := tab_fine li came
      clear s6 nu E5 T5 hW5 pt
      refine ⟨_, rfl, _, rfl, _, rfl, W, rs, n, x, rfl, hW6, okA, kd, fw, T6, fun cs2 v vs2 H7 e7 T7 nv came2 hv ht2 hnr => ?_⟩
      have etab : tabD cs2 rs.length = tabD cs rs.length := by
        unfold tabD
        rw [came_tab came2 came]
      have hu7 := e7 _ _ hu (fun _ z => nomatch z)
      have ht7 := ht.ext e7
      have d2 : Dp K H7 (.ref v) (tabD cs rs.length) := by
        rw [← etab]
        exact ht2.dp hv
      apply mid (M := fun σ H8 => σ = [some (.ref a), some (.int (0 + (i : Int))), some (.ref p), some (.ref W), some (.str (webD rs).shown), some (.int n), some (.str x), some (.ref u), some (.ref v), y9, none] ∧ H7 = H8)
      case h =>
        intro rest
        refine ⟨_, rfl, .ref v, .ty "list", _, _, _, rfl, .ty "list", .base (.lst hv), kit_list (.lst []), _, rfl, iteF ?_⟩
        refine ⟨_, rfl, v, _, _, _, rfl, d2, f1, by decide, mle, _, rfl, u, _, _, _, rfl, ht7.dp hu7, f1, by decide, mle, rfl, _, rfl, iteB (fun z => absurd z neF) (fun _ => ?_)⟩
        refine ⟨_, rfl, W, webD rs, 3, 300000, rfl, (hW6.ext e7).dp, okA.fine, by decide, by decide, _, rfl, rfl, _, rfl, iteB (fun z => absurd z neF) (fun _ => ?_)⟩
        exact rest _ _ ⟨rfl, rfl⟩
      case hR =>
        rintro _ _ ⟨rfl, rfl⟩
        obtain ⟨js, rfl, jnd, vj, hj⟩ := hnr
        have hl7 : ∀ b ∈ js, ∃ ws, H7 b = some (.lst ws) := fun b hb => by
          obtain ⟨k, hk⟩ := List.mem_iff_getElem?.mp hb
          obtain ⟨b', ws, e, h1, _⟩ := ht2.2 k (.ref b) (by rw [List.getElem?_map, hk]; rfl)
          cases e
          exact ⟨ws, h1⟩
        have len7 : ∀ k b ws, js[k]? = some b → H7 b = some (.lst ws) → ws.length = (sortL ((rowE cs2 k).map unlay)).length ∧ ws.length ≤ 168 := fun k b ws hk hb => by
          obtain ⟨b', ws', e, h1, h2⟩ := ht2.2 k (.ref b) (by rw [List.getElem?_map, hk]; rfl)
          cases e
          rw [hb] at h1
          cases h1
          have l1 := h2.len
          rw [List.length_map] at l1
          refine ⟨l1, ?_⟩
          rw [l1]
          refine Nat.le_trans ?_ few168
          rw [← lays_len li.nm li.nd]
          exact (came_nodup came2 k).length_le_of_subset fun p hp => came_lays came2 hp
        have jl : js.length = rs.length := by
          have := ht2.1
          rwa [List.length_map] at this
        refine ⟨_, rfl, v, rfl, ⟨_, SqL.of hv⟩, ?_⟩
        refine for_list (K := K) (a := v) (xs := js.map V.ref) (fun j σ H8 => ∃ y9 : Option V, σ = [some (.ref a), some (.int (0 + (i : Int))), some (.ref p), some (.ref W), some (.str (webD rs).shown), some (.int n), some (.str x), some (.ref u), some (.ref v), y9, none] ∧ FrL js H7 H8 ∧
          ∀ k b ws, js[k]? = some b → H7 b = some (.lst ws) → H8 b = some (.lst (if k < j then ws ++ [V.non] else ws))) ?_ ?_ ?_ ?_
        · exact ⟨y9, rfl, FrL.refl _ _, fun k b ws hk hb => by rw [if_neg (Nat.not_lt_zero k)]; exact hb⟩
        · rintro j σ H8 _ ⟨_, _, fr, _⟩
          exact SqL.of (fr _ _ hv vj)
        · rintro j w0 σ H8 hw ⟨y9', rfl, fr, hall⟩
          rw [List.getElem?_map] at hw
          obtain ⟨b, eb, rfl⟩ := Option.map_eq_some_iff.mp hw
          have bm := List.mem_of_getElem? eb
          obtain ⟨ws, hb7⟩ := hl7 b bm
          have hb8 := hall j b ws eb hb7
          rw [if_neg (Nat.lt_irrefl j)] at hb8
          have lw := (len7 j b ws eb hb7).2
          refine ⟨_, rfl, .inl ⟨rfl, _, SqL.of hb8⟩, b, _, _, rfl, rfl, hb8, small1000 (by omega), ?_⟩
          refine ⟨_, rfl, fr.upd bm _, fun k b' ws' hk hb' => ?_⟩
          by_cases c : b' = b
          · subst c
            have ek : k = j := (List.getElem?_inj (List.getElem?_eq_some_iff.mp hk).1 jnd).mp (hk.trans eb.symm)
            subst ek
            rw [hb7] at hb'
            cases hb'
            rw [if_pos (Nat.lt_succ_self k)]
            exact upd_same
          · have nk : k ≠ j := fun z => c (by rw [z, eb] at hk; cases hk; rfl)
            rw [upd_ne c, hall k b' ws' hk hb']
            by_cases lt : k < j
            · rw [if_pos lt, if_pos (by omega)]
            · rw [if_neg lt, if_neg (by omega)]
        rintro σ H8 ⟨y9', rfl, fr8, hall⟩
        rw [List.length_map] at hall
        have hall : ∀ k b ws, js[k]? = some b → H7 b = some (.lst ws) → H8 b = some (.lst (ws ++ [V.non])) := fun k b ws hk hb => by
          have z := hall k b ws hk hb
          rw [if_pos (List.getElem?_eq_some_iff.mp hk).1] at z
          exact z
        have hv8 := fr8 _ _ hv vj
        have T8 := fr8.tabs hl7 T7
        have E68 : ExtN H6 H8 := fun c o ec nt => fr8 _ _ (e7 _ _ ec nt) fun z => by
          obtain ⟨ps, e⟩ := hj c z o ec
          exact nt ps e
        have hu8 := E68 _ _ hu (fun _ z => nomatch z)
        have ht8 := ht.ext E68
        -- the lengths
        have lens2 : ∀ k b, js[k]? = some b → ∃ ws, H8 b = some (.lst ws) ∧ (ws.length : Int) = ((sortL ((rowE cs k).map unlay)).length : Int) + 1 := fun k b hk => by
          obtain ⟨ws, hb⟩ := hl7 b (List.mem_of_getElem? hk)
          refine ⟨_, hall k b ws hk hb, ?_⟩
          rw [List.length_append, (len7 k b ws hk hb).1, came_sort came2 came k]
          rfl
        refine ⟨_, rfl, v, rfl, ⟨_, SqL.of hv8⟩, fun D nD => ?_⟩
        refine lc_list (K := K) (a := v) (xs := js.map V.ref) (fun j H9 => Same H8 H9 ∧ H9 D = some (.lst (((List.range j).map fun k => ((sortL ((rowE cs k).map unlay)).length : Int) + 1).map V.int))) ?_ ?_ ?_ ?_
        · exact ⟨same_upd nD, upd_same⟩
        · rintro j H9 _ ⟨s9, _⟩
          exact SqL.of (s9 _ _ hv8)
        · rintro j w0 H9 hw ⟨s9, hD9⟩
          rw [List.getElem?_map] at hw
          obtain ⟨b, eb, rfl⟩ := Option.map_eq_some_iff.mp hw
          obtain ⟨ws, hb, el⟩ := lens2 j b eb
          have jlt := (List.getElem?_eq_some_iff.mp eb).1
          refine ⟨rfl, tyes ?_⟩
          refine ⟨_, rfl, b, ws, rfl, .inl (SqL.of (s9 _ _ hb)), ?_⟩
          refine ⟨_, hD9, ?_, fun c o ec => ?_, ?_⟩
          · rw [List.length_map, List.length_map, List.length_range]
            exact small1000 (by omega)
          · rw [upd_ne (ne_of_none ec nD)]
            exact s9 _ _ ec
          · rw [upd_same, List.range_succ, List.map_append, List.map_append]
            show some (HO.lst (_ ++ [V.int (ws.length : Nat)])) = _
            rw [el]
            rfl
        rintro H9 ⟨s9, hD9⟩
        rw [List.length_map, jl] at hD9
        have hu9 := s9 _ _ hu8
        have ht9 := ht8.ext (ExtN.of s9)
        refine ⟨_, rfl, u, rfl, ⟨_, SqL.of hu9⟩, fun D2 nD2 => ?_⟩
        refine lc_list (K := K) (a := u) (xs := us) (fun j H10 => Same H9 H10 ∧ H10 D2 = some (.lst (((List.range j).map fun k => ((sortL ((rowE cs k).map unlay)).length : Int) + 1).map V.int))) ?_ ?_ ?_ ?_
        · exact ⟨same_upd nD2, upd_same⟩
        · rintro j H10 _ ⟨s10, _⟩
          exact SqL.of (s10 _ _ hu9)
        · rintro j w0 H10 hw ⟨s10, hD10⟩
          obtain ⟨b, ws, rfl, hb, hsv⟩ := ht9.2 j w0 hw
          have el := hsv.len
          rw [List.length_map] at el
          have jlt := (List.getElem?_eq_some_iff.mp hw).1
          have ul := ht9.1
          refine ⟨rfl, tyes ?_⟩
          refine ⟨_, rfl, b, ws, rfl, .inl (SqL.of (s10 _ _ hb)), _, _, rfl, rfl, ?_⟩
          refine ⟨_, hD10, ?_, fun c o ec => ?_, ?_⟩
          · rw [List.length_map, List.length_map, List.length_range]
            exact small1000 (by omega)
          · rw [upd_ne (ne_of_none ec nD2)]
            exact s10 _ _ ec
          · rw [upd_same, List.range_succ, List.map_append, List.map_append]
            show some (HO.lst (_ ++ [V.int ((ws.length : Int) + 1)])) = _
            rw [el]
            rfl
        rintro H10 ⟨s10, hD10⟩
        rw [ht9.1] at hD10
        have fl := Fine.list (FineL.ints ((List.range rs.length).map fun k => ((sortL ((rowE cs k).map unlay)).length : Int) + 1) fun z hz => by
          obtain ⟨k, _, rfl⟩ := List.mem_map.mp hz
          have : (sortL ((rowE cs k).map unlay)).length ≤ 168 := by
            refine Nat.le_trans ?_ few168
            rw [← lays_len li.nm li.nd]
            exact (came_nodup came k).length_le_of_subset fun p hp => came_lays came hp
          omega)
        refine ⟨_, _, .lst (SqL.of (s10 _ _ hD9)) (dp_intsS _), .lst (SqL.of hD10) (dp_intsS _), fl.shaped (by decide), fl.shaped (by decide), _, rfl, ?_⟩
        rw [fl.eqv]
        refine iteF ?_
        have hv10 := s10 _ _ (s9 _ _ hv8)
        refine ⟨_, rfl, .inl ⟨rfl, _, SqL.of hv10⟩, v, _, rfl, rfl, hv10, ?_⟩
        have E610 : ExtN H6 (upd H10 v (.lst [])) := fun c o ec nt => by
          rw [upd_ne (nv.ne ec nt)]
          exact s10 _ _ (s9 _ _ (E68 _ _ ec nt))
        have T10 : Tabs TL (upd H10 v (.lst [])) := FrL.tabs (ins := [v]) ((FrL.refl _ _).upd (List.mem_singleton.mpr rfl) _) (fun x hx => by
          rw [List.mem_singleton.mp hx]
          exact ⟨_, hv10⟩) (T8.ext fun b o e => s10 _ _ (s9 _ _ e))
        generalize upd H10 v (.lst []) = H11 at E610 T10 ⊢
        clear hv10 hD10 s10 hD9 s9 hu9 ht9 hu8 ht8 E68 T8 hv8 hall fr8 lens2 len7 hl7 hv hj vj jnd T7 e7 ht2 d2 hu7 ht7 nv etab
        have hW11 := hW6.ext E610
        have hu11 := E610 _ _ hu (fun _ z => nomatch z)
        have ht11 := ht.ext E610
        refine ⟨_, rfl, _, rfl, _, rfl, W, rs, n, x, rfl, hW11, okA, kd, fw, T10, fun cs3 v3 vs3 H12 e12 T12 nv3 came3 hv3 ht3 _ => ?_⟩
        have etab3 : tabD cs3 rs.length = tabD cs rs.length := by
          unfold tabD
          rw [came_tab came3 came]
        have d3 : Dp K H12 (.ref v3) (tabD cs rs.length) := by
          rw [← etab3]
          exact ht3.dp hv3
        refine ⟨_, rfl, _, _, d3, (ht11.ext e12).dp (e12 _ _ hu11 (fun _ z => nomatch z)), f1.shaped (by decide), f1.shaped (by decide), _, rfl, ?_⟩
        rw [f1.eqv]
        refine iteF ?_
        have E12 := E610.trans e12
        have hW12 := hW6.ext E12
        refine ⟨_, rfl, W, rs, rfl, hW12, okA, fun ms2 u2 H13 pw2 mem2 s13 nu2 hu2 => ?_⟩
        have ems2 := rooms_is pw2 mem2
        subst ems2
        have E13 := E12.trans (ExtN.of s13)
        have T13 : Tabs TL H13 := T12.ext fun b o e => s13 _ _ e
        have endI : ∀ (H14 : Hp) (σ : L2.St), ExtN H6 H14 → Tabs TL H14 → (∃ y1 y2 y3 y4 y5 y6 y7 y8 y9, σ = [some (.ref a), y1, y2, y3, y4, y5, y6, y7, y8, y9, none]) → ∃ y1 y2 y3 y4 y5 y6 y7 y8 y9 : Option V, σ = [some (.ref a), y1, y2, y3, y4, y5, y6, y7, y8, y9, none] ∧ SqL K H14 a (ns.map V.int) ∧ Tabs TL H14 := fun H14 σ e14 t14 hσ => by
          obtain ⟨z1, z2, z3, z4, z5, z6, z7, z8, z9, e⟩ := hσ
          exact ⟨z1, z2, z3, z4, z5, z6, z7, z8, z9, e, seqN hSs fun o ho n => e14 _ _ (E6 _ _ ho n) n, t14⟩
        refine ⟨u2, _, rfl, .inl (SqL.of hu2), _, _, rfl, rfl, _, rfl, iteB (fun z => ?_) (fun z => ?_)⟩
        rotate_left
        · exact iteF (endI H13 _ E13 T13 ⟨_, _, _, _, _, _, _, _, _, rfl⟩)
        have r1 : (roomsR rs).length ≤ 1 := by
          have z := of_decide_eq_true z
          rw [List.length_map] at z
          omega
        have kd4 : Kind ((4 : Nat) : Int) "last" := ⟨.inl rfl, by decide, by decide, fun e => absurd e (by decide)⟩
        have fw4 : fewL rs 4 "last" := by
          have c4 : cntS 4 (roomsR rs).length ≤ 5 := by
            have : (roomsR rs).length = 0 ∨ (roomsR rs).length = 1 := by omega
            rcases this with e | e <;> rw [e] <;> decide
          show rs.length * (cntS 4 (roomsR rs).length * 2 ^ (bitsN 4 "last").toNat) ≤ 20000
          rw [show (bitsN 4 "last").toNat = 0 from rfl, Nat.pow_zero, Nat.mul_one]
          have := Nat.mul_le_mul l5 c4
          omega
        refine ⟨_, rfl, W, rs, 4, "last", rfl, hW6.ext E13, okA, kd4, fw4, T13, fun cs4 v4 vs4 H14 e14 T14 nv4 came4 hv4 ht4 _ => ?_⟩
        have E14 := E13.trans e14
        have li4 := layIn_of okA kd4 fw4
        refine ⟨_, rfl, W, rs, 4, "last", rfl, hW6.ext E14, li4, fun v5 vs5 cs5 H15 s15 nv5 hv5 came5 ht5 => ?_⟩
        have f4 := tab_fine li4 came4
        have etab5 : tabD cs5 rs.length = tabD cs4 rs.length := by
          unfold tabD
          rw [came_tab came5 came4]
        have d4 := (ht4.ext (ExtN.of s15)).dp (K := K) (s15 _ _ hv4)
        have d5 : Dp K H15 (.ref v5) (tabD cs4 rs.length) := by
          rw [← etab5]
          exact ht5.dp hv5
        refine ⟨_, _, d4, d5, f4.shaped (by decide), f4.shaped (by decide), _, rfl, ?_⟩
        rw [f4.eqv]
        refine iteF ?_
        exact endI H15 _ (E14.trans (ExtN.of s15)) (T14.ext fun b o e => s15 _ _ e) ⟨_, _, _, _, _, _, _, _, _, rfl⟩
    · rintro σ H2 ⟨y1, y2, y3, y4, y5, y6, y7, y8, y9, rfl, hS2, hT2⟩
      refine ⟨_, rfl, a, ns, 0, rfl, hS2, by omega, by omega, fun p H3 s3 np hp3 => ?_⟩
      refine ⟨p, 100, rfl, hp3, by decide, by decide, fun k o k0 k1 po => ?_⟩
      have E4 : ExtN H2 (upd H3 p o) := fun c o' ec nt => by
        rw [upd_ne (ne_of_none ec np)]
        exact s3 _ _ ec
      have T4 : Tabs TL (upd H3 p o) := (Kept.upd p H3 o).tabs hp3 (hT2.ext fun b o e => s3 _ _ e)
      generalize upd H3 p o = H4 at E4 T4 ⊢
      clear hp3 s3 np
      refine ⟨_, rfl, (by show 1 ≤ sizeLine; decide), fun a1 H5 s5 n5 p5 => ⟨(by show 1 ≤ sizeLine; decide), fun a2 H6 s6 n6 p6 => ⟨(by show 2 ≤ sizeLine; decide), fun a3 H7 s7 n7 p7 => ⟨(by show 0 ≤ sizeLine; exact Nat.zero_le _), fun b1 H8 s8 n8 p8 => ⟨(by show 1 ≤ sizeLine; decide), fun b2 H9 s9 n9 p9 => ⟨(by show 2 ≤ sizeLine; decide), fun b3 H10 s10 n10 p10 => ⟨(by show 2 ≤ sizeLine; decide), fun W nW => ?_⟩⟩⟩⟩⟩⟩⟩
      have sW : Same H10 (upd H10 W (.lst [V.ref a3, V.ref b3])) := same_upd nW
      have hWl : (upd H10 W (.lst [V.ref a3, V.ref b3])) W = some (.lst [V.ref a3, V.ref b3]) := upd_same
      generalize upd H10 W (.lst [V.ref a3, V.ref b3]) = H11 at sW hWl ⊢
      have t10 := s10.trans sW
      have t9 := s9.trans t10
      have t8 := s8.trans t9
      have t7 := s7.trans t8
      have t6 := s6.trans t7
      have hW : WebAt H11 W [([k], [1]), ([], [0])] := ⟨_, hWl, ⟨a3, a1, a2, rfl, .inl (p7.same t8), .inl (p5.same t6), .inl (p6.same t7)⟩, ⟨b3, b1, b2, rfl, .inl (p10.same sW), .inl (p8.same t9), .inl (p9.same t10)⟩, trivial⟩
      have ok2 : WebOk [([k], [1]), ([], [0])] := by
        refine ⟨Nat.le_of_ble_eq_true rfl, Nat.le_of_ble_eq_true rfl, fun r hr => ?_, [k], Nat.le_of_ble_eq_true rfl, fun z hz => ?_⟩
        · rcases List.mem_cons.mp hr with rfl | hr
          · refine ⟨⟨List.pairwise_singleton _ _, fun z hz => ?_, fun z hz => ?_⟩, by show 1 ≤ 6; decide, ⟨List.pairwise_singleton _ _, fun z hz => ?_, fun z hz => ?_⟩⟩
            · rw [List.mem_singleton.mp hz]
              exact k0
            · rw [List.mem_singleton.mp hz]
              omega
            · rw [List.mem_singleton.mp hz]
              decide
            · rw [List.mem_singleton.mp hz]
              show (1 : Int) ≤ ((2 : Nat) : Int) - 1
              decide
          · rw [List.mem_singleton.mp hr]
            refine ⟨⟨List.Pairwise.nil, (fun z hz => nomatch hz), fun z hz => nomatch hz⟩, by show 0 ≤ 6; decide, ⟨List.pairwise_singleton _ _, fun z hz => ?_, fun z hz => ?_⟩⟩
            · rw [List.mem_singleton.mp hz]
              decide
            · rw [List.mem_singleton.mp hz]
              show (0 : Int) ≤ ((2 : Nat) : Int) - 1
              decide
        · simpa [allRooms] using hz
      have rl : (roomsR [([k], [1]), ([], [0])]).length ≤ 1 := by
        have := nodup_few (S := [k]) ((rooms_pw [([k], [1]), ([], [0])]).imp fun h => Int.ne_of_lt h) fun z hz => by
          have := rooms_mem.mp hz
          simpa [allRooms] using this
        exact this
      have kd8 : Kind ((8 : Nat) : Int) "tree" := ⟨.inr (.inr rfl), by decide, by decide, fun _ => by decide⟩
      have fw8 : fewL [([k], [1]), ([], [0])] 8 "tree" := by
        have c8 : cntS 8 (roomsR [([k], [1]), ([], [0])]).length ≤ 9 := by
          have : (roomsR [([k], [1]), ([], [0])]).length = 0 ∨ (roomsR [([k], [1]), ([], [0])]).length = 1 := by omega
          rcases this with e | e <;> rw [e] <;> decide
        show 2 * (cntS 8 (roomsR [([k], [1]), ([], [0])]).length * 2 ^ (bitsN 8 "tree").toNat) ≤ 20000
        rw [show (bitsN 8 "tree").toNat = 7 from rfl]
        have := Nat.mul_le_mul_right (2 ^ 7) c8
        omega
      have li8 := layIn_of ok2 kd8 fw8
      have E11 : ExtN H2 H11 := E4.trans (ExtN.of (s5.trans t6))
      have T11 : Tabs TL H11 := T4.ext fun b o e => (s5.trans t6) _ _ e
      refine ⟨_, rfl, W, _, 8, "tree", rfl, hW, ok2, kd8, fw8, T11, fun cs1 v1 vs1 H12 e12 T12 nv1 came1 hv1 ht1 _ => ?_⟩
      refine ⟨_, rfl, W, _, 8, "tree", rfl, hW.ext e12, li8, fun v2 vs2 cs2 H13 s13 nv2 hv2 came2 ht2 => ?_⟩
      have f1 : Fine (tabD cs1 2) 4 _ := tab_fine li8 came1
      have etab : tabD cs2 2 = tabD cs1 2 := by
        unfold tabD
        rw [came_tab came2 came1]
      have d1 : Dp K H13 (.ref v1) (tabD cs1 2) := (ht1.ext (ExtN.of s13)).dp (K := K) (s13 _ _ hv1)
      have d2 : Dp K H13 (.ref v2) (tabD cs1 2) := by
        rw [← etab]
        exact ht2.dp hv2
      refine ⟨_, _, d1, d2, f1.shaped (by decide), f1.shaped (by decide), ?_⟩
      rw [f1.eqv]
      exact q _
end
end Su
namespace Su
open PySem PySem.Spec PyProof.Rows L2
open LamX hiding takes0
theorem at_mk {K : PySem.W.Frag} {h : Heap} {mg : Str → Option Value} {x : Str} {st : Stmt} {f : Addr} {fd : FuncData} {ps : List Str} (X : K.In h) (G : h.Ns mainGlobals mg) (a : PySem.W.nsIn K mainGlobals x = some (some (.ref f))) (F : Fun K x x st f fd) (b : Binds K fd ps []) : At K mg x st ps :=
  ⟨f, fd, F, PySem.W.mg_of X G a, b⟩
theorem all_mk {l : PySem.W.OpenLaw} {w : World} {K : PySem.W.Frag} {h : Heap} {mg : Str → Option Value} {fa f1 f2 f3 f4 f5 f6 f7 f8 f9 f10 f11 f12 f13 f14 f15 f16 f17 f18 f19 f20 f21 f22 f23 f24 f25 f26 f27 f28 f29 f30 f31 f32 f33 f34 f35 f36 f37 f38 f39 : Addr} {g1 g2 g3 g4 g5 g6 : Tok} {C4 : Addr} {cdC4 : ClassData} {aW aZ : Addr} {u1 u2 u3 u4 u5 u6 u7 : Tok} {dW dZ : Option Addr} {nW nZ : Nat} {slW slZ : Array (Option Value)} {ctT ptT : Addr} {eT : Value} {ddT : Option Addr} {vsT : Array Value} {slT : Array (Option Value)} {qq : Program} {dq : DefRec} {aD18 : Addr} {dD18 : Option Addr} {nD18 : Nat} {sD18 : Array (Option Value)} {aD26 : Addr} {dD26 : Option Addr} {nD26 : Nat} {sD26 : Array (Option Value)} {tk26_0 tk26_1 : Tok} (X : K.In h) (G : h.Ns mainGlobals mg) (hfa : mg "law" = some (.ref fa)) (tt : ∀ (y : Str) (dr : DefRec) (c P : Addr), (recsOf qq).find? (fun e => e.name == y) = some dr → PySem.W.tabIn K y = some (c, P) → PySem.W.CodeHd h c P ∧ h.get? P = some tab0)
    {od1 an1 od2 an2 od3 an3 od4 an4 od5 an5 od6 an6 od7 an7 od8 an8 od9 an9 od10 an10 od11 an11 od12 an12 od13 an13 od14 an14 od15 an15 od16 an16 od17 an17 od18 an18 od19 an19 od20 an20 od21 an21 od22 an22 od23 an23 od24 an24 od25 an25 od26 an26 od27 an27 od28 an28 od29 an29 od30 an30 od31 an31 od32 an32 od33 an33 od34 an34 od35 an35 od36 an36 od37 an37 od38 an38 od39 an39 : Option Addr} {sl1 sl2 sl3 sl4 sl5 sl6 sl7 sl8 sl9 sl10 sl11 sl12 sl13 sl14 sl15 sl16 sl17 sl18 sl19 sl20 sl21 sl22 sl23 sl24 sl25 sl26 sl27 sl28 sl29 sl30 sl31 sl32 sl33 sl34 sl35 sl36 sl37 sl38 sl39 : Array (Option Value)} {oc1 kV1 dc1 pm1 cd1 ct1 oc2 kV2 dc2 pm2 cd2 ct2 oc3 kV3 dc3 pm3 cd3 ct3 oc4 kV4 dc4 pm4 cd4 ct4 oc5 kV5 dc5 pm5 cd5 ct5 oc6 kV6 dc6 pm6 cd6 ct6 oc7 kV7 dc7 pm7 cd7 ct7 oc8 kV8 dc8 pm8 cd8 ct8 oc9 kV9 dc9 pm9 cd9 ct9 oc10 kV10 dc10 pm10 cd10 ct10 oc11 kV11 dc11 pm11 cd11 ct11 oc12 kV12 dc12 pm12 cd12 ct12 oc13 kV13 dc13 pm13 cd13 ct13 oc14 kV14 dc14 pm14 cd14 ct14 oc15 kV15 dc15 pm15 cd15 ct15 oc16 kV16 dc16 pm16 cd16 ct16 oc17 kV17 dc17 pm17 cd17 ct17 oc18 kV18 dc18 pm18 cd18 ct18 oc19 kV19 dc19 pm19 cd19 ct19 oc20 kV20 dc20 pm20 cd20 ct20 oc21 kV21 dc21 pm21 cd21 ct21 oc22 kV22 dc22 pm22 cd22 ct22 oc23 kV23 dc23 pm23 cd23 ct23 oc24 kV24 dc24 pm24 ct24 oc25 kV25 dc25 pm25 cd25 ct25 oc26 kV26 dc26 pm26 cd26 ct26 oc27 kV27 dc27 pm27 cd27 ct27 oc28 kV28 dc28 pm28 cd28 ct28 oc29 kV29 dc29 pm29 cd29 ct29 oc30 kV30 dc30 pm30 cd30 ct30 oc31 kV31 dc31 pm31 cd31 ct31 oc32 kV32 dc32 pm32 cd32 ct32 oc33 kV33 dc33 pm33 cd33 ct33 oc34 kV34 dc34 pm34 cd34 ct34 oc35 kV35 dc35 pm35 cd35 ct35 oc36 kV36 dc36 pm36 cd36 ct36 oc37 kV37 dc37 pm37 cd37 ct37 oc38 kV38 dc38 pm38 cd38 ct38 oc39 kV39 dc39 pm39 cd39 ct39 : Value}
    (a1 : PySem.W.nsIn K mainGlobals "is_whole" = some (some (.ref f1))) (l1 : K.lookup f1 = some ⟨oc1, od1, .func (PySem.W.fnOf "is_whole" "is_whole" (defArgs s_is_whole) (defBody s_is_whole) (defScope s_is_whole) .none kV1 dc1 pm1 an1 cd1 ct1), sl1⟩) (c1 : PySem.W.codeIn K cd1 "is_whole" = true) (k1 : PySem.W.keepIn K (.ref f1) = true)
    (a2 : PySem.W.nsIn K mainGlobals "is_room" = some (some (.ref f2))) (l2 : K.lookup f2 = some ⟨oc2, od2, .func (PySem.W.fnOf "is_room" "is_room" (defArgs s_is_room) (defBody s_is_room) (defScope s_is_room) .none kV2 dc2 pm2 an2 cd2 ct2), sl2⟩) (c2 : PySem.W.codeIn K cd2 "is_room" = true) (k2 : PySem.W.keepIn K (.ref f2) = true)
    (a3 : PySem.W.nsIn K mainGlobals "are_rising" = some (some (.ref f3))) (l3 : K.lookup f3 = some ⟨oc3, od3, .func (PySem.W.fnOf "are_rising" "are_rising" (defArgs s_are_rising) (defBody s_are_rising) (defScope s_are_rising) .none kV3 dc3 pm3 an3 cd3 ct3), sl3⟩) (c3 : PySem.W.codeIn K cd3 "are_rising" = true) (k3 : PySem.W.keepIn K (.ref f3) = true)
    (a4 : PySem.W.nsIn K mainGlobals "are_rooms" = some (some (.ref f4))) (l4 : K.lookup f4 = some ⟨oc4, od4, .func (PySem.W.fnOf "are_rooms" "are_rooms" (defArgs s_are_rooms) (defBody s_are_rooms) (defScope s_are_rooms) .none kV4 dc4 pm4 an4 cd4 ct4), sl4⟩) (c4 : PySem.W.codeIn K cd4 "are_rooms" = true) (k4 : PySem.W.keepIn K (.ref f4) = true)
    (a5 : PySem.W.nsIn K mainGlobals "is_way" = some (some (.ref f5))) (l5 : K.lookup f5 = some ⟨oc5, od5, .func (PySem.W.fnOf "is_way" "is_way" (defArgs s_is_way) (defBody s_is_way) (defScope s_is_way) .none kV5 dc5 pm5 an5 cd5 ct5), sl5⟩) (c5 : PySem.W.codeIn K cd5 "is_way" = true) (k5 : PySem.W.keepIn K (.ref f5) = true)
    (a6 : PySem.W.nsIn K mainGlobals "is_size" = some (some (.ref f6))) (l6 : K.lookup f6 = some ⟨oc6, od6, .func (PySem.W.fnOf "is_size" "is_size" (defArgs s_is_size) (defBody s_is_size) (defScope s_is_size) .none kV6 dc6 pm6 an6 cd6 ct6), sl6⟩) (c6 : PySem.W.codeIn K cd6 "is_size" = true) (k6 : PySem.W.keepIn K (.ref f6) = true)
    (a7 : PySem.W.nsIn K mainGlobals "how_many_bits" = some (some (.ref f7))) (l7 : K.lookup f7 = some ⟨oc7, od7, .func (PySem.W.fnOf "how_many_bits" "how_many_bits" (defArgs s_how_many_bits) (defBody s_how_many_bits) (defScope s_how_many_bits) .none kV7 dc7 pm7 an7 cd7 ct7), sl7⟩) (c7 : PySem.W.codeIn K cd7 "how_many_bits" = true) (k7 : PySem.W.keepIn K (.ref f7) = true)
    (a8 : PySem.W.nsIn K mainGlobals "put_first" = some (some (.ref f8))) (l8 : K.lookup f8 = some ⟨oc8, od8, .func (PySem.W.fnOf "put_first" "put_first" (defArgs s_put_first) (defBody s_put_first) (defScope s_put_first) .none kV8 dc8 pm8 an8 cd8 ct8), sl8⟩) (c8 : PySem.W.codeIn K cd8 "put_first" = true) (k8 : PySem.W.keepIn K (.ref f8) = true)
    (a9 : PySem.W.nsIn K mainGlobals "slot_led_to" = some (some (.ref f9))) (l9 : K.lookup f9 = some ⟨oc9, od9, .func (PySem.W.fnOf "slot_led_to" "slot_led_to" (defArgs s_slot_led_to) (defBody s_slot_led_to) (defScope s_slot_led_to) .none kV9 dc9 pm9 an9 cd9 ct9), sl9⟩) (c9 : PySem.W.codeIn K cd9 "slot_led_to" = true) (k9 : PySem.W.keepIn K (.ref f9) = true)
    (a10 : PySem.W.nsIn K mainGlobals "led_away" = some (some (.ref f10))) (l10 : K.lookup f10 = some ⟨oc10, od10, .func (PySem.W.fnOf "led_away" "led_away" (defArgs s_led_away) (defBody s_led_away) (defScope s_led_away) .none kV10 dc10 pm10 an10 cd10 ct10), sl10⟩) (c10 : PySem.W.codeIn K cd10 "led_away" = true) (k10 : PySem.W.keepIn K (.ref f10) = true)
    (a11 : PySem.W.nsIn K mainGlobals "asked_by_tree" = some (some (.ref f11))) (l11 : K.lookup f11 = some ⟨oc11, od11, .func (PySem.W.fnOf "asked_by_tree" "asked_by_tree" (defArgs s_asked_by_tree) (defBody s_asked_by_tree) (defScope s_asked_by_tree) .none kV11 dc11 pm11 an11 cd11 ct11), sl11⟩) (c11 : PySem.W.codeIn K cd11 "asked_by_tree" = true) (k11 : PySem.W.keepIn K (.ref f11) = true)
    (a12 : PySem.W.nsIn K mainGlobals "asked" = some (some (.ref f12))) (l12 : K.lookup f12 = some ⟨oc12, od12, .func (PySem.W.fnOf "asked" "asked" (defArgs s_asked) (defBody s_asked) (defScope s_asked) .none kV12 dc12 pm12 an12 cd12 ct12), sl12⟩) (c12 : PySem.W.codeIn K cd12 "asked" = true) (k12 : PySem.W.keepIn K (.ref f12) = true)
    (a13 : PySem.W.nsIn K mainGlobals "are_tos" = some (some (.ref f13))) (l13 : K.lookup f13 = some ⟨oc13, od13, .func (PySem.W.fnOf "are_tos" "are_tos" (defArgs s_are_tos) (defBody s_are_tos) (defScope s_are_tos) .none kV13 dc13 pm13 an13 cd13 ct13), sl13⟩) (c13 : PySem.W.codeIn K cd13 "are_tos" = true) (k13 : PySem.W.keepIn K (.ref f13) = true)
    (a14 : PySem.W.nsIn K mainGlobals "is_row" = some (some (.ref f14))) (l14 : K.lookup f14 = some ⟨oc14, od14, .func (PySem.W.fnOf "is_row" "is_row" (defArgs s_is_row) (defBody s_is_row) (defScope s_is_row) .none kV14 dc14 pm14 an14 cd14 ct14), sl14⟩) (c14 : PySem.W.codeIn K cd14 "is_row" = true) (k14 : PySem.W.keepIn K (.ref f14) = true)
    (a15 : PySem.W.nsIn K mainGlobals "rooms_in" = some (some (.ref f15))) (l15 : K.lookup f15 = some ⟨oc15, od15, .func (PySem.W.fnOf "rooms_in" "rooms_in" (defArgs s_rooms_in) (defBody s_rooms_in) (defScope s_rooms_in) .none kV15 dc15 pm15 an15 cd15 ct15), sl15⟩) (c15 : PySem.W.codeIn K cd15 "rooms_in" = true) (k15 : PySem.W.keepIn K (.ref f15) = true)
    (a16 : PySem.W.nsIn K mainGlobals "look_at_web" = some (some (.ref f16))) (l16 : K.lookup f16 = some ⟨oc16, od16, .func (PySem.W.fnOf "look_at_web" "look_at_web" (defArgs s_look_at_web) (defBody s_look_at_web) (defScope s_look_at_web) .none kV16 dc16 pm16 an16 cd16 ct16), sl16⟩) (c16 : PySem.W.codeIn K cd16 "look_at_web" = true) (k16 : PySem.W.keepIn K (.ref f16) = true)
    (a17 : PySem.W.nsIn K mainGlobals "asks_of" = some (some (.ref f17))) (l17 : K.lookup f17 = some ⟨oc17, od17, .func (PySem.W.fnOf "asks_of" "asks_of" (defArgs s_asks_of) (defBody s_asks_of) (defScope s_asks_of) .none kV17 dc17 pm17 an17 cd17 ct17), sl17⟩) (c17 : PySem.W.codeIn K cd17 "asks_of" = true) (k17 : PySem.W.keepIn K (.ref f17) = true)
    (a18 : PySem.W.nsIn K mainGlobals "all_states" = some (some (.ref f18))) (l18 : K.lookup f18 = some ⟨oc18, od18, .func (PySem.W.fnOf "all_states" "all_states" (defArgs s_all_states) (defBody s_all_states) (defScope s_all_states) (.ref aD18) kV18 dc18 pm18 an18 cd18 ct18), sl18⟩) (c18 : PySem.W.codeIn K cd18 "all_states" = true) (k18 : PySem.W.keepIn K (.ref f18) = true)
    (a19 : PySem.W.nsIn K mainGlobals "wrong_part" = some (some (.ref f19))) (l19 : K.lookup f19 = some ⟨oc19, od19, .func (PySem.W.fnOf "wrong_part" "wrong_part" (defArgs s_wrong_part) (defBody s_wrong_part) (defScope s_wrong_part) .none kV19 dc19 pm19 an19 cd19 ct19), sl19⟩) (c19 : PySem.W.codeIn K cd19 "wrong_part" = true) (k19 : PySem.W.keepIn K (.ref f19) = true)
    (a20 : PySem.W.nsIn K mainGlobals "look_at_kind" = some (some (.ref f20))) (l20 : K.lookup f20 = some ⟨oc20, od20, .func (PySem.W.fnOf "look_at_kind" "look_at_kind" (defArgs s_look_at_kind) (defBody s_look_at_kind) (defScope s_look_at_kind) .none kV20 dc20 pm20 an20 cd20 ct20), sl20⟩) (c20 : PySem.W.codeIn K cd20 "look_at_kind" = true) (k20 : PySem.W.keepIn K (.ref f20) = true)
    (a21 : PySem.W.nsIn K mainGlobals "reckoned" = some (some (.ref f21))) (l21 : K.lookup f21 = some ⟨oc21, od21, .func (PySem.W.fnOf "reckoned" "reckoned" (defArgs s_reckoned) (defBody s_reckoned) (defScope s_reckoned) .none kV21 dc21 pm21 an21 cd21 ct21), sl21⟩) (c21 : PySem.W.codeIn K cd21 "reckoned" = true) (k21 : PySem.W.keepIn K (.ref f21) = true)
    (a22 : PySem.W.nsIn K mainGlobals "look_at_many" = some (some (.ref f22))) (l22 : K.lookup f22 = some ⟨oc22, od22, .func (PySem.W.fnOf "look_at_many" "look_at_many" (defArgs s_look_at_many) (defBody s_look_at_many) (defScope s_look_at_many) .none kV22 dc22 pm22 an22 cd22 ct22), sl22⟩) (c22 : PySem.W.codeIn K cd22 "look_at_many" = true) (k22 : PySem.W.keepIn K (.ref f22) = true)
    (a23 : PySem.W.nsIn K mainGlobals "all_lays" = some (some (.ref f23))) (l23 : K.lookup f23 = some ⟨oc23, od23, .func (PySem.W.fnOf "all_lays" "all_lays" (defArgs s_all_lays) (defBody s_all_lays) (defScope s_all_lays) .none kV23 dc23 pm23 an23 cd23 ct23), sl23⟩) (c23 : PySem.W.codeIn K cd23 "all_lays" = true) (k23 : PySem.W.keepIn K (.ref f23) = true)
    (a24 : PySem.W.nsIn K mainGlobals "lays_come" = some (some (.ref f24))) (l24 : K.lookup f24 = some ⟨oc24, od24, .func (PySem.W.fnOf "lays_come" "lays_come" (defArgs s_lays_come) (defBody s_lays_come) (defScope s_lays_come) .none kV24 dc24 pm24 an24 (.ref ctT) ct24), sl24⟩) (c24 : PySem.W.codeIn K (.ref ctT) "lays_come" = true) (k24 : PySem.W.keepIn K (.ref f24) = true)
    (a25 : PySem.W.nsIn K mainGlobals "table_of" = some (some (.ref f25))) (l25 : K.lookup f25 = some ⟨oc25, od25, .func (PySem.W.fnOf "table_of" "table_of" (defArgs s_table_of) (defBody s_table_of) (defScope s_table_of) .none kV25 dc25 pm25 an25 cd25 ct25), sl25⟩) (c25 : PySem.W.codeIn K cd25 "table_of" = true) (k25 : PySem.W.keepIn K (.ref f25) = true)
    (a26 : PySem.W.nsIn K mainGlobals "stands" = some (some (.ref f26))) (l26 : K.lookup f26 = some ⟨oc26, od26, .func (PySem.W.fnOf "stands" "stands" (defArgs s_stands) (defBody s_stands) (defScope s_stands) (.ref aD26) kV26 dc26 pm26 an26 cd26 ct26), sl26⟩) (c26 : PySem.W.codeIn K cd26 "stands" = true) (k26 : PySem.W.keepIn K (.ref f26) = true)
    (a27 : PySem.W.nsIn K mainGlobals "_law_pool" = some (some (.ref f27))) (l27 : K.lookup f27 = some ⟨oc27, od27, .func (PySem.W.fnOf "_law_pool" "_law_pool" (defArgs s_law_pool) (defBody s_law_pool) (defScope s_law_pool) .none kV27 dc27 pm27 an27 cd27 ct27), sl27⟩) (c27 : PySem.W.codeIn K cd27 "_law_pool" = true) (k27 : PySem.W.keepIn K (.ref f27) = true)
    (a28 : PySem.W.nsIn K mainGlobals "_law_take" = some (some (.ref f28))) (l28 : K.lookup f28 = some ⟨oc28, od28, .func (PySem.W.fnOf "_law_take" "_law_take" (defArgs s_law_take) (defBody s_law_take) (defScope s_law_take) .none kV28 dc28 pm28 an28 cd28 ct28), sl28⟩) (c28 : PySem.W.codeIn K cd28 "_law_take" = true) (k28 : PySem.W.keepIn K (.ref f28) = true)
    (a29 : PySem.W.nsIn K mainGlobals "_law_picked" = some (some (.ref f29))) (l29 : K.lookup f29 = some ⟨oc29, od29, .func (PySem.W.fnOf "_law_picked" "_law_picked" (defArgs s_law_picked) (defBody s_law_picked) (defScope s_law_picked) .none kV29 dc29 pm29 an29 cd29 ct29), sl29⟩) (c29 : PySem.W.codeIn K cd29 "_law_picked" = true) (k29 : PySem.W.keepIn K (.ref f29) = true)
    (a30 : PySem.W.nsIn K mainGlobals "_law_tos" = some (some (.ref f30))) (l30 : K.lookup f30 = some ⟨oc30, od30, .func (PySem.W.fnOf "_law_tos" "_law_tos" (defArgs s_law_tos) (defBody s_law_tos) (defScope s_law_tos) .none kV30 dc30 pm30 an30 cd30 ct30), sl30⟩) (c30 : PySem.W.codeIn K cd30 "_law_tos" = true) (k30 : PySem.W.keepIn K (.ref f30) = true)
    (a31 : PySem.W.nsIn K mainGlobals "_law_web" = some (some (.ref f31))) (l31 : K.lookup f31 = some ⟨oc31, od31, .func (PySem.W.fnOf "_law_web" "_law_web" (defArgs s_law_web) (defBody s_law_web) (defScope s_law_web) .none kV31 dc31 pm31 an31 cd31 ct31), sl31⟩) (c31 : PySem.W.codeIn K cd31 "_law_web" = true) (k31 : PySem.W.keepIn K (.ref f31) = true)
    (a32 : PySem.W.nsIn K mainGlobals "_law_web_rooms" = some (some (.ref f32))) (l32 : K.lookup f32 = some ⟨oc32, od32, .func (PySem.W.fnOf "_law_web_rooms" "_law_web_rooms" (defArgs s_law_web_rooms) (defBody s_law_web_rooms) (defScope s_law_web_rooms) .none kV32 dc32 pm32 an32 cd32 ct32), sl32⟩) (c32 : PySem.W.codeIn K cd32 "_law_web_rooms" = true) (k32 : PySem.W.keepIn K (.ref f32) = true)
    (a33 : PySem.W.nsIn K mainGlobals "_law_led" = some (some (.ref f33))) (l33 : K.lookup f33 = some ⟨oc33, od33, .func (PySem.W.fnOf "_law_led" "_law_led" (defArgs s_law_led) (defBody s_law_led) (defScope s_law_led) .none kV33 dc33 pm33 an33 cd33 ct33), sl33⟩) (c33 : PySem.W.codeIn K cd33 "_law_led" = true) (k33 : PySem.W.keepIn K (.ref f33) = true)
    (a34 : PySem.W.nsIn K mainGlobals "_law_away" = some (some (.ref f34))) (l34 : K.lookup f34 = some ⟨oc34, od34, .func (PySem.W.fnOf "_law_away" "_law_away" (defArgs s_law_away) (defBody s_law_away) (defScope s_law_away) .none kV34 dc34 pm34 an34 cd34 ct34), sl34⟩) (c34 : PySem.W.codeIn K cd34 "_law_away" = true) (k34 : PySem.W.keepIn K (.ref f34) = true)
    (a35 : PySem.W.nsIn K mainGlobals "_law_asked" = some (some (.ref f35))) (l35 : K.lookup f35 = some ⟨oc35, od35, .func (PySem.W.fnOf "_law_asked" "_law_asked" (defArgs s_law_asked) (defBody s_law_asked) (defScope s_law_asked) .none kV35 dc35 pm35 an35 cd35 ct35), sl35⟩) (c35 : PySem.W.codeIn K cd35 "_law_asked" = true) (k35 : PySem.W.keepIn K (.ref f35) = true)
    (a36 : PySem.W.nsIn K mainGlobals "_law_all_lays" = some (some (.ref f36))) (l36 : K.lookup f36 = some ⟨oc36, od36, .func (PySem.W.fnOf "_law_all_lays" "_law_all_lays" (defArgs s_law_all_lays) (defBody s_law_all_lays) (defScope s_law_all_lays) .none kV36 dc36 pm36 an36 cd36 ct36), sl36⟩) (c36 : PySem.W.codeIn K cd36 "_law_all_lays" = true) (k36 : PySem.W.keepIn K (.ref f36) = true)
    (a37 : PySem.W.nsIn K mainGlobals "_law_stands" = some (some (.ref f37))) (l37 : K.lookup f37 = some ⟨oc37, od37, .func (PySem.W.fnOf "_law_stands" "_law_stands" (defArgs s_law_stands) (defBody s_law_stands) (defScope s_law_stands) .none kV37 dc37 pm37 an37 cd37 ct37), sl37⟩) (c37 : PySem.W.codeIn K cd37 "_law_stands" = true) (k37 : PySem.W.keepIn K (.ref f37) = true)
    (a38 : PySem.W.nsIn K mainGlobals "_law_way" = some (some (.ref f38))) (l38 : K.lookup f38 = some ⟨oc38, od38, .func (PySem.W.fnOf "_law_way" "_law_way" (defArgs s_law_way) (defBody s_law_way) (defScope s_law_way) .none kV38 dc38 pm38 an38 cd38 ct38), sl38⟩) (c38 : PySem.W.codeIn K cd38 "_law_way" = true) (k38 : PySem.W.keepIn K (.ref f38) = true)
    (a39 : PySem.W.nsIn K mainGlobals "law" = some (some (.ref f39))) (l39 : K.lookup f39 = some ⟨oc39, od39, .func (PySem.W.fnOf "law" "law" (defArgs s_law) (defBody s_law) (defScope s_law) .none kV39 dc39 pm39 an39 cd39 ct39), sl39⟩) (c39 : PySem.W.codeIn K cd39 "law" = true) (k39 : PySem.W.keepIn K (.ref f39) = true)
    (m1 : PySem.W.nsIn K mainGlobals "LAST_ROOM" = some (some (.int 99 g1)))
    (m2 : PySem.W.nsIn K mainGlobals "MOST_ROWS" = some (some (.int 80 g2)))
    (m3 : PySem.W.nsIn K mainGlobals "MOST_ROOMS" = some (some (.int 12 g3)))
    (m4 : PySem.W.nsIn K mainGlobals "MOST_SLOTS" = some (some (.int 8 g4)))
    (m5 : PySem.W.nsIn K mainGlobals "EMPTY" = some (some (.int (-1) g5)))
    (m6 : PySem.W.nsIn K mainGlobals "MOST_LAYS" = some (some (.int 20000 g6)))
    (eg4 : PySem.W.nsIn K mainGlobals "TooMany" = some (some (.ref C4)))
    (ek4 : PySem.W.keepIn K (.ref C4) = true)
    (ex4 : PySem.W.subIn K (.ref C4) (.type "BaseException") = some true)
    (et4 : PySem.W.typeIn K (.ref C4) = some (.type "type"))
    (ec4 : PySem.W.clsIn K C4 = some cdC4)
    (ga4 : PySem.W.findIn K (.ref C4) "__getattribute__" = some (some (.builtin "BaseException.__getattribute__")))
    (gg4 : PySem.W.findIn K (.ref C4) "__getattr__" = some none)
    (gc4 : PySem.W.findIn K (.ref C4) "__class__" = some (some (.builtin "object.__class__")))
    (mo4 : PySem.W.mroIn K C4 (.type "object") = some true)
    (ed4 : PySem.W.hasDictIn K C4 = true)
    (ei4 : PySem.W.excIn K C4 [.type "ValueError", .type "Exception", .type "BaseException", .type "object"] "ValueError.__new__" = true)
    (spG : PySem.W.specialIn K (.builtin "object.__class__") "__get__" = some (some (.builtin "getset_descriptor.__get__")))
    (tkG : PySem.W.takesIn K (.builtin "object.__class__") = some true)
    (nsG : PySem.W.nsIn K mainGlobals "super" = some none)
    (opG : PySem.W.nsIn K cStatics "thirdparty.any" = some none)
    (ntG : (l.prog.main.scope.names.lookup ("super" : Str)).isSome = false)
    (mW : PySem.W.nsIn K mainGlobals "WAYS" = some (some (.ref aW)))
    (mW2 : K.lookup aW = some ⟨.type "tuple", dW, .seq #[.str "last" u1, .str "first" u2, .str "tree" u3] nW, slW⟩)
    (mZ : PySem.W.nsIn K mainGlobals "TREE_SIZES" = some (some (.ref aZ)))
    (mZ2 : K.lookup aZ = some ⟨.type "tuple", dZ, .seq #[.int 1 u4, .int 2 u5, .int 4 u6, .int 8 u7] nZ, slZ⟩)
    (te : K.lookup ctT = some ⟨eT, ddT, .fields vsT, slT⟩)
    (tg : vsT[11]? = some (.ref ptT))
    (tn : K.lookup ptT = none)
    (gq : (recsOf qq).find? (fun e => e.name == ("lays_come" : Str)) = some dq)
    (q18 : K.lookup aD18 = some ⟨.type "tuple", dD18, .seq #[.none] nD18, sD18⟩)
    (q26 : K.lookup aD26 = some ⟨.type "tuple", dD26, .seq #[.int 4 tk26_0, .str "last" tk26_1] nD26, sD26⟩)
    (z1 : PySem.W.nsIn K mainGlobals "len" = some none) (z2 : PySem.W.nsIn K mainGlobals "sum" = some none) (z3 : PySem.W.nsIn K mainGlobals "abs" = some none) (z4 : PySem.W.nsIn K mainGlobals "int" = some none) (z5 : PySem.W.nsIn K mainGlobals "min" = some none) (z6 : PySem.W.nsIn K mainGlobals "max" = some none) (z7 : PySem.W.nsIn K mainGlobals "range" = some none) (z8 : PySem.W.nsIn K mainGlobals "sorted" = some none) (z9 : PySem.W.nsIn K mainGlobals "list" = some none) (z10 : PySem.W.nsIn K mainGlobals "tuple" = some none) (z11 : PySem.W.nsIn K mainGlobals "repr" = some none) (z12 : PySem.W.nsIn K mainGlobals "set" = some none) (z13 : PySem.W.nsIn K mainGlobals "all" = some none) (z14 : PySem.W.nsIn K mainGlobals "isinstance" = some none) (z15 : PySem.W.nsIn K mainGlobals "str" = some none) (z16 : PySem.W.nsIn K mainGlobals "bool" = some none) (z17 : PySem.W.nsIn K mainGlobals "reversed" = some none) (z18 : PySem.W.nsIn K mainGlobals "enumerate" = some none) (z19 : PySem.W.nsIn K mainGlobals "zip" = some none) (z20 : PySem.W.nsIn K mainGlobals "any" = some none) (z21 : PySem.W.nsIn K mainGlobals "dict" = some none) :
    LawT l.prog w K 10 63 "_law_script" mg fa h := by
  have e := hfa.symm.trans (PySem.W.mg_of X G a39)
  cases e
  have B : Bt mg := ⟨PySem.W.mg_none_of X G z1, PySem.W.mg_none_of X G z2, PySem.W.mg_none_of X G z3, PySem.W.mg_none_of X G z4, PySem.W.mg_none_of X G z5, PySem.W.mg_none_of X G z6, PySem.W.mg_none_of X G z7, PySem.W.mg_none_of X G z8, PySem.W.mg_none_of X G z9, PySem.W.mg_none_of X G z10, PySem.W.mg_none_of X G z11, PySem.W.mg_none_of X G z12, PySem.W.mg_none_of X G z13, PySem.W.mg_none_of X G z14, PySem.W.mg_none_of X G z15, PySem.W.mg_none_of X G z16, PySem.W.mg_none_of X G z17, PySem.W.mg_none_of X G z18, PySem.W.mg_none_of X G z19, PySem.W.mg_none_of X G z20, PySem.W.mg_none_of X G z21⟩
  have F1 := fun_mk (st := s_is_whole) l1 c1 k1
  have b1 := F1.binds (ps := ["thing"]) fun _ _ _ _ _ _ us hl => match us, hl with | [_], _ => rfl
  have T1 := at_mk X G a1 F1 b1
  have F2 := fun_mk (st := s_is_room) l2 c2 k2
  have b2 := F2.binds (ps := ["thing"]) fun _ _ _ _ _ _ us hl => match us, hl with | [_], _ => rfl
  have T2 := at_mk X G a2 F2 b2
  have F3 := fun_mk (st := s_are_rising) l3 c3 k3
  have b3 := F3.binds (ps := ["numbers"]) fun _ _ _ _ _ _ us hl => match us, hl with | [_], _ => rfl
  have T3 := at_mk X G a3 F3 b3
  have F4 := fun_mk (st := s_are_rooms) l4 c4 k4
  have b4 := F4.binds (ps := ["thing", "least", "most"]) fun _ _ _ _ _ _ us hl => match us, hl with | [_, _, _], _ => rfl
  have T4 := at_mk X G a4 F4 b4
  have F5 := fun_mk (st := s_is_way) l5 c5 k5
  have b5 := F5.binds (ps := ["thing"]) fun _ _ _ _ _ _ us hl => match us, hl with | [_], _ => rfl
  have T5 := at_mk X G a5 F5 b5
  have F6 := fun_mk (st := s_is_size) l6 c6 k6
  have b6 := F6.binds (ps := ["thing", "way"]) fun _ _ _ _ _ _ us hl => match us, hl with | [_, _], _ => rfl
  have T6 := at_mk X G a6 F6 b6
  have F7 := fun_mk (st := s_how_many_bits) l7 c7 k7
  have b7 := F7.binds (ps := ["size", "way"]) fun _ _ _ _ _ _ us hl => match us, hl with | [_, _], _ => rfl
  have T7 := at_mk X G a7 F7 b7
  have F8 := fun_mk (st := s_put_first) l8 c8 k8
  have b8 := F8.binds (ps := ["slots", "room"]) fun _ _ _ _ _ _ us hl => match us, hl with | [_, _], _ => rfl
  have T8 := at_mk X G a8 F8 b8
  have F9 := fun_mk (st := s_slot_led_to) l9 c9 k9
  have b9 := F9.binds (ps := ["bits", "size"]) fun _ _ _ _ _ _ us hl => match us, hl with | [_, _], _ => rfl
  have T9 := at_mk X G a9 F9 b9
  have F10 := fun_mk (st := s_led_away) l10 c10 k10
  have b10 := F10.binds (ps := ["bits", "slot", "size"]) fun _ _ _ _ _ _ us hl => match us, hl with | [_, _, _], _ => rfl
  have T10 := at_mk X G a10 F10 b10
  have F11 := fun_mk (st := s_asked_by_tree) l11 c11 k11
  have b11 := F11.binds (ps := ["slots", "bits", "room"]) fun _ _ _ _ _ _ us hl => match us, hl with | [_, _, _], _ => rfl
  have T11 := at_mk X G a11 F11 b11
  have F12 := fun_mk (st := s_asked) l12 c12 k12
  have b12 := F12.binds (ps := ["lay", "room", "way"]) fun _ _ _ _ _ _ us hl => match us, hl with | [_, _, _], _ => rfl
  have T12 := at_mk X G a12 F12 b12
  have F13 := fun_mk (st := s_are_tos) l13 c13 k13
  have b13 := F13.binds (ps := ["thing", "rows"]) fun _ _ _ _ _ _ us hl => match us, hl with | [_, _], _ => rfl
  have T13 := at_mk X G a13 F13 b13
  have F14 := fun_mk (st := s_is_row) l14 c14 k14
  have b14 := F14.binds (ps := ["thing", "rows"]) fun _ _ _ _ _ _ us hl => match us, hl with | [_, _], _ => rfl
  have T14 := at_mk X G a14 F14 b14
  have F15 := fun_mk (st := s_rooms_in) l15 c15 k15
  have b15 := F15.binds (ps := ["rows"]) fun _ _ _ _ _ _ us hl => match us, hl with | [_], _ => rfl
  have T15 := at_mk X G a15 F15 b15
  have F16 := fun_mk (st := s_look_at_web) l16 c16 k16
  have b16 := F16.binds (ps := ["thing"]) fun _ _ _ _ _ _ us hl => match us, hl with | [_], _ => rfl
  have T16 := at_mk X G a16 F16 b16
  have F17 := fun_mk (st := s_asks_of) l17 c17 k17
  have b17 := F17.binds (ps := ["rooms"]) fun _ _ _ _ _ _ us hl => match us, hl with | [_], _ => rfl
  have T17 := at_mk X G a17 F17 b17
  have F18 : FunD K "all_states" "all_states" (defArgs s_all_states) (defBody s_all_states) (defScope s_all_states) [.non] [] f18 _ := ⟨⟨oc18, od18, _, kV18, dc18, pm18, an18, cd18, ct18, sl18, rfl, l18, c18, .inr ⟨by simp, aD18, _, [.none], nD18, rfl, q18, rfl, .cons rfl (.nil)⟩, .inl rfl⟩, k18⟩
  have T18 : AtD K mg "all_states" s_all_states ["web", "starts", "behind", "most"] [.non] := by
    refine ⟨f18, _, F18, PySem.W.mg_of X G a18, fun j hj => ?_⟩
    by_cases e0 : j = 0
    · subst e0
      exact F18.binds1 (ps := ["web", "starts", "behind", "most"]) 3 0 (by simp) rfl fun T kV doc pm an cdv ct us its hu hi => match us, its, hu, hi with | [_, _, _], [_], _, _ => ⟨_, rfl, rfl⟩
    by_cases e1 : j = 1
    · subst e1
      exact F18.binds1 (ps := ["web", "starts", "behind", "most"]) 4 1 (by simp) rfl fun T kV doc pm an cdv ct us its hu hi => match us, its, hu, hi with | [_, _, _, _], [_], _, _ => ⟨_, rfl, rfl⟩
    exact absurd (show j ≤ 1 from hj) (by omega)
  have F19 := fun_mk (st := s_wrong_part) l19 c19 k19
  have b19 := F19.binds (ps := ["size", "way", "slots", "bits"]) fun _ _ _ _ _ _ us hl => match us, hl with | [_, _, _, _], _ => rfl
  have T19 := at_mk X G a19 F19 b19
  have F20 := fun_mk (st := s_look_at_kind) l20 c20 k20
  have b20 := F20.binds (ps := ["size", "way"]) fun _ _ _ _ _ _ us hl => match us, hl with | [_, _], _ => rfl
  have T20 := at_mk X G a20 F20 b20
  have F21 := fun_mk (st := s_reckoned) l21 c21 k21
  have b21 := F21.binds (ps := ["rooms", "size", "way"]) fun _ _ _ _ _ _ us hl => match us, hl with | [_, _, _], _ => rfl
  have T21 := at_mk X G a21 F21 b21
  have F22 := fun_mk (st := s_look_at_many) l22 c22 k22
  have b22 := F22.binds (ps := ["web", "size", "way"]) fun _ _ _ _ _ _ us hl => match us, hl with | [_, _, _], _ => rfl
  have T22 := at_mk X G a22 F22 b22
  have F23 := fun_mk (st := s_all_lays) l23 c23 k23
  have b23 := F23.binds (ps := ["rooms", "size", "way"]) fun _ _ _ _ _ _ us hl => match us, hl with | [_, _, _], _ => rfl
  have T23 := at_mk X G a23 F23 b23
  have F24 := fun_mk (st := s_lays_come) l24 c24 k24
  have b24 := F24.binds (ps := ["web", "size", "way"]) fun _ _ _ _ _ _ us hl => match us, hl with | [_, _, _], _ => rfl
  have T24 := at_mk X G a24 F24 b24
  have F25 := fun_mk (st := s_table_of) l25 c25 k25
  have b25 := F25.binds (ps := ["came", "web"]) fun _ _ _ _ _ _ us hl => match us, hl with | [_, _], _ => rfl
  have T25 := at_mk X G a25 F25 b25
  have F26 : FunD K "stands" "stands" (defArgs s_stands) (defBody s_stands) (defScope s_stands) [.int 4, .str "last"] [] f26 _ := ⟨⟨oc26, od26, _, kV26, dc26, pm26, an26, cd26, ct26, sl26, rfl, l26, c26, .inr ⟨by simp, aD26, _, [.int 4 tk26_0, .str "last" tk26_1], nD26, rfl, q26, rfl, .cons ⟨_, rfl⟩ (.cons ⟨_, rfl⟩ (.nil))⟩, .inl rfl⟩, k26⟩
  have T26 : AtD K mg "stands" s_stands ["web", "size", "way"] [.int 4, .str "last"] := by
    refine ⟨f26, _, F26, PySem.W.mg_of X G a26, fun j hj => ?_⟩
    by_cases e0 : j = 0
    · subst e0
      exact F26.binds1 (ps := ["web", "size", "way"]) 1 0 (by simp) rfl fun T kV doc pm an cdv ct us its hu hi => match us, its, hu, hi with | [_], [_, _], _, _ => ⟨_, rfl, rfl⟩
    by_cases e1 : j = 1
    · subst e1
      exact F26.binds1 (ps := ["web", "size", "way"]) 2 1 (by simp) rfl fun T kV doc pm an cdv ct us its hu hi => match us, its, hu, hi with | [_, _], [_, _], _, _ => ⟨_, rfl, rfl⟩
    by_cases e2 : j = 2
    · subst e2
      exact F26.binds1 (ps := ["web", "size", "way"]) 3 2 (by simp) rfl fun T kV doc pm an cdv ct us its hu hi => match us, its, hu, hi with | [_, _, _], [_, _], _, _ => ⟨_, rfl, rfl⟩
    exact absurd (show j ≤ 2 from hj) (by omega)
  have F27 := fun_mk (st := s_law_pool) l27 c27 k27
  have b27 := F27.binds (ps := ["_law_script", "_law_k"]) fun _ _ _ _ _ _ us hl => match us, hl with | [_, _], _ => rfl
  have T27 := at_mk X G a27 F27 b27
  have F28 := fun_mk (st := s_law_take) l28 c28 k28
  have b28 := F28.binds (ps := ["_law_pool_here", "_law_many"]) fun _ _ _ _ _ _ us hl => match us, hl with | [_, _], _ => rfl
  have T28 := at_mk X G a28 F28 b28
  have F29 := fun_mk (st := s_law_picked) l29 c29 k29
  have b29 := F29.binds (ps := ["_law_pool_here", "_law_some", "_law_many"]) fun _ _ _ _ _ _ us hl => match us, hl with | [_, _, _], _ => rfl
  have T29 := at_mk X G a29 F29 b29
  have F30 := fun_mk (st := s_law_tos) l30 c30 k30
  have b30 := F30.binds (ps := ["_law_pool_here", "_law_row", "_law_many"]) fun _ _ _ _ _ _ us hl => match us, hl with | [_, _, _], _ => rfl
  have T30 := at_mk X G a30 F30 b30
  have F31 := fun_mk (st := s_law_web) l31 c31 k31
  have b31 := F31.binds (ps := ["_law_pool_here", "_law_most_rows", "_law_most_rooms"]) fun _ _ _ _ _ _ us hl => match us, hl with | [_, _, _], _ => rfl
  have T31 := at_mk X G a31 F31 b31
  have F32 := fun_mk (st := s_law_web_rooms) l32 c32 k32
  have b32 := F32.binds (ps := ["_law_web_here"]) fun _ _ _ _ _ _ us hl => match us, hl with | [_], _ => rfl
  have T32 := at_mk X G a32 F32 b32
  have F33 := fun_mk (st := s_law_led) l33 c33 k33
  have b33 := F33.binds (ps := ["_law_bits", "_law_size"]) fun _ _ _ _ _ _ us hl => match us, hl with | [_, _], _ => rfl
  have T33 := at_mk X G a33 F33 b33
  have F34 := fun_mk (st := s_law_away) l34 c34 k34
  have b34 := F34.binds (ps := ["_law_bits", "_law_at", "_law_size"]) fun _ _ _ _ _ _ us hl => match us, hl with | [_, _, _], _ => rfl
  have T34 := at_mk X G a34 F34 b34
  have F35 := fun_mk (st := s_law_asked) l35 c35 k35
  have b35 := F35.binds (ps := ["_law_lay", "_law_room", "_law_way_here"]) fun _ _ _ _ _ _ us hl => match us, hl with | [_, _, _], _ => rfl
  have T35 := at_mk X G a35 F35 b35
  have F36 := fun_mk (st := s_law_all_lays) l36 c36 k36
  have b36 := F36.binds (ps := ["_law_rooms", "_law_size", "_law_way_here"]) fun _ _ _ _ _ _ us hl => match us, hl with | [_, _, _], _ => rfl
  have T36 := at_mk X G a36 F36 b36
  have F37 := fun_mk (st := s_law_stands) l37 c37 k37
  have b37 := F37.binds (ps := ["_law_web_here", "_law_size", "_law_way_here"]) fun _ _ _ _ _ _ us hl => match us, hl with | [_, _, _], _ => rfl
  have T37 := at_mk X G a37 F37 b37
  have F38 := fun_mk (st := s_law_way) l38 c38 k38
  have b38 := F38.binds (ps := ["_law_pool_here", "_law_rooms"]) fun _ _ _ _ _ _ us hl => match us, hl with | [_, _], _ => rfl
  have T38 := at_mk X G a38 F38 b38
  have F39 := fun_mk (st := s_law) l39 c39 k39
  have tI : PySem.W.tabIn K "lays_come" = some (ctT, ptT) := by
    unfold PySem.W.tabIn
    rw [a24]
    dsimp only
    rw [l24]
    dsimp only [PySem.W.fnOf]
    rw [te]
    dsimp only
    rw [tg]
  refine ⟨PySem.W.fnOf "law" "law" (defArgs s_law) (defBody s_law) (defScope s_law) .none kV39 dc39 pm39 an39 cd39 ct39, [(ctT, ptT)], spLaw K [(ptT, qLam "lays_come")], TabK.cons (tt _ _ _ _ gq tI) tn TabK.nil, (fun s v => .of_eq rfl), (fun H a ns hl hT hS => ⟨a, ns, rfl, hS, hl, (fun p hp => by rw [List.mem_singleton.mp hp]; exact LamX.TabS.nil (hT (ctT, ptT) (List.mem_singleton.mpr rfl))), fun _ => rfl⟩), fun base _ _ hTB => ?_⟩
  have O4 : Own0 K mg "TooMany" C4 "ValueError" "ValueError.__new__" "ValueError.__init__" [.type "ValueError", .type "Exception", .type "BaseException", .type "object"] := ⟨PySem.F.excBase_ValueError, ei4, PySem.W.mg_of X G eg4, ek4, ex4, et4⟩
  have DG : GbW mg := ⟨⟨_, PySem.W.mg_of X G m1⟩, ⟨_, PySem.W.mg_of X G m2⟩, ⟨_, PySem.W.mg_of X G m3⟩⟩
  have DK : GbK K mg := ⟨⟨_, PySem.W.mg_of X G m4⟩, ⟨aW, PySem.W.mg_of X G mW, fun H => .inr ⟨_, _, _, mW2, rfl, rfl, by show 3 ≤ sizeLine; decide, .cons ⟨_, rfl⟩ (.cons ⟨_, rfl⟩ (.cons ⟨_, rfl⟩ .nil))⟩⟩, ⟨aZ, PySem.W.mg_of X G mZ, fun H => .inr ⟨_, _, _, mZ2, rfl, rfl, by show 4 ≤ sizeLine; decide, .cons ⟨_, rfl⟩ (.cons ⟨_, rfl⟩ (.cons ⟨_, rfl⟩ (.cons ⟨_, rfl⟩ .nil)))⟩⟩⟩
  have TC : AtC K mg "lays_come" s_lays_come ["web", "size", "way"] ctT := ⟨f24, _, _, _, _, _, _, _, _, l24, c24, k24, PySem.W.mg_of X G a24, b24⟩
  have TT : TabT base mg [(ptT, qLam "lays_come")] ctT ptT (qLam "lays_come") := ⟨hTB (ctT, ptT) (List.mem_singleton.mpr rfl), List.mem_singleton.mpr rfl, fun p hp _ => by rw [List.mem_singleton.mp hp]⟩
  have g1 := ok_whole (P := l.prog) (w := w) (base := base) T1 B
  have g2 := ok_room (P := l.prog) (w := w) (base := base) T2 DG g1
  have g3 := ok_rising (P := l.prog) (w := w) (base := base) T3 B
  have g4 := ok_row (P := l.prog) (w := w) (base := base) T14 B (ok_rooms T4 B g2 g3) (ok_tos T13 B g1 g3)
  have ri := ok_rooms_in (P := l.prog) (w := w) (base := base) T15 B
  have g6 := ok_look (P := l.prog) (w := w) (base := base) T16 B DG g4 ri
  have gk := ok_kind (P := l.prog) (w := w) (base := base) T20 (ok_part T19 (ok_way T5 B DK) (ok_size T6 DK g1))
  have bn := ok_bitsN (P := l.prog) (w := w) (base := base) T7
  have re := ok_reckoned (P := l.prog) (w := w) (base := base) T21 B bn
  have mn := ok_many (P := l.prog) (w := w) (base := base) O4 ⟨_, PySem.W.mg_of X G m6⟩ T22 B ri re
  have as := ok_asked (P := l.prog) (w := w) (base := base) T12 (ok_tree T11 B (ok_led T9) (ok_away T10 B)) (ok_put T8 B)
  have al := ok_all_lays (P := l.prog) (w := w) (base := base) T23 B ⟨_, PySem.W.mg_of X G m5⟩ bn
  have st := ok_states (P := l.prog) (w := w) (base := base) T18 B (ok_asks_of T17 B)
  have co := ok_come (P := l.prog) (w := w) (base := base) TC TT st al ri as
  have sd := ok_standsD (P := l.prog) (w := w) (base := base) T26 B g6 gk mn co (ok_table T25 B)
  have lr := ok_lrooms (P := l.prog) (w := w) (base := base) T32 B
  have ls := ok_lstands (P := l.prog) (w := w) (base := base) T37 B lr (ok_lall T36 B) (ok_lasked T35 B (ok_lled T33) (ok_laway T34 B))
  have t1 := ok_take (P := l.prog) (w := w) (base := base) T28
  have t2 := ok_picked (P := l.prog) (w := w) (base := base) T29 B t1
  exact ok_law F39 B ⟨ok_pool T27 B, t1, ok_lweb T31 B t1 t2 (ok_ltos T30 B t1), lr, ok_lway T38 B t1, ls, sd⟩
end Su
open PySem PySem.W PyProof.Rows
set_option maxRecDepth 100000 in
set_option maxHeartbeats 0 in
theorem PySem.Challenge.cw_surehand_k42_all_that_may_lie_holds : PySem.Challenge.rw_surehand_k42_all_that_may_lie.Holds := by
  w_on; o_law; k_head; (case hw => w_witness2)
  k_fill
  refine Su.walk_ofT (l := PySem.Challenge.rw_surehand_k42_all_that_may_lie) (n := 63) (k := 10) (x := "_law_script") rfl (by decide) rfl ⟨rfl, by decide, by decide⟩ (fun w h Y => PySem.W.km_in_of Y) ?F
  case F =>
    intro w mg fa h KX G hmg tt
    refine' Su.all_mk KX G hmg tt ?a1 ?l1 ?c1 ?k1 ?a2 ?l2 ?c2 ?k2 ?a3 ?l3 ?c3 ?k3 ?a4 ?l4 ?c4 ?k4 ?a5 ?l5 ?c5 ?k5 ?a6 ?l6 ?c6 ?k6 ?a7 ?l7 ?c7 ?k7 ?a8 ?l8 ?c8 ?k8 ?a9 ?l9 ?c9 ?k9 ?a10 ?l10 ?c10 ?k10 ?a11 ?l11 ?c11 ?k11 ?a12 ?l12 ?c12 ?k12 ?a13 ?l13 ?c13 ?k13 ?a14 ?l14 ?c14 ?k14 ?a15 ?l15 ?c15 ?k15 ?a16 ?l16 ?c16 ?k16 ?a17 ?l17 ?c17 ?k17 ?a18 ?l18 ?c18 ?k18 ?a19 ?l19 ?c19 ?k19 ?a20 ?l20 ?c20 ?k20 ?a21 ?l21 ?c21 ?k21 ?a22 ?l22 ?c22 ?k22 ?a23 ?l23 ?c23 ?k23 ?a24 ?l24 ?c24 ?k24 ?a25 ?l25 ?c25 ?k25 ?a26 ?l26 ?c26 ?k26 ?a27 ?l27 ?c27 ?k27 ?a28 ?l28 ?c28 ?k28 ?a29 ?l29 ?c29 ?k29 ?a30 ?l30 ?c30 ?k30 ?a31 ?l31 ?c31 ?k31 ?a32 ?l32 ?c32 ?k32 ?a33 ?l33 ?c33 ?k33 ?a34 ?l34 ?c34 ?k34 ?a35 ?l35 ?c35 ?k35 ?a36 ?l36 ?c36 ?k36 ?a37 ?l37 ?c37 ?k37 ?a38 ?l38 ?c38 ?k38 ?a39 ?l39 ?c39 ?k39 ?m1 ?m2 ?m3 ?m4 ?m5 ?m6 ?eg4 ?ek4 ?ex4 ?et4 ?ec4 ?ga4 ?gg4 ?gc4 ?mo4 ?ed4 ?ei4 ?spG ?tkG ?nsG ?opG ?ntG ?mW ?mW2 ?mZ ?mZ2 ?te ?tg ?tn ?gq ?q18 ?q26 ?z1 ?z2 ?z3 ?z4 ?z5 ?z6 ?z7 ?z8 ?z9 ?z10 ?z11 ?z12 ?z13 ?z14 ?z15 ?z16 ?z17 ?z18 ?z19 ?z20 ?z21
    (case a1 => k_is); (case l1 => k_is); (case c1 => k_is); (case k1 => k_is); (case a2 => k_is); (case l2 => k_is)
    (case c2 => k_is); (case k2 => k_is); (case a3 => k_is); (case l3 => k_is); (case c3 => k_is); (case k3 => k_is)
    (case a4 => k_is); (case l4 => k_is); (case c4 => k_is); (case k4 => k_is); (case a5 => k_is); (case l5 => k_is)
    (case c5 => k_is); (case k5 => k_is); (case a6 => k_is); (case l6 => k_is); (case c6 => k_is); (case k6 => k_is)
    (case a7 => k_is); (case l7 => k_is); (case c7 => k_is); (case k7 => k_is); (case a8 => k_is); (case l8 => k_is)
    (case c8 => k_is); (case k8 => k_is); (case a9 => k_is); (case l9 => k_is); (case c9 => k_is); (case k9 => k_is)
    (case a10 => k_is); (case l10 => k_is); (case c10 => k_is); (case k10 => k_is); (case a11 => k_is); (case l11 => k_is)
    (case c11 => k_is); (case k11 => k_is); (case a12 => k_is); (case l12 => k_is); (case c12 => k_is); (case k12 => k_is)
    (case a13 => k_is); (case l13 => k_is); (case c13 => k_is); (case k13 => k_is); (case a14 => k_is); (case l14 => k_is)
    (case c14 => k_is); (case k14 => k_is); (case a15 => k_is); (case l15 => k_is); (case c15 => k_is); (case k15 => k_is)
    (case a16 => k_is); (case l16 => k_is); (case c16 => k_is); (case k16 => k_is); (case a17 => k_is); (case l17 => k_is)
    (case c17 => k_is); (case k17 => k_is); (case a18 => k_is); (case l18 => k_is); (case c18 => k_is); (case k18 => k_is)
    (case a19 => k_is); (case l19 => k_is); (case c19 => k_is); (case k19 => k_is); (case a20 => k_is); (case l20 => k_is)
    (case c20 => k_is); (case k20 => k_is); (case a21 => k_is); (case l21 => k_is); (case c21 => k_is); (case k21 => k_is)
    (case a22 => k_is); (case l22 => k_is); (case c22 => k_is); (case k22 => k_is); (case a23 => k_is); (case l23 => k_is)
    (case c23 => k_is); (case k23 => k_is); (case a24 => k_is); (case l24 => k_is); (case c24 => k_is); (case k24 => k_is)
    (case a25 => k_is); (case l25 => k_is); (case c25 => k_is); (case k25 => k_is); (case a26 => k_is); (case l26 => k_is)
    (case c26 => k_is); (case k26 => k_is); (case a27 => k_is); (case l27 => k_is); (case c27 => k_is); (case k27 => k_is)
    (case a28 => k_is); (case l28 => k_is); (case c28 => k_is); (case k28 => k_is); (case a29 => k_is); (case l29 => k_is)
    (case c29 => k_is); (case k29 => k_is); (case a30 => k_is); (case l30 => k_is); (case c30 => k_is); (case k30 => k_is)
    (case a31 => k_is); (case l31 => k_is); (case c31 => k_is); (case k31 => k_is); (case a32 => k_is); (case l32 => k_is)
    (case c32 => k_is); (case k32 => k_is); (case a33 => k_is); (case l33 => k_is); (case c33 => k_is); (case k33 => k_is)
    (case a34 => k_is); (case l34 => k_is); (case c34 => k_is); (case k34 => k_is); (case a35 => k_is); (case l35 => k_is)
    (case c35 => k_is); (case k35 => k_is); (case a36 => k_is); (case l36 => k_is); (case c36 => k_is); (case k36 => k_is)
    (case a37 => k_is); (case l37 => k_is); (case c37 => k_is); (case k37 => k_is); (case a38 => k_is); (case l38 => k_is)
    (case c38 => k_is); (case k38 => k_is); (case a39 => k_is); (case l39 => k_is); (case c39 => k_is); (case k39 => k_is)
    (case m1 => k_is); (case m2 => k_is); (case m3 => k_is); (case m4 => k_is); (case m5 => k_is); (case m6 => k_is)
    (case eg4 => k_is); (case ek4 => k_is); (case ex4 => k_is); (case et4 => k_is); (case ec4 => k_is); (case ga4 => k_is)
    (case gg4 => k_is); (case gc4 => k_is); (case mo4 => k_is); (case ed4 => k_is); (case ei4 => k_exc); (case spG => k_is)
    (case tkG => k_is); (case nsG => k_is); (case opG => k_is); (case ntG => first | rfl | decide +kernel); (case mW => k_is); (case mW2 => k_is)
    (case mZ => k_is); (case mZ2 => k_is); (case te => k_is); (case tg => first | rfl | exact rfl); (case tn => first | k_is | rfl | decide +kernel); (case gq => first | rfl | decide | exact rfl)
    (case q18 => k_is); (case q26 => k_is); (case z1 => k_is); (case z2 => k_is); (case z3 => k_is); (case z4 => k_is)
    (case z5 => k_is); (case z6 => k_is); (case z7 => k_is); (case z8 => k_is); (case z9 => k_is); (case z10 => k_is)
    (case z11 => k_is); (case z12 => k_is); (case z13 => k_is); (case z14 => k_is); (case z15 => k_is); (case z16 => k_is)
    (case z17 => k_is); (case z18 => k_is); (case z19 => k_is); (case z20 => k_is); (case z21 => k_is)

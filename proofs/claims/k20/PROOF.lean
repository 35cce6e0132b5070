import PyProof.Rows.All
import Wide.All
import OpenK.AllK
import Wide.FinOn
import HandS.ForMost
import HandS.SortInts
import HandS.TupAny
import HandS.Conv
import KE.KIndexOf
import PyProof.ReprRoads
import PyProof.ReprLen
import HandS.IsInst
import HandS.Strs
import HandS.Rev
import HandS.Style
import HandS.TupLe
import HandS.Zip
import HandS.Comp
import HandS.SetBool
import HandS.SetFor
import HandS.TupMul
import HandS.More
import HandS.ForExc
import HandS.ExcInit
import HandS.ExcValue
import KE.KExcSuper
import KE.KExcIs
import KE.KIsAll
import HandS.Exc
import KE.KExcInit
import KE.KSuper
import HandS.WordsExc
import HandS.ExcOwn
import PyProof.CallFns
import PyProof.WalksMore
import HandS.TryOnly
import HandS.OwnEq
import KE.KCallOwn
import PyProof.Conv_bool
import PyProof.FactsAll.object
import PyProof.EqKinds
import PyProof.InstEq
import PyProof.InstNe
import HandS.Dict
import PyProof.FactsAll.NoneType
import PyProof.FactsAll.int
import PyProof.FactsAll.bool
import PyProof.FactsAll.str
import PyProof.FactsAll.list
import PyProof.FactsAll.tuple
import PyProof.FactsAll.dict
import HandS.Codes
import HandS.FStr
import KE.DataFind
import HandS.Defaults
import HandS.MakeKwOnly
import HandS.CallSlots
import HandS.MakeKw
import KE.KExcLine
import KE.RegKTryMore
import PyProof.ExcBaseAll.LookupError
import PyProof.ExcBaseAll.IndexError
import PyProof.ExcBaseAll.ValueError
import PyProof.InstStoreFacts
import PySem.Challenge.RW_surehand_k20_walks_made
set_option Elab.async false
set_option linter.all false
set_option maxRecDepth 100000
set_option maxHeartbeats 4000000
/-! ### B0: what every law's text uses: a def by its name, calls, the end where nothing is being written out -/
namespace Su
open PySem PySem.Spec PyProof.Rows L2
/-- a def of the text stands under its name -/
structure At (K : PySem.W.Frag) (mg : Str → Option Value) (x : Str) (st : Stmt) (ps : List Str) : Prop where
  ex : ∃ (f : Addr) (fd : FuncData), Fun K x x st f fd ∧ mg x = some (.ref f) ∧ Binds K fd ps []
/-- a def that keeps a promise may be called by its name -/
structure Cal (P : Program) (w : World) (K : PySem.W.Frag) (mg : Str → Option Value) (base : Heap) (k : Nat) (x : Str) (ps : List Str) (sp : Sp) : Prop where
  ex : ∃ (f : Addr) (fd : FuncData), FnOk P w K mg base CX0 k f fd ps sp ∧ mg x = some (.ref f) ∧ PySem.W.keepIn K (.ref f) = true ∧ Binds K fd ps [] ∧ ∃ o : Obj, K.lookup f = some o ∧ o.data = .func fd
section
variable {P : Program} {w : World} {K : PySem.W.Frag} {mg : Str → Option Value} {base : Heap}
theorem cal_of {x : Str} {st : Stmt} {N ps : List Str} {k : Nat} {sp : Sp} (T : At K mg x st ps) (S : FnScope N ps (defScope st)) (len : ∀ vs H Q E, sp vs H Q E → vs.length = ps.length)
    (hb : ∀ (f : Addr) (cdv : Value) (A : Around) (outer : List Env) (s : Shared) (H : Hp) (vs : List V) (Q : VK) (E : XK), Room k (A.deeper (envOfC x (defScope st) s.heap.objs.size f cdv)) → sp vs H Q E →
      ∃ t, PSs (cxOf CX0 P w K mg base N x (defScope st) f cdv A outer s H E).nox (defBody st) t ∧ t { nx := fun _ H' => Q .non H', rt := Q } (start N vs) H) : Cal P w K mg base (k + 1) x ps sp := by
  obtain ⟨f, fd, F, hm, b⟩ := T.ex
  have z : ∃ o : Obj, K.lookup f = some o ∧ o.data = .func fd := by
    obtain ⟨oc, od, kV, doc, pm, an, cdv, ct, osl, _, lk, _⟩ := F.ex
    exact ⟨_, lk, rfl⟩
  exact ⟨f, fd, F.ok S len (fun cdv A outer s H vs Q E => hb f cdv A outer s H vs Q E), hm, F.kp, b, z⟩
end
section
variable {X : Cx} {k j : Nat} {x : Str} {ps : List Str} {sp : Sp} {p pos : Pos} {e : Expr} {es : List Expr} {t : TA}
theorem pe_own (C : Cal X.prog X.w X.K X.mg X.base k x ps sp) (hr : Room j X.A) (hk : k ≤ j) (hg : Gl X x) (ha : PA X (e :: es) t)
    (hdb : (x == ("__debug__" : Str)) = false := by decide) (he : starEach (e :: es) X.env = (false, eval e X.env) :: starEach es X.env := by rfl) (hpl : (backTo pos (starEach es X.env)).any (·.1) = false := by rfl) :
    PE X (.Call (.Name x p) (e :: es) [] pos) (tCall sp [] E0 t) := by
  obtain ⟨f, fd, F, hm, kp, b, _⟩ := C.ex
  exact pe_call F (hr.mono hk) hg hm kp b .nil (fun _ _ _ _ _ _ _ h => h.elim) ha hdb he hpl
theorem pe_own0 (C : Cal X.prog X.w X.K X.mg X.base k x ps sp) (hr : Room j X.A) (hk : k ≤ j) (hg : Gl X x) (hdb : (x == ("__debug__" : Str)) = false := by decide) :
    PE X (.Call (.Name x p) [] [] pos) (tCall sp [] E0 tNil) := by
  obtain ⟨f, fd, F, hm, kp, b, _⟩ := C.ex
  exact pe_call0 F (hr.mono hk) hg hm kp b .nil (fun _ _ _ _ _ _ _ h => h.elim) hdb
end
/-- the same promise, asked only where no object is being written out -/
structure FnG (P : Program) (w : World) (K : PySem.W.Frag) (mg : Str → Option Value) (base : Heap) (CX : CXT) (k : Nat) (f : Addr) (fd : FuncData) (ps : List Str) (sp : Sp) : Prop where
  len : ∀ vs H Q E, sp vs H Q E → vs.length = ps.length
  run : ∀ (A : Around) (outer : List Env) (s : Shared) (H : Hp) (args : Args) (us : List Value) (vs : List V) (Q : VK) (E : XK), A.guards = some [] → Room k A → Env0 P w K mg base A outer s H →
    BindsTo s fd args (ps.zip us) → Vals vs us → sp vs H Q E → codeAny (model P w) A (.call (.ref f) args) (CR CX outer P w H s Q E) s
theorem deeper_guards {A : Around} {e : Env} (h : A.guards = some []) : (A.deeper e).guards = some [] := by
  first
    | exact h
    | simpa [Around.deeper, Around.under, pushGuards, Code.guards, Code.isGuard] using h
theorem fnG_of {CX : CXT} {P : Program} {w : World} {K : PySem.W.Frag} {mg : Str → Option Value} {base : Heap} {k : Nat} {f : Addr} {nm ql : Str} {pr : Arguments} {bd : List Stmt} {sc : Scope} {dv kv dc pm cd ct oc : Value} {an od : Option Addr}
    {sl : Array (Option Value)} {N ps : List Str} {sp : Sp}
    (lk : K.lookup f = some ⟨oc, od, .func (PySem.W.fnOf nm ql pr bd sc dv kv dc pm an cd ct), sl⟩)
    (hcd : PySem.W.codeIn K cd ql = true) (S : FnScope N ps sc) (len : ∀ vs H Q E, sp vs H Q E → vs.length = ps.length)
    (hb : ∀ (A : Around) (outer : List Env) (s : Shared) (H : Hp) (vs : List V) (Q : VK) (E : XK), (A.deeper (envOfC ql sc s.heap.objs.size f cd)).guards = some [] → Room k (A.deeper (envOfC ql sc s.heap.objs.size f cd)) → sp vs H Q E →
      ∃ t, PSs (cxOf CX P w K mg base N ql sc f cd A outer s H E) bd t ∧ t { nx := fun _ H' => Q .non H', rt := Q } (start N vs) H) :
    FnG P w K mg base CX (k + 1) f (PySem.W.fnOf nm ql pr bd sc dv kv dc pm an cd ct) ps sp := by
  refine ⟨len, fun A outer s H args us vs Q E hgd hr e0 hbi rv hs => ?_⟩
  obtain ⟨t, ht, hq⟩ := hb A outer s H vs Q E (deeper_guards hgd) (hr.deeper _) hs
  -- the very same body, as a promise that asks for this surrounding alone
  have kin : K.In s.heap := e0.mod.kin.keeps fun b o z => (e0.bs b o z).1
  have nol : s.heap.NoLimit := e0.mod.nolimit.keeps fun b o z => (e0.bs b o z).1
  refine codeAny_call_function hr.depth (kin _ _ lk) rfl S.co S.gen rfl (PySem.W.codeRec_of kin hcd) (hbi _ _ _ _ ?_)
  refine wpAny_newFunctionEnv_cells S.kind (fun y hy => ?_) fun env he s1 x => ?_
  · rcases S.par y.1 (List.of_mem_zip (show (y.1, y.2) ∈ ps.zip us from hy)).1 with z | z
    · exact Or.inl z
    · exact Or.inr ⟨z, PySem.W.cellsFrom_some _ _ _ (Or.inl z)⟩
  · subst he
    refine ⟨nol.keeps x.toInCall.keep, codeAny_func (wpAny_mono (ht.run [] s1 (start N vs) H _ (inv_start S hr.hd e0 (len _ _ _ _ hs) rv x) hq) (fun fl s' z => ?_) fun _ _ z => z)⟩
    cases fl with
    | ret u =>
      obtain ⟨v, σ', H', J, r', q'⟩ := z
      exact ⟨v, H', J.os, J.bare, J.base, J.hok, r', q'⟩
    | next =>
      obtain ⟨σ', H', J, q'⟩ := z
      exact ⟨V.non, H', J.os, J.bare, J.base, J.hok, rfl, q'⟩
    | brk => exact (z.elim fun _ z => z.elim fun _ z => False.elim z.2)
    | cont => exact (z.elim fun _ z => z.elim fun _ z => False.elim z.2)
theorem hid_ns {h : Heap} {H : Hp} {b : Addr} {m : Str → Option Value} (no : ∀ (o : Obj) (es : Array DictEntry) (ep : Nat), h.get? b = some o → o.data = .dict es ep → H b = none) (n : h.Ns b m) : (hidT h H).Ns b m := by
  obtain ⟨o, es, ep, e, d, r⟩ := n
  exact ⟨o, es, ep, hidT_get e (no o es ep e d), d, r⟩
/-- the law's call, from a promise that is asked only where no object is being written out -/
theorem law_callG {P : Program} {w : World} {K : PySem.W.Frag} {mg mb : Str → Option Value} {CX : CXT} {k : Nat} {fa a : Addr} {fd : FuncData} {x : Str} {sp : Sp} {t : Shared} {vs : List Value} {ns : List Int}
    (KX : K.In t.heap) (g1 : t.heap.Ns mainGlobals mg) (g2 : t.heap.Ns builtinsNs mb) (g3 : ∀ y : Str, y ≠ "__name__" → mb y = bootBuiltins y) (g4 : t.heap.NoLimit) (g5 : t.gens = #[])
    (ha : t.heap.get? a = some { cls := .type "list", data := .seq vs.toArray }) (hi : IntsAre vs ns) (hl : ns.length ≤ sizeLine) (hr : Room k callerA)
    (F : ∀ bs : Heap, K.In bs → bs.Ns mainGlobals mg → FnG P w K mg bs CX k fa fd [x] sp) (hbi : ∀ (s : Shared) (u : Value), BindsTo s fd ⟨[u], []⟩ [(x, u)])
    (hsp : ∀ H : Hp, Only H → SqL K H a (ns.map V.int) → sp [.ref a] H (fun v _ => v = .bl true) fun _ _ _ => False)
    (hCX : ∀ H e s', CX [] H t (fun _ _ _ => False) e s' → False) :
    codeAny (model P w) callerA (.call (.ref fa) ⟨[.ref a], []⟩) (fun r s' => r = .ok (.ret (.bool true)) ∧ OldK t.heap s'.heap ∧ s'.os = t.os ∧ AllBare s'.gens) t := by
  have rv := vals_ints hi
  have main : ∀ H : Hp, Only H → SqL K H a (ns.map V.int) → HOk P w H t.heap → (∀ b, H b ≠ none → b = a) → (H a ≠ none → K.lookup a = none) →
      codeAny (model P w) callerA (.call (.ref fa) ⟨[.ref a], []⟩) (fun r s' => r = .ok (.ret (.bool true)) ∧ OldK t.heap s'.heap ∧ s'.os = t.os ∧ AllBare s'.gens) t := by
    intro H only hS hok one out
    have no : ∀ (b : Addr) (o : Obj) (es : Array DictEntry) (ep : Nat), t.heap.get? b = some o → o.data = .dict es ep → H b = none := by
      intro b o es ep e d
      cases z : H b with
      | none => rfl
      | some u =>
        obtain rfl : b = a := one b (by rw [z]; simp)
        rw [ha] at e
        cases e
        exact absurd d (by simp)
    have kb : K.In (hidT t.heap H) := by
      intro b o e
      refine hidT_get (KX b o e) ?_
      cases z : H b with
      | none => rfl
      | some u =>
        obtain rfl : b = a := one b (by rw [z]; simp)
        rw [out (by rw [z]; simp)] at e
        cases e
    have ng : (hidT t.heap H).Ns mainGlobals mg := hid_ns (no _) g1
    have md : Mod K mg (hidT t.heap H) := ⟨kb, ng, ⟨mb, hid_ns (no _) g2, g3⟩, g4.elim fun mc h => ⟨mc, hid_ns (no _) h.1, h.2⟩⟩
    have ev : Env0 P w K mg (hidT t.heap H) callerA [] t H :=
      ⟨rfl, md, fun b o e => of_hidT e, Nat.le_of_eq (hidT_size _ _), trivial, fun b z => (List.not_mem_nil z).elim, hok, .of_eq g5⟩
    refine codeAny_mono ((F _ kb ng).run callerA [] t H ⟨[.ref a], []⟩ [.ref a] [.ref a] _ _ rfl hr ev (hbi t (.ref a)) (.cons rfl .nil) (hsp H only hS)) fun r s' h => ?_
    match r, h with
    | .error e, h => exact (hCX H e s' h).elim
    | .ok .next, h => exact False.elim h
    | .ok .brk, h => exact False.elim h
    | .ok .cont, h => exact False.elim h
    | .ok (.ret u), h =>
      obtain ⟨v, H', os, bare, un, hok2, r2, q⟩ := h
      obtain rfl : v = .bl true := q
      obtain rfl : u = Value.bool true := r2
      refine ⟨rfl, OldK.of_keep fun b o e => ?_, os, bare⟩
      rcases only b with z | ⟨ob, xs, z⟩
      · exact un.keep b o e z (fun y => (List.not_mem_nil y).elim) (by simp)
      · have y1 := (hok b _ z).1
        have y2 := (hok2 b _ (un.frzs b ob _ z)).1
        rw [e] at y1
        cases y1
        exact y2
  cases hk : K.lookup a with
  | some o =>
    have e := KX a o hk
    rw [ha] at e
    cases e
    refine main (fun _ => none) (fun _ => .inl rfl) (.inr ⟨_, vs.toArray, _, hk, rfl, rfl, rfl, ?_, ?_⟩) (fun b u z => nomatch (show (none : Option HO) = some u from z)) (fun b z => absurd rfl z) fun z => absurd rfl z
    · rw [List.size_toArray, hi.length]
      exact hl
    · simpa using rv
  | none =>
    have at1 : (fun b => if b = a then some (HO.frz { cls := .type "list", data := .seq vs.toArray } (.lst (ns.map V.int))) else none : Hp) a = some (HO.frz { cls := .type "list", data := .seq vs.toArray } (.lst (ns.map V.int))) := if_pos rfl
    refine main (fun b => if b = a then some (.frz { cls := .type "list", data := .seq vs.toArray } (.lst (ns.map V.int))) else none) (fun b => ?_) (.inl (.inr ⟨_, at1⟩)) (fun b u z => ?_) (fun b z => ?_) fun _ => hk
    · by_cases e : b = a
      · exact .inr ⟨_, _, if_pos e⟩
      · exact .inl (if_neg e)
    · by_cases e : b = a
      · subst e
        have y := at1.symm.trans z
        cases y
        exact ⟨ha, by rw [List.length_map]; exact hl, vs, _, rv, ha⟩
      · exact nomatch ((if_neg e).symm.trans z)
    · by_cases e : b = a
      · exact e
      · exact absurd (if_neg e) z
theorem walk_ofG {l : PySem.W.OpenLaw} {n k : Nat} {q : Program} {loose : List Str} {XP : (Str → Option Value) → Heap → Prop} {YP : World → Heap → Prop} {d : DefRec} {K : Params → PySem.W.Frag} {CX : CXT} {sp : PySem.W.Frag → Sp} {x : Str}
    (hn : l.most = some n) (hn2 : n ≤ sizeLine) (hdf : d.params.defaults = []) (hr : Room k callerA) (hY : ∀ (w : World) (h : Heap), YP w h → (K w.params).In h)
    (F : ∀ (w : World) (mg : Str → Option Value) (fa : Addr) (h : Heap), (K w.params).In h → h.Ns mainGlobals mg → mg d.name = some (.ref fa) →
      ∃ fd : FuncData, (∀ (s : Shared) (u : Value), BindsTo s fd ⟨[u], []⟩ [(x, u)]) ∧
        ∀ bs : Heap, (K w.params).In bs → bs.Ns mainGlobals mg → FnG l.prog w (K w.params) mg bs CX k fa fd [x] (sp (K w.params)))
    (hsp : ∀ (K : PySem.W.Frag) (H : Hp) (a : Addr) (ns : List Int), ns.length ≤ n → SqL K H a (ns.map V.int) → sp K [.ref a] H (fun v _ => v = .bl true) fun _ _ _ => False)
    (hCX : ∀ (H : Hp) (s : Shared) (e : Value) (s' : Shared), CX [] H s (fun _ _ _ => False) e s' → False) :
    PySem.W.WalkO q loose XP YP l.row.toRowW d [] (fun f vs => PySem.call f vs) := by
  refine Att.attach_call hn hdf fun w s₀ t mg mb fa o pm cd doc a vs ns G Y ho hd hcd hmg hobj hints hlen hg => ?_
  have KX := hY w _ Y
  obtain ⟨fd, hb, hF⟩ := F w mg fa _ KX G.T.g hmg
  exact law_callG KX G.T.g G.T.b G.T.builtins G.T.nolimit hg hobj hints (Nat.le_trans hlen hn2) hr hF hb (fun H _ hS => hsp (K w.params) H a ns hlen hS) fun H e s' => hCX H t e s'
end Su
/-! ### B1: repr of data, t.index(n), a call by keywords alone, data that is small enough -/
namespace Su
open PySem PySem.Spec PyProof.Rows L2
/-- data of small numbers, of depth n at most, of weight m at most -/
structure Fine (d : PyData) (n m : Nat) : Prop where
  sh : d.showable = true
  nd : d.hasDict = false
  dp : d.depth ≤ n
  lv : d.leavesShort 13 = true
  wt : d.weight ≤ m
  cl : d.canLay0 = true
structure FineL (ds : List PyData) (n m : Nat) : Prop where
  sh : PyData.showableAll ds = true
  nd : PyData.hasDictAll ds = false
  dp : PyData.depthAll ds ≤ n
  lv : PyData.leavesShortAll 13 ds = true
  wt : PyData.weightAll ds ≤ m
  cl : PyData.canLayAll0 ds = true
theorem Fine.int {i : Int} (h1 : -1000000 ≤ i) (h2 : i ≤ 1000000) : Fine (.int i) 0 40 := by
  have hb : i.natAbs < 10 ^ 12 := by omega
  have e : i.natAbs < 2 ^ 20 := by omega
  have hl : i.natAbs.log2 < 39 := by
    by_cases z : i.natAbs = 0
    · rw [z]
      decide
    · exact (Nat.log2_lt z).mpr (by omega)
  refine ⟨?_, by simp [PyData.hasDict], by simp [PyData.depth], ?_, ?_, by first | rfl | simp [PyData.canLay0]⟩
  · simp only [PyData.showable, decide_eq_true_eq]
    omega
  · simp only [PyData.leavesShort, decide_eq_true_eq]
    exact PyData.shown_int_le hb
  · simp only [PyData.weight]
    split <;> omega
theorem Fine.bool (b : Bool) : Fine (.bool b) 0 0 := ⟨by simp [PyData.showable], by simp [PyData.hasDict], by simp [PyData.depth], by simp [PyData.leavesShort], by simp [PyData.weight], by first | rfl | simp [PyData.canLay0]⟩
theorem Fine.none : Fine .none 0 0 := ⟨by simp [PyData.showable], by simp [PyData.hasDict], by simp [PyData.depth], by simp [PyData.leavesShort], by simp [PyData.weight], by first | rfl | simp [PyData.canLay0]⟩
theorem FineL.nil {n : Nat} : FineL [] n 0 := ⟨by simp [PyData.showableAll], by simp [PyData.hasDictAll], by simp [PyData.depthAll], by simp [PyData.leavesShortAll], by simp [PyData.weightAll], by first | rfl | simp [PyData.canLayAll0]⟩
theorem FineL.cons {d : PyData} {ds : List PyData} {n m k : Nat} (h : Fine d n m) (t : FineL ds n k) : FineL (d :: ds) n (m + 1 + k) := by
  refine ⟨?_, ?_, ?_, ?_, ?_, ?_⟩
  · simp only [PyData.showableAll, h.sh, t.sh, Bool.and_self]
  · simp only [PyData.hasDictAll, h.nd, t.nd, Bool.or_self]
  · simp only [PyData.depthAll]
    have := h.dp
    have := t.dp
    omega
  · simp only [PyData.leavesShortAll, h.lv, t.lv, Bool.and_self]
  · simp only [PyData.weightAll]
    have := h.wt
    have := t.wt
    omega
  · simp only [PyData.canLayAll0, h.cl, t.cl, Bool.and_self]
theorem Fine.tuple {ds : List PyData} {n m : Nat} (t : FineL ds n m) : Fine (.tuple ds) (n + 1) m :=
  ⟨by simpa only [PyData.showable] using t.sh, by simpa only [PyData.hasDict] using t.nd, by simp only [PyData.depth]; have := t.dp; omega, by simpa only [PyData.leavesShort] using t.lv, by simpa only [PyData.weight] using t.wt, by simpa only [PyData.canLay0] using t.cl⟩
theorem Fine.list {ds : List PyData} {n m : Nat} (t : FineL ds n m) : Fine (.list ds) (n + 1) m :=
  ⟨by simpa only [PyData.showable] using t.sh, by simpa only [PyData.hasDict] using t.nd, by simp only [PyData.depth]; have := t.dp; omega, by simpa only [PyData.leavesShort] using t.lv, by simpa only [PyData.weight] using t.wt, by simpa only [PyData.canLay0] using t.cl⟩
theorem Fine.up {d : PyData} {n m n' m' : Nat} (h : Fine d n m) (a : n ≤ n') (b : m ≤ m') : Fine d n' m' := ⟨h.sh, h.nd, Nat.le_trans h.dp a, h.lv, Nat.le_trans h.wt b, h.cl⟩
theorem FineL.ints : ∀ ns : List Int, (∀ z ∈ ns, -1000000 ≤ z ∧ z ≤ 1000000) → FineL (ns.map PyData.int) 0 (41 * ns.length)
  | [], _ => FineL.nil
  | z :: ns, h => by
    have a := FineL.cons (Fine.int (h z List.mem_cons_self).1 (h z List.mem_cons_self).2) (FineL.ints ns fun y hy => h y (List.mem_cons_of_mem _ hy))
    have e : 40 + 1 + 41 * ns.length = 41 * (z :: ns).length := by
      rw [List.length_cons]
      omega
    rw [e] at a
    exact a
theorem Fine.len {d : PyData} {n m : Nat} (h : Fine d n m) (hm : m ≤ 1000000) : d.shown.length ≤ sizeLine := PyData.shown_fits (B := 13) (by decide) (by decide) h.lv (by have := h.wt; omega)
theorem Fine.shaped {d : PyData} {n m : Nat} (h : Fine d n m) (hn : n ≤ 64) : SeqAt.shaped d = true := by
  unfold SeqAt.shaped
  rw [h.cl, Bool.true_and, decide_eq_true_eq]
  exact Nat.le_trans h.dp hn
theorem Fine.eqv {d : PyData} {n m : Nat} (h : Fine d n m) : PyData.eqv d d = true := SeqAt.eqv_refl d h.cl
section
variable {X : Cx}
/-- repr(x), x a list or tuple of data -/
def rReprD (K : PySem.W.Frag) : List V → Hp → VK → Prop := fun xs H Q => ∃ (a : Addr) (d : PyData) (n m : Nat), xs = [.ref a] ∧ Dp K H (.ref a) d ∧ Fine d n m ∧ n ≤ 60 ∧ m ≤ 1000000 ∧ Q (.str d.shown) H
theorem call_reprD (hg : X.A.guards = some []) (hu : X.A.units + 64 < cLine) : CallR X (.builtin "repr") (rReprD X.K) := by
  intro pins s σ H xs us Q I r h
  obtain ⟨a, d, n, m, rfl, hd, hf, hn, hm, q⟩ := h
  rw [Vals.ref1 r]
  obtain ⟨as, rd⟩ := Dp.reads I d _ (.ref a) hd rfl
  refine repr_of_reads' rd hf.sh (PyData.noDict_hsm hf.nd) hg (by have := hf.dp; omega) (fun _ _ z => z) (fun h' u tk hk => ⟨.str d.shown, H, I.kept hk, ⟨u, rfl⟩, q⟩) (hf.len hm)
/-- t.index(n), t a tuple of ints that has n -/
def rTIndex (K : PySem.W.Frag) : V → List V → Hp → VK → Prop := fun x xs H Q => ∃ (p : Addr) (ns : List Int) (k : Int), x = .ref p ∧ xs = [.int k] ∧ SqT K H p (ns.map V.int) ∧ k ∈ ns ∧ Q (.int (ns.idxOf k : Nat)) H
theorem ints_of : ∀ {ns : List Int} {vs : List Value}, Vals (ns.map V.int) vs → IntsAre vs ns
  | [], _, r => by
    cases r
    exact .nil
  | n :: ns, _, r => by
    cases r with
    | cons r1 r2 =>
      obtain ⟨t, rfl⟩ := r1
      exact .cons _ _ (ints_of r2)
theorem mt_tindex : MtR X "tuple.index" (rTIndex X.K) := by
  intro pins s σ H x xs v us Q I rx rs h
  obtain ⟨p, ns, k, rfl, rfl, hq, hk, q⟩ := h
  cases rx
  obtain ⟨u, rfl, t, rfl⟩ := vals1 rs
  obtain ⟨its, r, pl, hz⟩ := I.tuple hq
  exact PySem.SeqAt.tuple_index_ints (l := p) (vs := its) pl (ints_of r) hk ⟨.int (ns.idxOf k : Nat), H, I.tok _, ⟨_, rfl⟩, q⟩
end
section
variable {X : Cx} {k j : Nat} {x : Str} {ps ks : List Str} {sp : Sp} {p pos : Pos} {kws : List Keyword} {tk : TA}
/-- a def that keeps a promise, called by keywords alone -/
structure KCal (P : Program) (w : World) (K : PySem.W.Frag) (mg : Str → Option Value) (base : Heap) (k : Nat) (x : Str) (ks : List Str) (gV : List V → List V → List V) (sp : Sp) : Prop where
  ex : ∃ (f : Addr) (fd : FuncData) (ps : List Str) (g : List Value → List Value → List Value), FnOk P w K mg base CX0 k f fd ps sp ∧ mg x = some (.ref f) ∧ PySem.W.keepIn K (.ref f) = true ∧ KBinds K fd ps ks g gV
variable {gV : List V → List V → List V}
def tKws (sp : Sp) (gV : List V → List V → List V) (tk : TA) : TE := fun σ H Q => tk σ H fun zs H2 => sp (gV [] zs) H2 Q E0
theorem pe_ownK (C : KCal X.prog X.w X.K X.mg X.base k x ks gV sp) (hr : Room j X.A) (hk : k ≤ j) (hg : Gl X x) (hkw : PK X kws tk)
    (hall : (backToKw pos (keywordEach kws X.env)).all (·.1.isSome) = true := by rfl) (hks : (backToKw pos (keywordEach kws X.env)).filterMap (·.1) = ks := by rfl) (hdb : (x == ("__debug__" : Str)) = false := by decide)
    (hpl : ((backTo pos (starEach [] X.env)).any (·.1) || (backToKw pos (keywordEach kws X.env)).any (·.1.isNone)) = false := by rfl) : PE X (.Call (.Name x p) [] kws pos) (tKws sp gV tk) := by
  obtain ⟨f, fd, ps, g, F, hm, kp, b⟩ := C.ex
  refine ⟨fun pins s σ H Q I h => ?_⟩
  refine wpAny_Call_Name_kw (ld_glob I hg hm ?_ hdb)
  refine PySem.W.callWith_KW0 (h₀ := X.base) I.ok.mod.kin kp hall (thn (hkw.run pos pins s σ H _ I h) fun ws s2 ⟨zs, H2, I2, rz, q2⟩ => ⟨I2.kIn, ?_⟩) hpl
  rw [hks]
  exact run_fnk F (hr.mono hk) b (fun _ _ _ _ _ _ _ z => z.elim) I2 .nil rz q2
end
end Su
/-! ### B2: tuples whose object is known to have no dict: their methods may be called -/
namespace Su
open PySem PySem.Spec PyProof.Rows L2
def PTup (H : Hp) (a : Addr) (xs : List V) : Prop := ∃ o : Obj, H a = some (.frz o (.tup xs)) ∧ o.dict = none
theorem PTup.sq {K : PySem.W.Frag} {H : Hp} {a : Addr} {xs : List V} (h : PTup H a xs) : SqT K H a xs := by
  obtain ⟨o, e, _⟩ := h
  exact .inl (.inr ⟨o, e⟩)
theorem PTup.same {H H' : Hp} {a : Addr} {xs : List V} (h : PTup H a xs) (s : Same H H') : PTup H' a xs := by
  obtain ⟨o, e, d⟩ := h
  exact ⟨o, s _ _ e, d⟩
theorem same_upd {H : Hp} {p : Addr} {o : HO} (h : H p = none) : Same H (upd H p o) := fun b x e => by
  rw [upd_ne (ne_of_none e h)]
  exact e
section
variable {X : Cx} {pins : List (Addr × Obj)} {σ : L2.St} {H : Hp} {s : Shared}
/-- a new tuple's object -/
abbrev tupO (its : List Value) : Obj := { cls := .type "tuple", data := .seq its.toArray }
theorem laidF {xs : List V} {its : List Value} (I : Inv X pins σ H s) (r : Vals xs its) (hz : xs.length ≤ sizeLine) (t' : Tok) :
    Inv X pins σ (upd H s.heap.objs.size (.frz (tupO its) (.tup xs))) { s with heap := s.heap.push (tupO its), toks := t' } := by
  refine I.laid (t' := t') (o := .frz (tupO its) (.tup xs)) (fun b ob q => Heap.get?_push_of_some _ q) (Nat.le_refl _) ?_
  exact ⟨Heap.get?_push_size _ rfl, hz, its, r, IsTup.new _ _⟩
theorem newF {xs : List V} {its : List Value} {Q : VK} (I : Inv X pins σ H s) (r : Vals xs its) (hz : xs.length ≤ sizeLine) (q : ∀ v H', Same H H' → H v = none → PTup H' v xs → Q (.ref v) H') (t' : Tok) :
    EP X pins σ Q (.ref s.heap.objs.size) { s with heap := s.heap.push (tupO its), toks := t' } :=
  have hf : H s.heap.objs.size = none := I.hok.fresh (Nat.le_refl _)
  ⟨.ref s.heap.objs.size, _, laidF I r hz t', rfl, q _ _ (same_upd hf) hf ⟨_, upd_same, rfl⟩⟩
end
section
variable {X : Cx} {es : List Expr} {t : TA} {pos : Pos}
def tTupF (t : TA) : TE := fun σ H Q => t σ H fun xs H1 => xs.length ≤ sizeLine ∧ ∀ v H', Same H1 H' → H1 v = none → PTup H' v xs → Q (.ref v) H'
theorem pe_tupF {x1} (h : PA X es t) : PE X (.Tuple es x1 pos) (tTupF t) := by
  refine ⟨fun pins s σ H Q I hq => ?_⟩
  refine wpAny_Tuple_spliced (thn (h.run pos pins s σ H _ I hq) fun us s1 ⟨xs, H1, I1, r, z, q⟩ => ⟨by rw [← r.length]; exact z, ?_⟩)
  exact newF I1 r z q s1.toks
def rTupL (K : PySem.W.Frag) : List V → Hp → VK → Prop := fun xs H Q => ∃ p ys, xs = [.ref p] ∧ SqL K H p ys ∧ ∀ v H', Same H H' → H v = none → PTup H' v ys → Q (.ref v) H'
theorem call_tupleF : CallR X (.type "tuple") (rTupL X.K) := by
  intro pins s σ H xs us Q I r h
  obtain ⟨p, ys, rfl, hq, q⟩ := h
  obtain ⟨u, rfl, rx⟩ := vals1 r
  cases rx
  obtain ⟨its, r', pl, hz⟩ := I.list hq
  have hlen := r'.length
  refine call_tuple_list pl.isList (fun h' kp => ?_) (by simp only [List.size_toArray] <;> omega)
  exact newF (s := { s with heap := h' }) (I.kept (t' := s.toks) kp) r' hz q s.toks
def rCatF : R2 := fun x y H Q => ∃ a b xs ys, x = .ref a ∧ y = .ref b ∧ PTup H a xs ∧ PTup H b ys ∧ xs.length + ys.length ≤ sizeLine ∧ ∀ v H', Same H H' → PTup H' v (xs ++ ys) → Q (.ref v) H'
theorem op_catF : OpR X (binaryOp .Add) rCatF := by
  intro pins s σ H x y v u Q I rx ry h
  obtain ⟨a, b, xs, ys, rfl, rfl, ha, hb, hz, q⟩ := h
  cases rx
  cases ry
  obtain ⟨its, r1, p1, _⟩ := I.tuple (ha.sq (K := X.K))
  obtain ⟨its2, r2, p2, _⟩ := I.tuple (hb.sq (K := X.K))
  by_cases hx : xs = []
  · subst hx
    cases r1
    exact cat_tup0 p1 p2 ⟨.ref b, H, I, rfl, q b H (Same.refl H) hb⟩
  · refine HT.cat_tup p1 p2 (fun z => hx (r1.nil_iff.mp z)) (fun z => ⟨.ref a, H, I, rfl, q a H (Same.refl H) ?_⟩) (fun z => ?_) (by rw [← r1.length, ← r2.length]; exact hz)
    · rw [r2.nil_iff.mp z, List.append_nil]
      exact ha
    · exact newF I (r1.append r2) (by rw [List.length_append]; exact hz) (fun v H' s' _ h => q v H' s' h) s.toks
def rSlF : V → Option Int → Option Int → Hp → VK → Prop := fun x lo hi H Q => ∃ a xs, x = .ref a ∧ PTup H a xs ∧ ∀ v H', Same H H' → PTup H' v (cutV xs lo hi) → Q (.ref v) H'
theorem sl_tupF : SlR X rSlF := by
  intro pins s σ H x v vl vu lo hi sl Q I rx hs pl pu h
  obtain ⟨a, xs, rfl, hx, q⟩ := h
  cases rx
  obtain ⟨its, r, ht, hz⟩ := I.tuple (hx.sq (K := X.K))
  have hlen : its.toArray.size = xs.length := by rw [List.size_toArray]; exact r.length.symm
  refine ⟨"tuple", _, PyProof.Rows.slot_tuple_getitem.lookup, ht.typeIs, ?_⟩
  by_cases hw : HT.sIx xs.length 0 lo = 0 ∧ HT.sIx xs.length xs.length hi = xs.length
  · refine getItem_tuple_whole ht hs pl pu (by rw [hlen]; exact hw) ⟨.ref a, H, I, rfl, q a H (Same.refl H) ?_⟩
    have z : cutV xs lo hi = xs := by
      unfold cutV
      rw [hw.1, hw.2, Nat.sub_zero, List.drop_zero, List.take_length]
    rw [z]
    exact hx
  · refine HT.getItem_tuple_cut ht hs pl pu (by rw [hlen]; exact hw) ?_ (by rw [hlen]; exact hz)
    rw [hlen]
    exact newF I ((r.drop (HT.sIx xs.length 0 lo)).take (HT.sIx xs.length xs.length hi - HT.sIx xs.length 0 lo)) (Nat.le_trans (cutV_length xs lo hi) hz) (fun v H' s' _ h => q v H' s' h) s.toks
/-- t.m(e, ..), t such a tuple -/
def tMT (r : V → List V → Hp → VK → Prop) (to : TE) (t : TA) : TE := fun σ H Q => to σ H fun x H1 => (∃ a xs, x = .ref a ∧ PTup H1 a xs) ∧ t σ H1 fun xs H2 => r x xs H2 Q
variable {o e : Expr} {to : TE} {name : Str} {apos cpos : Pos} {id : String} {r : V → List V → Hp → VK → Prop}
theorem pe_mT (slot : Slot "tuple" name id) (hty : typeOf (.builtin id) = pure (.type "method_descriptor")) (hm : MtR X id r) (ho : PE X o to) (ha : PA X (e :: es) t)
    (hbase : attributeBase o name X.env (eval o X.env) = eval o X.env := by rfl)
    (hfew : ((backTo cpos (starEach (e :: es) X.env)).all (fun x => !x.1) && (backToKw cpos (keywordEach [] X.env)).all (fun x => x.1.isSome) && decide ((e :: es).length + ([] : List Keyword).length + (if ([] : List Keyword).isEmpty then 0 else 1) < 30)) = true := by rfl)
    (hline : (apos.endLine == cpos.line) = true := by rfl) (hs : starEach (e :: es) X.env = (false, eval e X.env) :: starEach es X.env := by rfl) (hplain : (backTo cpos (starEach es X.env)).any (·.1) = false := by rfl) :
    PE X (.Call (.Attribute o name apos) (e :: es) [] cpos) (tMT r to t) := by
  refine ⟨fun pins s σ H Q I h => ?_⟩
  refine wpAny_Call_method_late hbase hfew hline rfl (thn (ho.run pins s σ H _ I h) fun v s1 ⟨x, H1, I1, r1, ⟨a, xs, ex, pt⟩, q1⟩ => ?_)
  subst ex
  cases r1
  obtain ⟨its, rv, tp, _⟩ := I1.tuple (pt.sq (K := X.K))
  obtain ⟨ob, eo, ed⟩ := pt
  have g1 := (I1.hok a _ eo).1
  refine ⟨"tuple", id, PySem.F.plainAttrs_tuple, slot, hty, tp.typeIs, fun b eb => ?_, ?_⟩
  · cases eb
    exact ⟨ob, g1, ed⟩
  have hA := ha.run cpos pins s1 σ H1 _ I1 q1
  rw [hs] at hA ⊢
  refine Calls.callWith_builtin (by show (false || (backTo cpos (starEach es X.env)).any (·.1)) = false; rw [hplain] <;> rfl) (Calls.evalArgs_plain ?_)
  exact thn hA fun us s2 ⟨vs, H2, I2, r2, q2⟩ => hm pins s2 σ H2 (.ref a) vs _ us Q I2 rfl r2 q2
end
end Su
/-! ### PL: the pool from which a law draws -/
namespace Su
open PySem PySem.Spec PyProof.Rows L2
/-- the built-in names that the text does not bind -/
structure Bt (mg : Str → Option Value) : Prop where
  len : mg "len" = none
  sum : mg "sum" = none
  abs : mg "abs" = none
  int : mg "int" = none
  min : mg "min" = none
  max : mg "max" = none
  range : mg "range" = none
  sorted : mg "sorted" = none
  list : mg "list" = none
  tuple : mg "tuple" = none
  repr : mg "repr" = none
  set : mg "set" = none
  all : mg "all" = none
  isinstance : mg "isinstance" = none
  str : mg "str" = none
  bool : mg "bool" = none
  reversed : mg "reversed" = none
  enumerate : mg "enumerate" = none
  zip : mg "zip" = none
  any : mg "any" = none
  dict : mg "dict" = none
theorem cutV_ints (ns : List Int) (lo hi : Option Int) : ∃ ms : List Int, cutV (ns.map V.int) lo hi = ms.map V.int := by
  unfold cutV
  exact ⟨_, by rw [← List.map_drop, ← List.map_take]⟩
theorem atI_int {α : Type} {xs : List α} {i : Int} {v : α} (h0 : 0 ≤ i) (h : xs[i.toNat]? = some v) : atI xs i = some v := by
  have e := atI_nat h
  rw [Int.toNat_of_nonneg h0] at e
  exact e
theorem b01 (b : Bool) : -(2 ^ 64) < (if b = true then (1 : Int) else 0) ∧ (if b = true then (1 : Int) else 0) < 2 ^ 64 := by
  cases b <;> exact ⟨by decide, by decide⟩
/-! the pool -/
def PoolO (o : HO) : Prop := ∃ g m : Int, o = .lst [.int g, .int m] ∧ 0 ≤ g ∧ 0 ≤ m ∧ m < 2147483647
def PoolAt (H : Hp) (p : Addr) : Prop := ∃ o, H p = some o ∧ PoolO o
def spTake : Sp := fun vs H Q _ => ∃ (p : Addr) (many : Int), vs = [.ref p, .int many] ∧ PoolAt H p ∧ 1 ≤ many ∧ many < 1000000 ∧
  ∀ (r : Int) (o : HO), 0 ≤ r → r < many → PoolO o → Q (.int r) (upd H p o)
def spPool (K : PySem.W.Frag) : Sp := fun vs H Q _ => ∃ (a : Addr) (ns : List Int) (k : Int), vs = [.ref a, .int k] ∧ SqL K H a (ns.map V.int) ∧ 0 ≤ k ∧ k < 1000 ∧
  ∀ (p : Addr) (H' : Hp), Same H H' → H p = none → PoolAt H' p → Q (.ref p) H'
/-- all but what stands at p is as it was -/
def Kept (p : Addr) (H H' : Hp) : Prop := ∀ b o, H b = some o → b ≠ p → H' b = some o
theorem Kept.refl (p : Addr) (H : Hp) : Kept p H H := fun _ _ h _ => h
theorem Kept.trans {p : Addr} {H H1 H2 : Hp} (a : Kept p H H1) (b : Kept p H1 H2) : Kept p H H2 := fun c o h n => b c o (a c o h n) n
theorem Kept.same {p : Addr} {H H1 : Hp} (a : Same H H1) : Kept p H H1 := fun c o h _ => a c o h
theorem Kept.upd (p : Addr) (H : Hp) (o : HO) : Kept p H (upd H p o) := fun b x e n => by
  rw [upd_ne n]
  exact e
theorem Kept.set {p b : Addr} {H H1 : Hp} {o : HO} (a : Kept p H H1) (hb : H b = none) : Kept p H (L2.upd H1 b o) := fun c x e n => by
  rw [upd_ne (ne_of_none e hb)]
  exact a c x e n
theorem Kept.free {p b : Addr} {H H' : Hp} (a : Kept p H H') (n : b ≠ p) (h : H' b = none) : H b = none := by
  cases z : H b with
  | none => rfl
  | some o =>
    rw [a b o z n] at h
    cases h
theorem pool_ne {H : Hp} {p b : Addr} (h : PoolAt H p) (n : H b = none) : b ≠ p := by
  obtain ⟨o, e, _⟩ := h
  exact (ne_of_none e n).symm
theorem PoolAt.upd {H : Hp} {p b : Addr} {o : HO} (h : PoolAt H p) (n : p ≠ b) : PoolAt (upd H b o) p := by
  obtain ⟨x, e, z⟩ := h
  exact ⟨x, by rw [upd_ne n]; exact e, z⟩
theorem PoolAt.same {H H' : Hp} {p : Addr} (h : PoolAt H p) (s : Same H H') : PoolAt H' p := by
  obtain ⟨o, e, z⟩ := h
  exact ⟨o, s _ _ e, z⟩
theorem PTup.kept {p a : Addr} {H H' : Hp} {xs : List V} (h : PTup H a xs) (k : Kept p H H') (hp : PoolAt H p) : PTup H' a xs := by
  obtain ⟨o, e, d⟩ := h
  obtain ⟨x, e2, g, m, rfl, _⟩ := hp
  refine ⟨o, k _ _ e (fun z => ?_), d⟩
  subst z
  rw [e] at e2
  cases e2
theorem seq_kept {K : PySem.W.Frag} {p a : Addr} {H H' : Hp} {xs : List V} (k : Kept p H H') (n : a ≠ p) (h : SqL K H a xs) : SqL K H' a xs := by
  rcases h with (h | ⟨o, h⟩) | h
  · exact .inl (.inl (k _ _ h n))
  · exact .inl (.inr ⟨o, k _ _ h n⟩)
  · exact .inr h
theorem tyes {σ : L2.St} {H : Hp} {A B : Hp → Prop} (h : A H) : tYes σ H (fun b H3 => if b = true then A H3 else B H3) := (iteT h : if true = true then A H else B H)
theorem erase_map (f : Int → V) : ∀ (l : List Int) (j : Nat), (l.map f).eraseIdx j = (l.eraseIdx j).map f
  | [], _ => rfl
  | _ :: _, 0 => rfl
  | x :: l, j + 1 => by
    show f x :: (l.map f).eraseIdx j = f x :: (l.eraseIdx j).map f
    rw [erase_map f l j]
theorem free_upd {H : Hp} {a b : Addr} {o : HO} (h : upd H a o b = none) : b ≠ a ∧ H b = none := by
  by_cases e : b = a
  · subst e
    rw [upd_same] at h
    cases h
  · rw [upd_ne e] at h
    exact ⟨e, h⟩
theorem seqIx {i : Int} {n : Nat} (h0 : 0 ≤ i) (h : i < n) : seqIndex? i n = some i.toNat :=
  (ixN_seq (n := n) (i := i) (j := i.toNat) (by unfold ixN; rw [if_pos h0, if_pos h])).1
theorem erase_perm : ∀ (l : List Int) (j : Nat) (y : Int), l[j]? = some y → (y :: l.eraseIdx j).Perm l
  | [], j, y, h => by simp at h
  | x :: l, 0, y, h => by
    have e : x = y := by simpa using h
    rw [e]
    exact List.Perm.refl _
  | x :: l, j + 1, y, h => by
    have e : l[j]? = some y := by simpa using h
    exact (List.Perm.swap x y (l.eraseIdx j)).trans ((erase_perm l j y e).cons x)
abbrev rLenK (K : PySem.W.Frag) : List V → Hp → VK → Prop := fun xs H Q => ∃ p ys, xs = [.ref p] ∧ (SqL K H p ys ∨ SqT K H p ys) ∧ Q (.int ys.length) H
def spPicked (K : PySem.W.Frag) : Sp := fun vs H Q _ => ∃ (p b : Addr) (ns : List Int) (many : Int), vs = [.ref p, .ref b, .int many] ∧ PoolAt H p ∧ SqL K H b (ns.map V.int) ∧ b ≠ p ∧ ns.Nodup ∧ ns.length ≤ 1000 ∧ 0 ≤ many ∧
  ∀ (q : Addr) (H' : Hp) (ms : List Int), H q = none → Kept p H H' → PoolAt H' p → H' q = some (.lst (ms.map V.int)) → ms.Nodup → (∀ x ∈ ms, x ∈ ns) → ms.length = min many.toNat ns.length → ms.Pairwise (· ≤ ·) → Q (.ref q) H'
def hundred : List Int := (List.range 100).map fun i => ((i : Nat) : Int)
theorem hundred_rg : rgV 0 100 = hundred.map V.int := by
  unfold rgV hundred
  rw [List.map_map]
  rfl
theorem hundred_nd : hundred.Nodup := by decide +kernel
theorem hundred_len : hundred.length = 100 := rfl
theorem hundred_mem {x : Int} (h : x ∈ hundred) : 0 ≤ x ∧ x < 100 := by
  unfold hundred at h
  obtain ⟨i, hi, rfl⟩ := List.mem_map.mp h
  have := List.mem_range.mp hi
  omega
theorem cons_nil_fin {α : Type} {xs : List α} {r : Int} (n : Nat) (h : xs.length = n) (r0 : 0 ≤ r) (r1 : r < n) : ∃ v ∈ xs, atI xs r = some v := by
  have hr : r.toNat < xs.length := by omega
  exact ⟨xs[r.toNat], List.getElem_mem hr, atI_int r0 (List.getElem?_eq_getElem hr)⟩
theorem iteB {c : Bool} {A B : Prop} (h1 : c = true → A) (h2 : c = false → B) : if c = true then A else B := by
  cases c
  · exact iteF (h2 rfl)
  · exact iteT (h1 rfl)
theorem sorted_one : ∀ {xs ys : List Int}, xs.Pairwise (· < ·) → ys.Pairwise (· < ·) → (∀ k, k ∈ xs ↔ k ∈ ys) → xs = ys
  | [], [], _, _, _ => rfl
  | [], y :: ys, _, _, h => (List.not_mem_nil ((h y).mpr List.mem_cons_self)).elim
  | x :: xs, [], _, _, h => (List.not_mem_nil ((h x).mp List.mem_cons_self)).elim
  | x :: xs, y :: ys, hx, hy, h => by
    have px := List.pairwise_cons.mp hx
    have py := List.pairwise_cons.mp hy
    have e : x = y := by
      rcases List.mem_cons.mp ((h x).mp List.mem_cons_self) with z | z
      · exact z
      · rcases List.mem_cons.mp ((h y).mpr List.mem_cons_self) with z2 | z2
        · exact z2.symm
        · have h1 := py.1 x z
          have h2 := px.1 y z2
          omega
    subst e
    have r : xs = ys := sorted_one px.2 py.2 fun k => by
      constructor
      · intro hk
        rcases List.mem_cons.mp ((h k).mp (List.mem_cons_of_mem _ hk)) with z | z
        · have h1 := px.1 k hk
          omega
        · exact z
      · intro hk
        rcases List.mem_cons.mp ((h k).mpr (List.mem_cons_of_mem _ hk)) with z | z
        · have h1 := py.1 k hk
          omega
        · exact z
    rw [r]
theorem nodup_few {S : List Int} : ∀ {ms : List Int}, ms.Nodup → (∀ k ∈ ms, k ∈ S) → ms.length ≤ S.length := by
  induction S with
  | nil =>
    intro ms _ h
    cases ms with
    | nil => exact Nat.le_refl _
    | cons x l => exact (List.not_mem_nil (h x List.mem_cons_self)).elim
  | cons y S ih =>
    intro ms nd h
    have z := ih (ms := ms.erase y) (nd.erase y) fun k hk => by
      have h1 := (nd.mem_erase_iff.mp hk)
      rcases List.mem_cons.mp (h k h1.2) with e | e
      · exact absurd e h1.1
      · exact e
    rw [List.length_cons]
    by_cases hy : y ∈ ms
    · rw [List.length_erase_of_mem hy] at z
      omega
    · rw [List.erase_of_not_mem hy] at z
      omega
theorem fnG_fun {P : Program} {w : World} {K : PySem.W.Frag} {mg : Str → Option Value} {base : Heap} {x ql : Str} {st : Stmt} {f : Addr} {fd : FuncData} {N ps : List Str} {k : Nat} {sp : Sp} (F : Fun K x ql st f fd) (S : FnScope N ps (defScope st)) (len : ∀ vs H Q E, sp vs H Q E → vs.length = ps.length)
    (hb : ∀ (cdv : Value) (A : Around) (outer : List Env) (s : Shared) (H : Hp) (vs : List V) (Q : VK) (E : XK), (A.deeper (envOfC ql (defScope st) s.heap.objs.size f cdv)).guards = some [] → Room k (A.deeper (envOfC ql (defScope st) s.heap.objs.size f cdv)) → sp vs H Q E →
      ∃ t, PSs (cxOf CX0 P w K mg base N ql (defScope st) f cdv A outer s H E).nox (defBody st) t ∧ t { nx := fun _ H' => Q .non H', rt := Q } (start N vs) H) : FnG P w K mg base CX0 (k + 1) f fd ps sp := by
  obtain ⟨oc, od, kV, doc, pm, an, cdv, ct, osl, rfl, lk, hcd⟩ := F.ex
  refine fnG_of lk hcd S len fun A outer s H vs Q E hg hr hsp => ?_
  obtain ⟨t, h, q⟩ := hb cdv A outer s H vs Q E hg hr hsp
  exact ⟨t, h.nox, q⟩
section
variable {X : Cx} {e : Expr}
/-- a test that is never asked, an expression that is never reckoned -/
def tNo : TT := fun _ _ _ => False
theorem pt_never : PT X e tNo := ⟨fun _ _ _ _ _ _ h => h.elim⟩
def tNoE : TE := fun _ _ _ => False
theorem pe_never : PE X e tNoE := ⟨fun _ _ _ _ _ _ h => h.elim⟩
end
end Su
/-! ### SC: a set of ints by a comprehension with two clauses -/
namespace Su
open PySem PySem.Spec PyProof.Rows L2
abbrev sc2 (e a b c d : Expr) (sp : Scope) (po : Pos) : Expr := .SetComp e [⟨a, b, [], 0⟩, ⟨c, d, [], 0⟩] sp po
section
variable {prog : Program} {w : World} {A : Around} {R : Result → Shared → Prop} {s : Shared} {e a b c d : Expr} {sp : Scope} {po : Pos} {it acc : Value} {env : Env}
theorem sc2_out : compTurn (sc2 e a b c d sp po) 0 it acc env = (do
      standAt b.pos
      match ← pyNext it with
      | none => pure (.done .next)
      | some v =>
        letOwnedTupleGo a it v
        assign a env v
        let x ← eval d env
        standAt d.pos
        let y ← foldedSetIterable d env x
        let _ ← runOwn (.compStart (sc2 e a b c d sp po) 1 (← holding [y] (pyIter y)) acc env) env
        again (.compLoop (sc2 e a b c d sp po) 0 it acc env)) := by rfl
theorem sc2_in : compTurn (sc2 e a b c d sp po) 1 it acc env = (do
      standAt d.pos
      match ← pyNext it with
      | none => pure (.done .next)
      | some v =>
        letOwnedTupleGo c it v
        assign c env v
        (do let x ← eval e env; standAt e.pos; let _ ← call (.builtin "set.add") [acc, x])
        again (.compLoop (sc2 e a b c d sp po) 1 it acc env)) := by rfl
/-- the tail of a turn that raises: the frame is noted -/
abbrev nb (prog : Program) (w : World) (A : Around) (env : Env) (R : Result → Shared → Prop) : Value → Shared → Prop := notedBy (model prog w) A env fun x u => R (.error x) u
theorem sc2_loop0 (hf : ∀ x, foldedSetIterable d env x = pure x) (J : Nat → Shared → Prop)
    (one : ∀ n u, J n u → wpAny (model prog w) A (pyNext it) (fun r u1 => match r with
      | none => R (.ok .next) u1
      | some v => wpAny (model prog w) A (letOwnedTupleGo a it v) (fun _ u2 => wpAny (model prog w) A (assign a env v) (fun _ u3 =>
          wpAny (model prog w) A (eval d env) (fun x u4 => wpAny (model prog w) A (pyIter x) (fun jt u5 =>
            codeAny (model prog w) A (.compStart (sc2 e a b c d sp po) 1 jt acc env) (fun r u6 => match r with
              | .ok _ => ∃ m, m < n ∧ J m u6
              | .error _ => False) u5) (nb prog w A env R) u4) (nb prog w A env R) u3) (nb prog w A env R) u2) (nb prog w A env R) u1) (nb prog w A env R) u)
    (n : Nat) (h : J n s) : codeAny (model prog w) A (.compLoop (sc2 e a b c d sp po) 0 it acc env) R s := by
  refine codeAny_loop rfl J (fun n u hJ => ?_) n h
  show wpAny _ A ((compTurn (sc2 e a b c d sp po) 0 it acc env).onRaise (fun x => do noteFrame x env; theTreesLotGoes x)) _ _ u
  refine wpAny_noted ?_
  rw [sc2_out]
  refine wpAny_bind (wpAny_standAt (wpAny_bind (wpAny_mono (one n u hJ) (fun r u1 h1 => ?_) fun _ _ k => k)))
  cases r with
  | none => exact wpAny_pure h1
  | some v =>
    refine wpAny_bind (wpAny_mono h1 (fun _ u2 h2 => wpAny_bind (wpAny_mono h2 (fun _ u3 h3 => ?_) fun _ _ k => k)) fun _ _ k => k)
    refine wpAny_bind (wpAny_mono h3 (fun x u4 h4 => ?_) fun _ _ k => k)
    refine wpAny_bind (wpAny_standAt (wpAny_bind (wpAny_of_eq (hf x) (wpAny_bind (wpAny_holding (wpAny_mono h4 (fun jt u5 h5 => ?_) fun _ _ k => k))))))
    refine wpAny_bind (wpAny_runOwn ?_)
    rw [Around.mark_none]
    refine codeAny_mono h5 fun r u6 hr => ?_
    cases r with
    | error x => exact hr.elim
    | ok f =>
      first
        | exact wpAny_pure ⟨rfl, hr⟩
        | exact wpAny_bind (wpAny_pure (wpAny_pure ⟨rfl, hr⟩))
theorem sc2_loop1 (J : Nat → Shared → Prop)
    (one : ∀ n u, J n u → wpAny (model prog w) A (pyNext it) (fun r u1 => match r with
      | none => R (.ok .next) u1
      | some v => wpAny (model prog w) A (letOwnedTupleGo c it v) (fun _ u2 => wpAny (model prog w) A (assign c env v) (fun _ u3 =>
          wpAny (model prog w) A (eval e env) (fun x u4 => wpAny (model prog w) A (call (.builtin "set.add") [acc, x]) (fun _ u5 => ∃ m, m < n ∧ J m u5) (nb prog w A env R) u4) (nb prog w A env R) u3)
            (nb prog w A env R) u2) (nb prog w A env R) u1) (nb prog w A env R) u)
    (n : Nat) (h : J n s) : codeAny (model prog w) A (.compLoop (sc2 e a b c d sp po) 1 it acc env) R s := by
  refine codeAny_loop rfl J (fun n u hJ => ?_) n h
  show wpAny _ A ((compTurn (sc2 e a b c d sp po) 1 it acc env).onRaise (fun x => do noteFrame x env; theTreesLotGoes x)) _ _ u
  refine wpAny_noted ?_
  rw [sc2_in]
  refine wpAny_bind (wpAny_standAt (wpAny_bind (wpAny_mono (one n u hJ) (fun r u1 h1 => ?_) fun _ _ k => k)))
  cases r with
  | none => exact wpAny_pure h1
  | some v =>
    refine wpAny_bind (wpAny_mono h1 (fun _ u2 h2 => wpAny_bind (wpAny_mono h2 (fun _ u3 h3 => ?_) fun _ _ k => k)) fun _ _ k => k)
    refine wpAny_bind (wpAny_bind (wpAny_mono h3 (fun x u4 h4 => wpAny_bind (wpAny_standAt (wpAny_bind (wpAny_mono h4 (fun _ u5 h5 => ?_) fun _ _ k => k)))) fun _ _ k => k))
    first
      | exact wpAny_pure (wpAny_pure ⟨rfl, h5⟩)
      | exact wpAny_pure ⟨rfl, h5⟩
theorem sc2_begin (h0 : codeAny (model prog w) A (.compLoop (sc2 e a b c d sp po) 1 it acc env) R s)
    (h : wpAny (model prog w) A (pyIter it) (fun jt u => codeAny (model prog w) A (.compLoop (sc2 e a b c d sp po) 1 jt acc env) R u) (nb prog w A env R) s) :
    codeAny (model prog w) A (.compStart (sc2 e a b c d sp po) 1 it acc env) R s := by
  refine codeAny_of_tree ?_
  show wpAny _ _ ((compStart (sc2 e a b c d sp po) 1 it acc env).onRaise (fun x => do noteFrame x env; standAt theWindowsPlace)) _ _ s
  refine wpAny_notedAt ?_
  unfold compStart
  show wpAny _ _ (ask >>= _) _ _ s
  refine wpAny_bind (wpAny_askSetting (wpAny_ite ?_))
  split
  · first
      | exact wpAny_pure ⟨rfl, h0⟩
      | exact wpAny_bind (wpAny_pure (wpAny_pure ⟨rfl, h0⟩))
  · refine wpAny_bind (wpAny_rule ?_)
    show wpAny _ _ (standAt d.pos >>= _) _ _ s
    exact wpAny_bind (wpAny_standAt (wpAny_bind (wpAny_mono h (fun jt u k => wpAny_pure ⟨rfl, k⟩) fun _ _ k => k)))
end
end Su
namespace Su
open PySem PySem.Spec PyProof.Rows L2
section
variable {X : Cx}
/-- what the comprehension asks: the outer walk, in each of its turns the inner one, and each int put into the set -/
def tSC (w : World) (wo : TI) (go : TG) (wn : TI) (gn : TG) (te : TE) (vs vs1 : List Nat) : TE := fun σ H Q => wo σ H fun J H1 => ∀ D, H1 D = none →
  ∃ W : Nat → Nat → Hp → Prop, (∃ m, W 0 m (upd H1 D (SetO w D (fun _ => false) 0))) ∧ ∀ i m H, W i m H →
    (J.stop i H ∧ Q (.ref D) H) ∨
    (J.go i H ∧ ∃ Nx : Hp → Prop, (∀ H', Nx H' → ∃ m', m' < m ∧ W (i + 1) m' H') ∧ ∀ x H', J.yld i H x H' → go x (wipe σ vs) H' fun σ2 H2 => wipe σ2 vs = wipe σ vs ∧
      wn σ2 H2 fun L H3 => ∃ U : Nat → Nat → Hp → Prop, (∃ m, U 0 m H3) ∧ ∀ j k H, U j k H →
        (L.stop j H ∧ Nx H) ∨
        (L.go j H ∧ ∃ Ny : Hp → Prop, (∀ H', Ny H' → ∃ k', k' < k ∧ U (j + 1) k' H') ∧ ∀ y H', L.yld j H y H' → gn y (wipe σ2 vs1) H' fun σ3 H4 => wipe σ3 vs1 = wipe σ2 vs1 ∧
          te σ3 H4 fun z H5 => ∃ (c : Int) (S : Int → Bool) (n : Nat), z = .int c ∧ H5 D = some (SetO w D S n) ∧ n + 1 < scanBound ∧
            Ny (upd H5 D (SetO w D (fun j => S j || decide (j = c)) (if S c = true then n else n + 1)))))
abbrev setE (w : World) : Obj := { cls := .type "set", dict := none, data := .set #[] 0 (.fresh 0 0 (!w.params.followText "set-order")) }
theorem put_int {pins : List (Addr × Obj)} {σ : L2.St} {H : Hp} {s : Shared} {E : Value → Shared → Prop} {D : Addr} {S : Int → Bool} {n : Nat} {k : Int} {v : Value} {Q : Value → Shared → Prop}
    (I : Inv X pins σ H s) (hD : H D = some (SetO X.w D S n)) (few : n + 1 < scanBound) (r : RelV (.int k) v)
    (h : ∀ t, Inv X pins σ (upd H D (SetO X.w D (fun j => S j || decide (j = k)) (if S k = true then n else n + 1))) t → Q .none t) :
    wpAny (model X.prog X.w) X.A (call (.builtin "set.add") [.ref D, v]) Q E s := by
  obtain ⟨tk, rfl⟩ := r
  refine setR_add (setO_get I hD) few fun g sb new => ?_
  have there : ∃ u, g.get? D = some u := by
    have ⟨o, _, _, _, ho, _⟩ := new
    exact ⟨o, ho⟩
  refine h _ (I.write (e := D) (t' := s.toks + 1) (by rw [hD]; trivial) (.inl rfl) (fun b u hb hu => ?_) there (setO_new new))
  exact (sb.2 b hb).trans hu
theorem pe_sc2 {e a b c d : Expr} {sp : Scope} {own : List (Str × Nat)} {vs1 : List Nat} {pos : Pos} {wo wn : TI} {go gn : TG} {te : TE} (hc : X.calm = true) (hN : X.N.Nodup) (pio : PI X a b wo)
    (ok : BlkOk X.N X.env.scope sp own) (hv : ∀ i ∈ vs1, i ∈ own.map (·.2))
    (pgo : ∀ (s : Shared) (H : Hp) (C : Addr) (cl : List (Str × Addr)) (fp : List Addr), PG (X.blk s H sp (compEnvC sp cl C X.env) fp) a go)
    (pin : ∀ (s : Shared) (H : Hp) (C : Addr) (cl : List (Str × Addr)) (fp : List Addr), PI (X.blk s H sp (compEnvC sp cl C X.env) fp) c d wn)
    (pgn : ∀ (s : Shared) (H : Hp) (C : Addr) (cl : List (Str × Addr)) (fp : List Addr), PG (X.blk s H sp (compEnvC sp cl C X.env) fp) c gn)
    (pe : ∀ (s : Shared) (H : Hp) (C : Addr) (cl : List (Str × Addr)) (fp : List Addr), PE (X.blk s H sp (compEnvC sp cl C X.env) fp) e te)
    (fo : ∀ x, foldedSetIterable b X.env x = pure x := by intro _; rfl) (fn : ∀ env x, foldedSetIterable d env x = pure x := by intro _ _; rfl) :
    PE X (sc2 e a b c d sp pos) (tSC X.w wo go wn gn te (own.map (·.2)) vs1) := by
  refine ⟨fun pins s σ H Q I hq => ?_⟩
  rw [PpSet.eval_SetComp]
  have cl0 : ∀ y ∈ sp.names, y.2 = .free → ∃ k, X.env.cells.lookup y.1 = some k := by
    intro y hy z
    rcases ok.free y hy z with k | k
    · exact I.ok.has _ (.inl k)
    · exact I.ok.has _ (.inr k)
  refine wpAny_comprehension_free (use := none) rfl fo (closure_ok cl0) ok.kind (fun y hy z => by rw [ok.uniq y hy, z]) ?_
  refine thn (pio.run pins s σ H _ I hq) fun xv s1 hx => thn hx fun iv s2 h2 => ?_
  obtain ⟨it, fa, tn, J, Hb, rfl, Ib, T, stb, fb, q⟩ := h2
  refine PpSet.newSet_ok (newEnv_comp ?_)
  generalize eD : s2.heap.objs.size = D
  obtain ⟨W, ⟨m0, w0⟩, turn⟩ := q D (Ib.hok.fresh (Nat.le_of_eq eD))
  generalize e3 : ({ s2 with heap := s2.heap.push (setE X.w) } : Shared) = s3
  have hp3 : s3.heap = s2.heap.push (setE X.w) := by rw [← e3]
  have Ic : Inv X pins σ (upd Hb D (SetO X.w D (fun _ => false) 0)) s3 := by
    rw [← e3]
    refine Ib.laid (t' := s2.toks) (fun _ _ z => Heap.get?_push_of_some _ z) (Nat.le_of_eq eD) ?_
    rw [← eD]
    exact setO_new (setR_fresh X.w)
  have small : ∀ x ∈ fa, x < s2.heap.objs.size := by
    intro x hx
    obtain ⟨o, z, _⟩ := T.obj _ _ stb x hx
    exact Heap.lt_size z
  have fc : ∀ x ∈ fa, FpOk X pins (upd Hb D (SetO X.w D (fun _ => false) 0)) x ∧ x < s3.heap.objs.size := by
    intro x hx
    have lt := small x hx
    constructor
    · refine ⟨?_, (fb x hx).2⟩
      rw [upd_ne (by rw [← eD]; exact Nat.ne_of_lt lt)]
      exact (fb x hx).1
    · rw [hp3, Heap.size_push]
      exact Nat.lt_succ_of_lt lt
  have stc : tn 0 s3.heap := T.keep _ _ _ stb fun _ _ _ z => by
    rw [hp3]
    exact Heap.get?_push_of_some _ z
  have Id := block_start Ic ok hN fc
  have qgo := pgo s3 (upd Hb D (SetO X.w D (fun _ => false) 0)) s3.heap.objs.size (cellsFrom (s3.heap.objs.size + 1) sp.names (cloFrom X.env.cells sp.names [])) fa
  have qin := pin s3 (upd Hb D (SetO X.w D (fun _ => false) 0)) s3.heap.objs.size (cellsFrom (s3.heap.objs.size + 1) sp.names (cloFrom X.env.cells sp.names [])) fa
  have qgn := pgn s3 (upd Hb D (SetO X.w D (fun _ => false) 0)) s3.heap.objs.size (cellsFrom (s3.heap.objs.size + 1) sp.names (cloFrom X.env.cells sp.names [])) fa
  have qe := pe s3 (upd Hb D (SetO X.w D (fun _ => false) 0)) s3.heap.objs.size (cellsFrom (s3.heap.objs.size + 1) sp.names (cloFrom X.env.cells sp.names [])) fa
  have nofa : ∀ x ∈ fa, (upd Hb D (SetO X.w D (fun _ => false) 0)) x = none := fun x hx => (fc x hx).1.1
  show codeAny _ _ (.compStart (sc2 e a b c d sp pos) 0 (.ref it) (.ref D) (compEnvC sp (cellsFrom (s3.heap.objs.size + 1) sp.names (cloFrom X.env.cells sp.names [])) s3.heap.objs.size X.env)) _ { s3 with heap := pushCells (s3.heap.push { cls := .type "dict", data := .dict #[] }) sp.names }
  generalize eE : compEnvC sp (cellsFrom (s3.heap.objs.size + 1) sp.names (cloFrom X.env.cells sp.names [])) s3.heap.objs.size X.env = en at Id qgo qin qgn qe ⊢
  have locE : en.locals = s3.heap.objs.size := by
    subst eE
    rfl
  generalize eH : upd Hb D (SetO X.w D (fun _ => false) 0) = Hc at Ic Id qgo qin qgn qe w0 nofa fc
  generalize e4 : ({ s3 with heap := pushCells (s3.heap.push { cls := .type "dict", data := .dict #[] }) sp.names } : Shared) = s4 at Id ⊢
  have std : tn 0 s4.heap := T.keep _ _ _ stc fun _ _ _ z => by
    rw [← e4]
    exact pushCells_keeps _ _ _ _ (Heap.get?_push_of_some _ z)
  have foot : ∀ {τ : L2.St} {G : Hp} {t : Shared}, Inv (X.blk s3 Hc sp en fa) [] τ G t → (∀ x ∈ fa, G x = none) → ∀ x ∈ fa, FpOk (X.blk s3 Hc sp en fa) [] G x := by
    intro τ G t It hn x hx
    refine ⟨hn x hx, (It.ok.exf x hx).1, It.ok.exfs x hx, .inl hx, fun y k z => (It.ok.exf x hx).2 y k z, fun p hp => ?_⟩
    exact absurd (show p ∈ ([] : List (Addr × Obj)) ++ [] from hp) (by simp)
  have main : codeAny (model X.prog X.w) X.A (.compLoop (sc2 e a b c d sp pos) 0 (.ref it) (.ref D) en) (compPost (model X.prog X.w) X.A X.xe none (fun u t => EP X pins σ Q u t) (.ref D) s3.heap.objs.size) s4 := by
    refine sc2_loop0 (fn en) (fun n t => ∃ i G, Inv (X.blk s3 Hc sp en fa) [] (wipe σ (own.map (·.2))) G t ∧ tn i t.heap ∧ (∀ x ∈ fa, G x = none) ∧ W i n G) ?_ m0 ⟨0, Hc, Id, std, nofa, w0⟩
    rintro n s5 ⟨i, H5, I5, st5, n5, w5⟩
    rcases turn i n H5 w5 with ⟨stop, qq⟩ | ⟨hgo, Nx, hNx, step⟩
    · refine thnF (T.done (X.blk s3 Hc sp en fa) rfl rfl rfl hc i [] s5 _ H5 (fun _ _ => False) I5 (foot I5 n5) st5 stop) fun r s6 ⟨hr, I6⟩ => ?_
      subst hr
      have I7 : Inv X pins σ H5 s6 := by
        refine Ic.call' (ch := fa) I6.os I6.base I6.hok I6.bare fun x hx => ?_
        have z := (fc x hx).1.2
        exact ⟨z.2.2.1, z.1, z.2.2.2.1, z.2.2.2.2⟩
      have nl : H5 s3.heap.objs.size = none := by
        have z : H5 en.locals = none := I6.free
        rwa [locE] at z
      obtain ⟨m, hn, _⟩ := I6.loc
      have hn2 : s6.heap.Ns en.locals m := hn
      rw [locE] at hn2
      obtain ⟨f0, f1, f2, f3, f4, f5⟩ := Ic.fpOk (Nat.le_refl _) nl
      refine ⟨m, hn2, fun g sb => ?_⟩
      exact ⟨.ref D, H5, I7.turned (t' := s6.toks) (fun y o hy z => (sb.2 y hy).trans z) f0 f1 f3 f4 f5, rfl, qq⟩
    · refine thnF (T.item (X.blk s3 Hc sp en fa) rfl rfl rfl hc i [] s5 _ H5 (fun _ _ => False) I5 (foot I5 n5) st5 hgo) fun r s6 ⟨u, hr, h6⟩ => ?_
      subst hr
      refine thnF h6 fun _ s7 ⟨x, H7, I7, r7, y7, st7, n7⟩ => ?_
      refine thnF (qgo.run _ s7 _ H7 x u _ (I7.pinned (foot I7 n7) (T.obj _ _ st7)) r7 (step x H7 y7)) fun _ s8 ⟨σ8, H8, I8, hw8, q8⟩ => ?_
      have shut : ∀ {τ : L2.St} {t : Shared} {G : Hp}, Inv (X.blk s3 Hc sp en fa) ([] ++ pinsAt fa s7.heap) τ G t → (wipe σ (own.map (·.2))).length = τ.length →
          (∀ (j : Nat) v, (wipe σ (own.map (·.2)))[j]? = some (some v) → τ[j]? = some (some v)) → Nx G →
          ∃ m, m < n ∧ ∃ i G, Inv (X.blk s3 Hc sp en fa) [] (wipe σ (own.map (·.2))) G t ∧ tn i t.heap ∧ (∀ x ∈ fa, G x = none) ∧ W i m G := by
        intro τ t G It hl hk nx
        obtain ⟨m', lt, w'⟩ := hNx G nx
        have held : ∀ y ∈ fa, ∀ o, s7.heap.get? y = some o → t.heap.get? y = some o ∧ G y = none := by
          intro y hy o z
          have k := It.pin (y, o) (List.mem_append_right _ (List.mem_append_right _ (mem_pinsAt hy z)))
          exact ⟨k.1, k.2.1⟩
        refine ⟨m', lt, i + 1, G, (It.unpinned (pins := [])).weak hl hk, T.keep _ _ _ st7 fun y hy o z => (held y hy o z).1, fun y hy => ?_, w'⟩
        obtain ⟨o, z, _⟩ := T.obj _ _ st7 y hy
        exact (held y hy o z).2
      have len8 : (wipe σ (own.map (·.2))).length = σ8.length := by
        rw [← hw8, wipe_length]
      have keep8 : ∀ (j : Nat) v, (wipe σ (own.map (·.2)))[j]? = some (some v) → (wipe σ8 vs1)[j]? = some (some v) := by
        intro j v z
        rw [← hw8] at z
        obtain ⟨z1, z2⟩ := wipe_some z
        rw [wipe_out fun k => z2 (hv j k)]
        exact z1
      refine thnF (qin.run _ s8 σ8 H8 _ I8 q8) fun xv s9 hx => thnF hx fun iw s10 h10 => ?_
      obtain ⟨jt, fi, tm, L, H10, rfl, I10, T1, st10, f10, U, ⟨m1, u1⟩, turn1⟩ := h10
      have foot1 : ∀ {G : Hp}, (∀ y ∈ fi, G y = none) → ∀ y ∈ fi, FpOk (X.blk s3 Hc sp en fa) ([] ++ pinsAt fa s7.heap) G y := fun hn y hy => ⟨hn y hy, (f10 y hy).2⟩
      have inner : codeAny (model X.prog X.w) X.A (.compLoop (sc2 e a b c d sp pos) 1 (.ref jt) (.ref D) en)
          (fun r t => match r with
            | .ok _ => ∃ m, m < n ∧ ∃ i G, Inv (X.blk s3 Hc sp en fa) [] (wipe σ (own.map (·.2))) G t ∧ tn i t.heap ∧ (∀ x ∈ fa, G x = none) ∧ W i m G
            | .error _ => False) s10 := by
        refine sc2_loop1 (fun k t => ∃ j G, Inv (X.blk s3 Hc sp en fa) ([] ++ pinsAt fa s7.heap) (wipe σ8 vs1) G t ∧ tm j t.heap ∧ (∀ y ∈ fi, G y = none) ∧ U j k G) ?_ m1
          ⟨0, H10, I10.weak (wipe_length _ _) (fun j v z => (wipe_some z).1), st10, fun y hy => (f10 y hy).1, u1⟩
        rintro k s11 ⟨j, H11, I11, st11, n11, w11⟩
        rcases turn1 j k H11 w11 with ⟨stop1, nx1⟩ | ⟨go1, Ny, hNy, step1⟩
        · refine thnF (T1.done (X.blk s3 Hc sp en fa) rfl rfl rfl hc j _ s11 (wipe σ8 vs1) H11 (fun _ _ => False) I11 (foot1 n11) st11 stop1) fun r s12 ⟨hr, I12⟩ => ?_
          subst hr
          exact shut I12 (len8.trans (wipe_length σ8 vs1).symm) keep8 nx1
        · refine thnF (T1.item (X.blk s3 Hc sp en fa) rfl rfl rfl hc j _ s11 (wipe σ8 vs1) H11 (fun _ _ => False) I11 (foot1 n11) st11 go1) fun r s12 ⟨v1, hr, h12⟩ => ?_
          subst hr
          refine thnF h12 fun _ s13 ⟨x1, H13, I13, r13, y13, st13, n13⟩ => ?_
          refine thnF (qgn.run _ s13 (wipe σ8 vs1) H13 x1 v1 _ (I13.pinned (foot1 n13) (T1.obj _ _ st13)) r13 (step1 x1 H13 y13)) fun _ s14 ⟨σ14, H14, I14, hw14, q14⟩ => ?_
          refine thnF (qe.run _ s14 σ14 H14 _ I14 q14) fun z s15 ⟨yv, H15, I15, r15, cc, S, nn, ey, hD15, few, nx⟩ => ?_
          subst ey
          refine put_int (X := X.blk s3 Hc sp en fa) I15 hD15 few r15 fun s16 I16 => ?_
          obtain ⟨m', lt, w'⟩ := hNy _ nx
          have held : ∀ y ∈ fi, ∀ o, s13.heap.get? y = some o → s16.heap.get? y = some o ∧ (upd H15 D (SetO X.w D (fun j => S j || decide (j = cc)) (if S cc = true then nn else nn + 1))) y = none := by
            intro y hy o z
            have k := I16.pin (y, o) (List.mem_append_right _ (List.mem_append_right _ (mem_pinsAt hy z)))
            exact ⟨k.1, k.2.1⟩
          refine ⟨m', lt, j + 1, _, I16.unpinned.weak (by rw [← hw14, wipe_length]) (fun j v z => by rw [← hw14] at z; exact (wipe_some z).1), T1.keep _ _ _ st13 fun y hy o z => (held y hy o z).1, fun y hy => ?_, w'⟩
          obtain ⟨o, z, _⟩ := T1.obj _ _ st13 y hy
          exact (held y hy o z).2
      exact sc2_begin inner (T1.self X.A 0 _ _ _ st10 inner)
  exact PpSet.codeAny_compStart_set main (T.self X.A 0 _ _ _ std main)
end
end Su
/-! ### SE: sets of ints: set(l), sorted(s) of any size -/
namespace Su
open PySem PySem.Spec PyProof.Rows L2
/-- the set that set(..) begins with -/
abbrev set0 (w : World) : Obj := { cls := .type "set", dict := none, data := .set #[] 0 (.fresh 0 0 (!w.params.followText "set-order")) }
section
variable {P : Program} {w : World} {A : Around} {E : Value → Shared → Prop} {s : Shared}
theorem set_of_list {l : Addr} {its : Array Value} (ns : List Int) {Q : Value → Shared → Prop} (hh : A.handled = none) (hl : s.heap.IsList l its) (ia : IntsAre its.toList ns) (few : ns.length + 1 < scanBound)
    (q : ∀ (h' : Heap) (tk c : Nat), SetR w h' s.heap.objs.size (fun j => decide (j ∈ ns)) c → c ≤ ns.length → (∀ b o, s.heap.get? b = some o → h'.get? b = some o) → Q (.ref s.heap.objs.size) { s with heap := h', toks := tk }) :
    wpAny (model P w) A (call (.type "set") [.ref l]) Q E s := by
  have sz : its.size = ns.length := by
    have z := IntsAre.length ia
    rwa [Array.length_toList] at z
  obtain ⟨c0, tl0, m0⟩ := F.called_set.mro
  have m1 := F.called_set.made
  have m2 := F.called_set.sub
  have m3 := F.called_set.notType
  have m4 := F.called_set.canCreate
  have m5 := F.typeCall_set_1 (.ref l)
  refine wpAny_call (codeAny_of_tree ?_)
  show wpAny _ _ (callAny (.type "set") _) _ _ _
  refine wpAny_pure ⟨Code.quiet_builtin _ (by decide +kernel), codeAny_builtin F.entry_type_call ?_⟩
  rw [Around.under_plain (weight_type_call_type "set" [.ref l] []) rfl]
  repeat (any_goals (first | assumption | wp_step))
  refine codeAny_mono (code_set_led1 (.ref l) (E := E) (Q₁ := fun x t => x = .ref s.heap.objs.size ∧ t = { s with heap := s.heap.push (set0 w) }) ⟨rfl, rfl⟩) fun r t hr => ?_
  match r, hr with
  | .error e, hr => exact hr
  | .ok .next, hr => exact hr.elim
  | .ok .brk, hr => exact hr.elim
  | .ok .cont, hr => exact hr.elim
  | .ok (.ret x), hr =>
    obtain ⟨rfl, rfl⟩ := hr
    have at0 : (s.heap.push (set0 w)).get? s.heap.objs.size = some (set0 w) := Heap.get?_push_size _ rfl
    have ty0 : Shared.TypeIs { s with heap := s.heap.push (set0 w) } (.ref s.heap.objs.size) "set" := ⟨_, at0, rfl⟩
    have n1 := F.called_set.init.lookup
    have n2 := F.called_set.init.bind (.ref s.heap.objs.size)
    repeat (any_goals (first | assumption | wp_step))
    refine codeAny_mono (codeAny_call_builtin (R := wants (fun r t => r = .none ∧ ∃ h' tk c, t = { s with heap := h', toks := tk } ∧ SetR w h' s.heap.objs.size (fun j => decide (j ∈ ns)) c ∧ c ≤ ns.length ∧ ∀ b o, s.heap.get? b = some o → h'.get? b = some o) E)
      F.called_set.init.plain F.entry_set_init (check_set_init_1 ty0 ?_)) fun r2 t2 hr2 => ?_
    · obtain ⟨⟨oc, od, odt, os⟩, ho, hc, nl, hd⟩ := hl
      simp only at hc hd
      subst hc hd
      have lt : l < s.heap.objs.size := Heap.lt_size ho
      have ho1 : (s.heap.push (set0 w)).get? l = some { cls := .type "list", dict := od, data := .seq its nl, slots := os } := Heap.get?_push_of_some _ ho
      have isl : (s.heap.push (set0 w)).IsList l its := ⟨_, ho1, rfl, nl, rfl⟩
      have p1 := F.sub_list_set
      have p2 := F.sub_list_frozenset
      have p3 : (Value.type "list" == Value.type "dict") = false := by decide
      unfold Builtin.«set.__init__» noKeywords Builtin.Frozenset.updateFrom
      generalize hPI : pyIter = PI
      wp_walk
      subst hPI
      refine wpAny_pyIter_list isl (wpAny_bind (wpAny_runValue ?_))
      have size1 : (s.heap.push (set0 w)).objs.size = s.heap.objs.size + 1 := Heap.size_push ..
      have ap : l ≠ (s.heap.push (set0 w)).objs.size := by
        rw [size1]
        exact Nat.ne_of_lt (Nat.lt_succ_of_lt lt)
      have ap2 : s.heap.objs.size ∉ [(s.heap.push (set0 w)).objs.size, l] := by
        rw [size1]
        simp only [List.mem_cons, List.not_mem_nil, or_false, not_or]
        exact ⟨Nat.ne_of_lt (Nat.lt_succ_self _), Nat.ne_of_gt lt⟩
      refine set_update_ints ((Walks.list (by simp [hh]) _ l ap its).toS) s.heap.objs.size ap2 ns sz few (fun i v hv => ?_) (its.size - 0) 0 _ (by omega) (Nat.zero_le _) ⟨⟨_, Heap.get?_push_size _ rfl, rfl, rfl⟩, isl.push _⟩ ⟨0, Nat.le_refl 0, setR_new_at (Heap.get?_push_of_some _ at0)⟩ fun t3 c3 mv hc3 hS3 => ?_
      · have hi : i < ns.length := by
          rw [← sz]
          exact (Array.getElem?_eq_some_iff.mp hv).1
        obtain ⟨tk, e⟩ := PyProof.Rows.IntsAre.int_at ia i v (by rw [Array.getElem?_toList]; exact hv)
        refine ⟨ns[i], tk, List.getElem?_eq_getElem hi, ?_⟩
        rw [e, List.getD_eq_getElem?_getD, List.getElem?_eq_getElem hi] <;> rfl
      · obtain ⟨h3, g3, d3, tk3, os3⟩ := t3
        obtain rfl : g3 = s.gens := mv.gens
        obtain rfl : d3 = s.drawn := mv.drawn
        obtain rfl : os3 = s.os := mv.os
        show wpAny _ _ _ _ _ _
        refine wpAny_pure ?_
        show wpAny _ _ (ret Value.none) _ _ _
        refine wpAny_pure ⟨rfl, h3, tk3, c3, rfl, hS3, by omega, fun b o e => ?_⟩
        have bl : b < s.heap.objs.size := Heap.lt_size e
        refine mv.heap b o ?_ (Heap.get?_push_of_some _ (Heap.get?_push_of_some _ e))
        rw [size1]
        simp only [List.mem_cons, List.not_mem_nil, or_false, not_or]
        exact ⟨Nat.ne_of_lt bl, Nat.ne_of_lt (Nat.lt_succ_of_lt bl)⟩
    · match r2, hr2 with
      | .error e, hr2 => exact hr2
      | .ok .next, hr2 => exact hr2.elim
      | .ok .brk, hr2 => exact hr2.elim
      | .ok .cont, hr2 => exact hr2.elim
      | .ok (.ret y), hr2 =>
        obtain ⟨rfl, h', tk, c, rfl, hS, hc, hk⟩ := hr2
        repeat (any_goals (first | assumption | wp_step))
        exact q _ _ _ hS hc hk
end
/-- a set of ints whose members are those of l -/
def SetIs (w : World) (H : Hp) (D : Addr) (l : List Int) : Prop := ∃ (S : Int → Bool) (n : Nat) (d : List Int), H D = some (SetO w D S n) ∧ d.Nodup ∧ d.length = n ∧ (∀ k, S k = true ↔ k ∈ d) ∧ ∀ k, k ∈ d ↔ k ∈ l
theorem SetIs.add {w : World} {H : Hp} {D : Addr} {l : List Int} (h : SetIs w H D l) {A : List Int} (hA : A.length < 1000) (hl : ∀ k ∈ l, k ∈ A) (c : Int) :
    ∃ (S : Int → Bool) (n : Nat), H D = some (SetO w D S n) ∧ n + 1 < scanBound ∧ ∀ (H' : Hp), H' D = some (SetO w D (fun j => S j || decide (j = c)) (if S c = true then n else n + 1)) → SetIs w H' D (l ++ [c]) := by
  obtain ⟨S, n, d, e, nd, hn, hS, hd⟩ := h
  have z := nodup_few (S := A) nd fun k hk => hl k ((hd k).mp hk)
  refine ⟨S, n, e, by unfold scanBound; omega, fun H' e' => ?_⟩
  by_cases hc : S c = true
  · rw [if_pos hc] at e'
    refine ⟨_, n, d, e', nd, hn, fun k => ?_, fun k => ?_⟩
    · rw [Bool.or_eq_true, decide_eq_true_eq, hS k]
      constructor
      · rintro (h | rfl)
        · exact h
        · exact (hS k).mp hc
      · exact .inl
    · rw [List.mem_append, List.mem_singleton, hd k]
      constructor
      · exact .inl
      · rintro (h | rfl)
        · exact h
        · exact (hd k).mp ((hS k).mp hc)
  · rw [if_neg hc] at e'
    refine ⟨_, n + 1, c :: d, e', List.nodup_cons.mpr ⟨fun h => hc ((hS c).mpr h), nd⟩, by rw [List.length_cons, hn], fun k => ?_, fun k => ?_⟩
    · rw [Bool.or_eq_true, decide_eq_true_eq, hS k, List.mem_cons]
      exact Or.comm
    · rw [List.mem_append, List.mem_singleton, List.mem_cons, hd k]
      exact Or.comm
theorem SetIs.of {w : World} {h : Heap} {H : Hp} {D : Addr} {S : Int → Bool} {c : Nat} {l : List Int} (R : SetR w h D S c) (e : H D = some (SetO w D S c)) (hl : ∀ k, S k = true ↔ k ∈ l) : SetIs w H D l := by
  obtain ⟨o, es, ep, t, ho, hex, hd, g, nd, hm, hb, hf, hn, _⟩ := R
  exact ⟨S, c, es.toList.map keyOf, e, nd, by rw [List.length_map, Array.length_toList]; exact hn, hm, fun k => (hm k).symm.trans (hl k)⟩
section
variable {X : Cx}
/-- set(l), l a list of ints -/
def rSetL (w : World) (K : PySem.W.Frag) : List V → Hp → VK → Prop := fun xs H Q => ∃ (l : Addr) (ns : List Int), xs = [.ref l] ∧ SqL K H l (ns.map V.int) ∧ ns.length ≤ 4000 ∧ ∀ (p : Addr) (H' : Hp), Same H H' → H p = none → SetIs w H' p ns → Q (.ref p) H'
theorem cr_setL (hc : X.calm = true) : CallR X (.type "set") (rSetL X.w X.K) := by
  intro pins s σ H xs us Q I r h
  obtain ⟨l, ns, rfl, hq, hl, q⟩ := h
  rw [Vals.ref1 r]
  obtain ⟨its, rv, pl, hz⟩ := I.list hq
  refine set_of_list ns (I.ok.hd hc) pl.isList (by simpa using ints_of rv) (by unfold scanBound; omega) fun h' tk c hR hc' hk => ?_
  have new : H s.heap.objs.size = none := I.hok.fresh (Nat.le_refl _)
  refine ⟨.ref s.heap.objs.size, _, I.laid (t' := tk) hk (Nat.le_refl _) (setO_new hR), rfl, q _ _ (same_upd new) new ?_⟩
  exact SetIs.of hR upd_same fun k => decide_eq_true_iff
/-- sorted(s), s a set of ints -/
theorem sorted_setA {P : Program} {w : World} {A : Around} {E : Value → Shared → Prop} {s : Shared} {a : Addr} {S : Int → Bool} {n : Nat} {Q : Value → Shared → Prop} (R : SetR w s.heap a S n) (hh : A.handled = none)
    (q : ∀ (t : Shared) (p : Addr) (out : Array Value) (c : Nat) (ns : List Int), (∀ b o, s.heap.get? b = some o → t.heap.get? b = some o) → t.gens = s.gens → t.os = s.os → s.heap.objs.size ≤ p →
      t.heap.get? p = some (seqObj "list" out c) → IntsAre out.toList ns → ns.Pairwise (· < ·) → (∀ k, k ∈ ns ↔ S k = true) → ns.length < 4096 → Q (.ref p) t) :
    wpAny (model P w) A (call (.builtin "sorted") [.ref a]) Q E s := by
  obtain ⟨o, es, ep, t, ho, hex, hd, g, nd, hm, hb, hf, hn, hr, hl⟩ := R
  refine Calls.call_function_entry kind_sorted plain_sorted entry_sorted (args_sorted1 _) ?_
  unfold Builtin.«sorted»
  refine wpAny_bind (m := checkCount "sorted" 1 1 _) (wpAny_pure (wpAny_bind (collect_set (A := A.in1) hh ⟨o, ho, hex.1, hd⟩ hf hb hr hl fun s1 vs k1 hz g1 o1 pm => ?_)))
  have len : vs.length = es.size := by
    rw [pm.length_eq, List.length_map, Array.length_toList]
  have hI : IntsAre vs (vs.map Builtin.Re.reRawOf) := L2.ints_of vs fun v hv => by
    obtain ⟨x, hx, z⟩ := List.mem_map.mp (pm.mem_iff.mp hv)
    obtain ⟨k, tk, h1, _⟩ := g x hx
    exact ⟨k, tk, z ▸ h1⟩
  have pk : (vs.map Builtin.Re.reRawOf).Perm (es.toList.map keyOf) := by
    have z := pm.map Builtin.Re.reRawOf
    rwa [List.map_map] at z
  have small : vs.length ≤ sizeLine := by
    have : es.size < 4096 := hb
    rw [len, sizeLine_eq]
    omega
  refine wpAny_bind (wpAny_newList ?_ small)
  have at1 : (s1.heap.push (seqObj "list" vs.toArray 0)).get? s1.heap.objs.size = some (seqObj "list" vs.toArray 0) := Heap.get?_push_size _ rfl
  refine wpAny_bind (wpAny_holding (wpAny_call_entry slot_list_sort ⟨_, at1, rfl⟩ entry_list_sort (SrtO.list_sort_ord SrtO.swo_int at1 small (fun h2 => SrtO.ints_sortable hI h2) fun out h1 h2 => ⟨_, rfl, ?_⟩) (args_list_sort _)))
  obtain ⟨k3, k4, k5⟩ := SrtO.ints_out hI h1 h2
  obtain ⟨c, hc⟩ := sortedHeap_at (vs := vs) (out := out.toArray) at1
  have pn := k4.trans pk
  refine wpAny_pure ⟨_, rfl, q _ s1.heap.objs.size out.toArray c (out.map SrtO.iv) (fun b u z => ?_) g1 o1 hz hc k3 (lt_of_le_nodup _ k5 (pn.nodup_iff.mpr nd)) (fun k => by rw [pn.mem_iff, ← hm k]) ?_⟩
  · have y := k1 b u z
    have lt := Heap.lt_size y
    show (sortedHeap (s1.heap.push (seqObj "list" vs.toArray 0)) s1.heap.objs.size vs out.toArray).get? b = some u
    rw [sortedHeap_old (Nat.ne_of_lt lt) (by rw [size_push']; exact Nat.lt_succ_of_lt lt)]
    exact Heap.get?_push_of_some _ y
  · rw [pn.length_eq, List.length_map, Array.length_toList]
    exact hb
def rSortedS (w : World) : List V → Hp → VK → Prop := fun vs H Q => ∃ (a : Addr) (l : List Int), vs = [.ref a] ∧ SetIs w H a l ∧ ∀ (ns : List Int) (p : Addr), ns.Pairwise (· < ·) → (∀ k : Int, k ∈ ns ↔ k ∈ l) → H p = none → Q (.ref p) (upd H p (.lst (ns.map V.int)))
theorem cr_sortedS (hc : X.calm = true) : CallR X (.builtin "sorted") (rSortedS X.w) := by
  intro pins s σ H vs us Q I r h
  obtain ⟨a, l, rfl, ⟨S, n, d, ha, nd, hn, hS, hd⟩, q⟩ := h
  rw [Vals.ref1 r]
  refine sorted_setA (setO_get I ha) (I.ok.hd hc) fun t p out c ns k g o hp hg hi hs hm hl => ?_
  have len : (ns.map V.int).length ≤ sizeLine := by
    rw [List.length_map, sizeLine_eq]
    omega
  have new : H p = none := I.hok.fresh hp
  have J : Inv X pins σ (upd H p (.lst (ns.map V.int))) { s with heap := t.heap, gens := t.gens, drawn := t.drawn, toks := t.toks } :=
    I.call (ch := []) (Un.laid k hp new) (I.hok.laid k hp ⟨len, out.toList, c, vals_of_ints hi, hg⟩) (by rw [g]; exact I.bare) (fun _ z => nomatch z)
  have et : t = { s with heap := t.heap, gens := t.gens, drawn := t.drawn, toks := t.toks } := by
    cases t
    cases s
    cases o
    rfl
  rw [et]
  exact ⟨.ref p, _, J, rfl, q ns p hs (fun k => (hm k).trans ((hS k).trans (hd k))) new⟩
end
end Su
/-! ### WA: webs in the heap -/
namespace Su
open PySem PySem.Spec PyProof.Rows L2
/-- a tuple, by whatever it was made -/
def T2 (H : Hp) (a : Addr) (xs : List V) : Prop := PTup H a xs ∨ H a = some (.tup xs)
theorem T2.sq {K : PySem.W.Frag} {H : Hp} {a : Addr} {xs : List V} (h : T2 H a xs) : SqT K H a xs := by
  rcases h with h | h
  · exact h.sq
  · exact .inl (.inl h)
theorem T2.same {H H' : Hp} {a : Addr} {xs : List V} (h : T2 H a xs) (s : Same H H') : T2 H' a xs := by
  rcases h with h | h
  · exact .inl (h.same s)
  · exact .inr (s _ _ h)
theorem T2.ty {K : PySem.W.Frag} {H : Hp} {a : Addr} {xs : List V} (h : T2 H a xs) : TyX K H (.ref a) (.type "tuple") := by
  rcases h with ⟨o, h, _⟩ | h
  · exact .fTuple h
  · exact .base (.tup h)
/-- all tuples stay -/
def K2 (H H' : Hp) : Prop := ∀ a xs, T2 H a xs → T2 H' a xs
theorem K2.same {H H' : Hp} (s : Same H H') : K2 H H' := fun _ _ h => h.same s
theorem K2.trans {H H1 H2 : Hp} (a : K2 H H1) (b : K2 H1 H2) : K2 H H2 := fun x xs h => b x xs (a x xs h)
/-- what is no tuple may be changed -/
theorem K2.upd {H : Hp} {a : Addr} {o u : HO} (e : H a = some o) (n : ∀ xs, o ≠ .tup xs) (n2 : ∀ b xs, o ≠ .frz b (.tup xs)) : K2 H (upd H a u) := by
  rintro b xs (⟨ob, h, d⟩ | h)
  · refine .inl ⟨ob, ?_, d⟩
    rw [upd_ne]
    · exact h
    · rintro rfl
      rw [e] at h
      cases h
      exact n2 _ _ rfl
  · refine .inr ?_
    rw [upd_ne]
    · exact h
    · rintro rfl
      rw [e] at h
      cases h
      exact n _ rfl
theorem K2.lst {H : Hp} {a : Addr} {xs : List V} {u : HO} (e : H a = some (.lst xs)) : K2 H (L2.upd H a u) := K2.upd e (fun _ z => nomatch z) (fun _ _ z => nomatch z)
abbrev Rw := List Int × List Int
def RowAt (H : Hp) (v : V) (r : Rw) : Prop := ∃ a b c, v = .ref a ∧ T2 H a [.ref b, .ref c] ∧ T2 H b (r.1.map V.int) ∧ T2 H c (r.2.map V.int)
theorem RowAt.keep {H H' : Hp} {v : V} {r : Rw} (k : K2 H H') (h : RowAt H v r) : RowAt H' v r := by
  obtain ⟨a, b, c, e, h1, h2, h3⟩ := h
  exact ⟨a, b, c, e, k _ _ h1, k _ _ h2, k _ _ h3⟩
def RowsAt (H : Hp) : List V → List Rw → Prop
  | [], [] => True
  | v :: vs, r :: rs => RowAt H v r ∧ RowsAt H vs rs
  | _, _ => False
theorem RowsAt.keep {H H' : Hp} (k : K2 H H') : ∀ {vs : List V} {rs : List Rw}, RowsAt H vs rs → RowsAt H' vs rs
  | [], [], _ => trivial
  | _ :: _, _ :: _, h => ⟨h.1.keep k, RowsAt.keep k h.2⟩
  | [], _ :: _, h => h.elim
  | _ :: _, [], h => h.elim
theorem RowsAt.len {H : Hp} : ∀ {vs : List V} {rs : List Rw}, RowsAt H vs rs → vs.length = rs.length
  | [], [], _ => rfl
  | _ :: _, _ :: _, h => by rw [List.length_cons, List.length_cons, RowsAt.len h.2]
  | [], _ :: _, h => h.elim
  | _ :: _, [], h => h.elim
theorem RowsAt.get {H : Hp} : ∀ {vs : List V} {rs : List Rw}, RowsAt H vs rs → ∀ {i : Nat} {v : V}, vs[i]? = some v → ∃ r, rs[i]? = some r ∧ RowAt H v r
  | [], [], _, i, v, e => by simp at e
  | _ :: _, _ :: _, h, 0, v, e => by
    obtain rfl := (by simpa using e : _ = v)
    exact ⟨_, rfl, h.1⟩
  | _ :: _, _ :: _, h, i + 1, v, e => RowsAt.get h.2 (i := i) (by simpa using e)
  | [], _ :: _, h, _, _, _ => h.elim
  | _ :: _, [], h, _, _, _ => h.elim
theorem RowsAt.app {H : Hp} : ∀ {vs ws : List V} {rs qs : List Rw}, RowsAt H vs rs → RowsAt H ws qs → RowsAt H (vs ++ ws) (rs ++ qs)
  | [], _, [], _, _, h => h
  | _ :: _, _, _ :: _, _, g, h => ⟨g.1, RowsAt.app g.2 h⟩
  | [], _, _ :: _, _, g, _ => g.elim
  | _ :: _, _, [], _, g, _ => g.elim
theorem RowsAt.snoc {H : Hp} {vs : List V} {rs : List Rw} {v : V} {r : Rw} (g : RowsAt H vs rs) (h : RowAt H v r) : RowsAt H (vs ++ [v]) (rs ++ [r]) := g.app ⟨h, trivial⟩
theorem RowsAt.of {H : Hp} : ∀ {vs : List V} {rs : List Rw}, vs.length = rs.length → (∀ (i : Nat) (v : V) (r : Rw), vs[i]? = some v → rs[i]? = some r → RowAt H v r) → RowsAt H vs rs
  | [], [], _, _ => trivial
  | v :: vs, r :: rs, e, h => ⟨h 0 v r rfl rfl, RowsAt.of (by simpa using e) fun i x y h1 h2 => h (i + 1) x y h1 h2⟩
  | [], _ :: _, e, _ => by simp at e
  | _ :: _, [], e, _ => by simp at e
/-- a web in the heap -/
def WebAt (H : Hp) (p : Addr) (rs : List Rw) : Prop := ∃ ws, H p = some (.lst ws) ∧ RowsAt H ws rs
theorem WebAt.same {H H' : Hp} {p : Addr} {rs : List Rw} (h : WebAt H p rs) (s : Same H H') : WebAt H' p rs := by
  obtain ⟨ws, e, r⟩ := h
  exact ⟨ws, s _ _ e, r.keep (K2.same s)⟩
/-- rising numbers within a bound -/
structure Ris (lo hi : Int) (ns : List Int) : Prop where
  pw : ns.Pairwise (· < ·)
  lo : ∀ k ∈ ns, lo ≤ k
  hi : ∀ k ∈ ns, k ≤ hi
structure RowOk (n : Nat) (r : Rw) : Prop where
  rooms : Ris 0 99 r.1
  few : r.1.length ≤ 6
  tos : Ris 0 ((n : Int) - 1) r.2
def allRooms (rs : List Rw) : List Int := (rs.map Prod.fst).flatten
structure WebOk (rs : List Rw) : Prop where
  pos : 1 ≤ rs.length
  few : rs.length ≤ 80
  row : ∀ r ∈ rs, RowOk rs.length r
  all : ∃ S : List Int, S.length ≤ 12 ∧ ∀ k ∈ allRooms rs, k ∈ S
theorem ris_len {ns : List Int} {n : Nat} : Ris 0 ((n : Int) - 1) ns → ns.length ≤ n := by
  induction n generalizing ns with
  | zero =>
    intro h
    cases ns with
    | nil => exact Nat.le_refl _
    | cons a l =>
      have h1 := h.lo a List.mem_cons_self
      have h2 := h.hi a List.mem_cons_self
      omega
  | succ n ih =>
    intro h
    rcases List.eq_nil_or_concat ns with e | ⟨l, a, e⟩
    · rw [e]
      exact Nat.zero_le _
    · rw [List.concat_eq_append] at e
      subst e
      have pw := List.pairwise_append.mp h.pw
      have ha := h.hi a (List.mem_append_right _ List.mem_cons_self)
      have z := ih (ns := l) ⟨pw.1, fun k hk => h.lo k (List.mem_append_left _ hk), fun k hk => by
        have := pw.2.2 k hk a List.mem_cons_self
        omega⟩
      rw [List.length_append]
      show l.length + 1 ≤ n + 1
      omega
section
variable {X : Cx}
/-- a slice of a tuple, whatever it is -/
def rSl2 : V → Option Int → Option Int → Hp → VK → Prop := fun x lo hi H Q => ∃ a xs, x = .ref a ∧ T2 H a xs ∧ ∀ v H', Same H H' → T2 H' v (cutV xs lo hi) → Q (.ref v) H'
theorem sl_tup2 : SlR X rSl2 := by
  intro pins s σ H x v vl vu lo hi sl Q I rx hs pl pu h
  obtain ⟨a, xs, rfl, hx, q⟩ := h
  refine sl_tupA pins s σ H _ v vl vu lo hi sl Q I rx hs pl pu ⟨a, xs, rfl, hx.sq, fun hw => q a H (Same.refl H) ?_, fun _ p np => q p _ (same_upd np) (.inr upd_same)⟩
  have z : cutV xs lo hi = xs := by
    unfold cutV
    rw [hw.1, hw.2, Nat.sub_zero, List.drop_zero, List.take_length]
  rw [z]
  exact hx
end
theorem cut_tail (xs : List V) : cutV xs (some 1) none = xs.drop 1 := by
  cases xs with
  | nil => rfl
  | cons x l =>
    have e1 : HT.sIx (x :: l).length 0 (some 1) = 1 := by
      have z := HT.sIx_nat (x :: l).length 0 1
      have z2 : HT.sIx (x :: l).length 0 (some (1 : Int)) = min 1 (x :: l).length := z
      rw [z2, List.length_cons]
      omega
    unfold cutV
    rw [e1, HT.sIx_none, List.take_of_length_le]
    rw [List.length_drop]
    exact Nat.le_refl _
theorem rep_all (n : Nat) : (List.replicate n true).all id = true := by
  rw [List.all_eq_true]
  intro x hx
  rw [List.eq_of_mem_replicate hx]
  rfl
theorem rep_snoc (n : Nat) : (List.replicate n (V.bl true)) ++ [V.bl true] = List.replicate (n + 1) (V.bl true) := by
  rw [← List.replicate_succ']
theorem rep_map (n : Nat) : (List.replicate n true).map V.bl = List.replicate n (V.bl true) := List.map_replicate
/-! a comprehension over zip of two tuples -/
open RZ in
theorem lc_zipT {K : PySem.W.Frag} {a b : Addr} {xs ys : List V} {g : TG} {tt : TT} {te : TE} {vs : List Nat} {σ : L2.St} {H1 : Hp} {D : Addr} {Qd : Hp → Prop} (hl : ys.length ≤ xs.length) (Pv : Nat → Hp → Prop) (h0 : Pv 0 (upd H1 D (.lst [])))
    (hq : ∀ i H, i ≤ ys.length → Pv i H → SqT K H a xs ∧ SqT K H b ys)
    (hs : ∀ (i : Nat) (x y : V) (T : Addr) (H : Hp), xs[i]? = some x → ys[i]? = some y → Pv i H → H T = none → g (.ref T) (wipe σ vs) (upd H T (.tup [x, y])) fun σ2 H2 => wipe σ2 vs = wipe σ vs ∧ tt σ2 H2 fun b H3 =>
      if b = true then te σ2 H3 fun y H4 => ∃ acc, H4 D = some (.lst acc) ∧ acc.length < sizeLine ∧ Pv (i + 1) (upd H4 D (.lst (acc ++ [y]))) else Pv (i + 1) H3) (hd : ∀ H, Pv ys.length H → Qd H) :
    ∃ W : Nat → Nat → Hp → Prop, (∃ m, W 0 m (upd H1 D (.lst []))) ∧ ∀ i m H, W i m H →
      ((ItzT K a b).stop i H ∧ Qd H) ∨ ((ItzT K a b).go i H ∧ ∃ Nx : Hp → Prop, (∀ H', Nx H' → ∃ m', m' < m ∧ W (i + 1) m' H') ∧ ∀ x H', (ItzT K a b).yld i H x H' → g x (wipe σ vs) H' fun σ2 H2 => wipe σ2 vs = wipe σ vs ∧ tt σ2 H2 fun b H3 =>
        if b = true then te σ2 H3 fun y H4 => ∃ acc, H4 D = some (.lst acc) ∧ acc.length < sizeLine ∧ Nx (upd H4 D (.lst (acc ++ [y]))) else Nx H3) := by
  refine ⟨fun i m H => m = ys.length - i ∧ i ≤ ys.length ∧ Pv i H, ⟨ys.length, (Nat.sub_zero _).symm, Nat.zero_le _, h0⟩, ?_⟩
  rintro i m H ⟨rfl, hi, p⟩
  obtain ⟨qx, qy⟩ := hq i H hi p
  by_cases hlt : i < ys.length
  · have hy : ys[i]? = some ys[i] := List.getElem?_eq_getElem hlt
    have hx : xs[i]? = some xs[i] := List.getElem?_eq_getElem (by omega)
    refine .inr ⟨⟨xs, ys, _, _, qx, qy, hx, hy⟩, Pv (i + 1), fun H' p' => ⟨ys.length - (i + 1), by omega, rfl, hlt, p'⟩, fun v H' y => ?_⟩
    obtain ⟨T, x', y', rfl, nT, rfl, f1, f2⟩ := y
    exact hs i x' y' T H (f1 xs qx) (f2 ys qy) p nT
  · have e : i = ys.length := by omega
    subst e
    exact .inl ⟨⟨xs, ys, qx, qy, .inr (Nat.le_refl _)⟩, hd H p⟩
section
variable {K : PySem.W.Frag} {a : Addr} {xs : List V}
theorem lc_enumS {g : TG} {tt : TT} {te : TE} {vs : List Nat} {σ : L2.St} {H1 : Hp} {D : Addr} {Qd : Hp → Prop} (Pv : Nat → Hp → Prop) (h0 : Pv 0 (upd H1 D (.lst []))) (hl : ∀ i H, i ≤ xs.length → Pv i H → SqL K H a xs)
    (hs : ∀ i x H T, xs[i]? = some x → Pv i H → H T = none → g (.ref T) (wipe σ vs) (upd H T (.tup [.int (i : Nat), x])) fun σ2 H2 => wipe σ2 vs = wipe σ vs ∧ tt σ2 H2 fun b H3 =>
      if b = true then te σ2 H3 fun y H4 => ∃ acc, H4 D = some (.lst acc) ∧ acc.length < sizeLine ∧ Pv (i + 1) (upd H4 D (.lst (acc ++ [y]))) else Pv (i + 1) H3) (hd : ∀ H, Pv xs.length H → Qd H) :
    ∃ W : Nat → Nat → Hp → Prop, (∃ m, W 0 m (upd H1 D (.lst []))) ∧ ∀ i m H, W i m H →
      ((Ite K a).stop i H ∧ Qd H) ∨ ((Ite K a).go i H ∧ ∃ Nx : Hp → Prop, (∀ H', Nx H' → ∃ m', m' < m ∧ W (i + 1) m' H') ∧ ∀ x H', (Ite K a).yld i H x H' → g x (wipe σ vs) H' fun σ2 H2 => wipe σ2 vs = wipe σ vs ∧ tt σ2 H2 fun b H3 =>
        if b = true then te σ2 H3 fun y H4 => ∃ acc, H4 D = some (.lst acc) ∧ acc.length < sizeLine ∧ Nx (upd H4 D (.lst (acc ++ [y]))) else Nx H3) := by
  refine ⟨fun i m H => m = xs.length - i ∧ i ≤ xs.length ∧ Pv i H, ⟨xs.length, (Nat.sub_zero _).symm, Nat.zero_le _, h0⟩, ?_⟩
  rintro i m H ⟨rfl, hi, p⟩
  have q := hl i H hi p
  by_cases hlt : i < xs.length
  · refine .inr ⟨⟨xs, xs[i], q, List.getElem?_eq_getElem hlt⟩, Pv (i + 1), fun H' p' => ⟨xs.length - (i + 1), by omega, rfl, hlt, p'⟩, fun v H' y => ?_⟩
    obtain ⟨T, x, rfl, nT, rfl, y⟩ := y
    exact hs i x H T (y xs q) p nT
  · have e : i = xs.length := by omega
    subst e
    exact .inl ⟨⟨xs, q, Nat.le_refl _⟩, hd H p⟩
theorem for_enumS {g : TG} {tb : TS} {D : Ends} {σ : L2.St} {H : Hp} (Pv : Nat → L2.St → Hp → Prop) (h0 : Pv 0 σ H) (hl : ∀ i σ H, i ≤ xs.length → Pv i σ H → SqL K H a xs)
    (hs : ∀ i x σ H T, xs[i]? = some x → Pv i σ H → H T = none → g (.ref T) σ (upd H T (.tup [.int (i : Nat), x])) fun σ2 H2 => tb { D with nx := Pv (i + 1), ct := Pv (i + 1), bk := D.nx } σ2 H2) (hd : ∀ σ H, Pv xs.length σ H → D.nx σ H) :
    ∃ W : Nat → Nat → L2.St → Hp → Prop, (∃ m, W 0 m σ H) ∧ ∀ i m σ H, W i m σ H →
      ((Ite K a).stop i H ∧ D.nx σ H) ∨ ((Ite K a).go i H ∧ ∃ N : L2.St → Hp → Prop, (∀ σ' H', N σ' H' → ∃ m', m' < m ∧ W (i + 1) m' σ' H') ∧ ∀ v H', (Ite K a).yld i H v H' → g v σ H' fun σ2 H2 => tb { D with nx := N, ct := N, bk := D.nx } σ2 H2) := by
  refine ⟨fun i m σ H => m = xs.length - i ∧ i ≤ xs.length ∧ Pv i σ H, ⟨xs.length, (Nat.sub_zero _).symm, Nat.zero_le _, h0⟩, ?_⟩
  rintro i m σ H ⟨rfl, hi, p⟩
  have q := hl i σ H hi p
  by_cases hlt : i < xs.length
  · refine .inr ⟨⟨xs, xs[i], q, List.getElem?_eq_getElem hlt⟩, Pv (i + 1), fun σ' H' p' => ⟨xs.length - (i + 1), by omega, rfl, hlt, p'⟩, fun v H' y => ?_⟩
    obtain ⟨T, x, rfl, nT, rfl, y⟩ := y
    exact hs i x σ H T (y xs q) p nT
  · have e : i = xs.length := by omega
    subst e
    exact .inl ⟨⟨xs, q, Nat.le_refl _⟩, hd σ H p⟩
end
theorem K2.of {p : Addr} {H H' : Hp} (k : Kept p H H') (hp : PoolAt H p) : K2 H H' := by
  rintro a xs (h | h)
  · exact .inl (h.kept k hp)
  · refine .inr (k _ _ h fun z => ?_)
    subst z
    obtain ⟨o, e, g, m, rfl, _⟩ := hp
    rw [e] at h
    cases h
theorem cut_to (xs : List V) (k : Nat) : cutV xs none (some (k : Int)) = xs.take k := by
  have e1 : HT.sIx xs.length xs.length (some (k : Int)) = min k xs.length := HT.sIx_nat xs.length xs.length k
  unfold cutV
  rw [e1, HT.sIx_none, Nat.sub_zero, List.drop_zero]
  by_cases h : k ≤ xs.length
  · rw [Nat.min_eq_left h]
  · rw [Nat.min_eq_right (by omega), List.take_length, List.take_of_length_le (by omega)]
theorem cut_from (xs : List V) (k : Nat) : cutV xs (some (k : Int)) none = xs.drop k := by
  have e1 : HT.sIx xs.length 0 (some (k : Int)) = min k xs.length := HT.sIx_nat xs.length 0 k
  unfold cutV
  rw [e1, HT.sIx_none]
  by_cases h : k ≤ xs.length
  · rw [Nat.min_eq_left h, List.take_of_length_le (by rw [List.length_drop]; exact Nat.le_refl _)]
  · rw [Nat.min_eq_right (by omega), List.drop_of_length_le (Nat.le_refl _), List.take_nil, List.drop_of_length_le (by omega)]
theorem pw_lt {ms : List Int} (h : ms.Pairwise (· ≤ ·)) (nd : ms.Nodup) : ms.Pairwise (· < ·) := by
  have z := h.and nd
  exact z.imp fun ⟨a, b⟩ => by omega
/-! a web as data, for repr -/
theorem dp_intsS {K : PySem.W.Frag} {H : Hp} : ∀ ns : List Int, DpAll K H (ns.map V.int) (ns.map PyData.int)
  | [] => .nil
  | n :: ns => .cons (.int n) (dp_intsS ns)
def rowD (r : Rw) : PyData := .tuple [.tuple (r.1.map PyData.int), .tuple (r.2.map PyData.int)]
def webD (rs : List Rw) : PyData := .list (rs.map rowD)
theorem rows_dp {K : PySem.W.Frag} {H : Hp} : ∀ {ws : List V} {rs : List Rw}, RowsAt H ws rs → DpAll K H ws (rs.map rowD)
  | [], [], _ => .nil
  | w :: ws, r :: rs, h => by
    obtain ⟨⟨a, b, c, rfl, h1, h2, h3⟩, t⟩ := h
    exact .cons (.tup h1.sq (.cons (.tup h2.sq (dp_intsS _)) (.cons (.tup h3.sq (dp_intsS _)) .nil))) (rows_dp t)
  | [], _ :: _, h => h.elim
  | _ :: _, [], h => h.elim
theorem WebAt.dp {K : PySem.W.Frag} {H : Hp} {p : Addr} {rs : List Rw} (h : WebAt H p rs) : Dp K H (.ref p) (webD rs) := by
  obtain ⟨ws, e, r⟩ := h
  exact .lst (SqL.of e) (rows_dp r)
theorem FineL.up {ds : List PyData} {n m n' m' : Nat} (h : FineL ds n m) (a : n ≤ n') (b : m ≤ m') : FineL ds n' m' := ⟨h.sh, h.nd, Nat.le_trans h.dp a, h.lv, Nat.le_trans h.wt b, h.cl⟩
theorem row_fine {n : Nat} {r : Rw} (ok : RowOk n r) (hn : n ≤ 80) : Fine (rowD r) 2 3600 := by
  have h1 := FineL.ints r.1 fun z hz => by
    have a := ok.rooms.lo z hz
    have b := ok.rooms.hi z hz
    omega
  have h2 := FineL.ints r.2 fun z hz => by
    have a := ok.tos.lo z hz
    have b := ok.tos.hi z hz
    omega
  have l1 := ok.few
  have l2 := ris_len ok.tos
  have z := Fine.tuple (FineL.cons (Fine.tuple h1) (FineL.cons (Fine.tuple h2) FineL.nil))
  exact z.up (Nat.le_refl _) (by omega)
theorem rows_fine {n : Nat} (hn : n ≤ 80) : ∀ {rs : List Rw}, (∀ r ∈ rs, RowOk n r) → FineL (rs.map rowD) 2 (3601 * rs.length)
  | [], _ => FineL.nil
  | r :: rs, h => by
    have a := FineL.cons (row_fine (h r List.mem_cons_self) hn) (rows_fine hn fun y hy => h y (List.mem_cons_of_mem _ hy))
    exact a.up (Nat.le_refl _) (by rw [List.length_cons]; omega)
theorem WebOk.fine {rs : List Rw} (ok : WebOk rs) : Fine (webD rs) 3 300000 := by
  have h := ok.few
  exact (Fine.list (rows_fine h ok.row)).up (Nat.le_refl _) (by omega)
end Su
/-! ### SF: a tuple times 0 or 1, the sorted keys of a dict -/
namespace Su
open PySem PySem.Spec PyProof.Rows L2
theorem tuple_mul0 (l : Addr) (items : Array Value) (n : Nat) (dd : Option Addr) (sl : Array (Option Value)) (u : Tok) (ne : items.isEmpty = false) :
    Meets (Builtin.«tuple.__mul__» ⟨[.ref l, .int 0 u], []⟩) (fun _ R s => s.heap.get? l = some { cls := .type "tuple", dict := dd, data := .seq items n, slots := sl } ∧ R (.ok (.ret (Value.ref s.heap.objs.size))) { s with heap := s.heap.push (tupO []) }) :=
  .of_wp fun prog w A R s h => by
    obtain ⟨hp, g, d, tk, os⟩ := s
    obtain ⟨hl, h⟩ := h
    have f1 := AutoSeq1.idx_int
    wp_walk using wpAny_loadPart' hl
    repeat (first
      | (refine wpAny_ite_false (by rw [ne]; rfl) ?_; wp_walk using wpAny_loadPart' hl)
      | (refine wpAny_ite_true rfl ?_; wp_walk using wpAny_loadPart' hl))
    exact ⟨_, rfl, h⟩
theorem tuple_mul1 (l : Addr) (items : Array Value) (n : Nat) (dd : Option Addr) (sl : Array (Option Value)) (u : Tok) :
    Meets (Builtin.«tuple.__mul__» ⟨[.ref l, .int 1 u], []⟩) (fun _ R s => s.heap.get? l = some { cls := .type "tuple", dict := dd, data := .seq items n, slots := sl } ∧ R (.ok (.ret (Value.ref l))) s) :=
  .of_wp fun prog w A R s h => by
    obtain ⟨hp, g, d, tk, os⟩ := s
    obtain ⟨hl, h⟩ := h
    have f1 := AutoSeq1.idx_int
    wp_walk using wpAny_loadPart' hl
    exact ⟨_, rfl, h⟩
section
variable {X : Cx}
/-- (x, ..) * k, k 0 or 1 -/
def rMul01 : R2 := fun x y H Q => ∃ (a : Addr) (k : Int) (xs : List V), x = .ref a ∧ y = .int k ∧ T2 H a xs ∧ xs ≠ [] ∧ (k = 0 ∨ k = 1) ∧ ∀ v H', Same H H' → T2 H' v (if k = 1 then xs else []) → Q (.ref v) H'
theorem op_mul01 : OpR X (binaryOp .Mult) rMul01 := by
  intro pins s σ H x y v u Q I rx ry h
  obtain ⟨a, k, xs, rfl, rfl, ha, ne, hk, q⟩ := h
  cases rx
  obtain ⟨t, rfl⟩ := ry
  obtain ⟨its, r, ⟨⟨cls, dd, data, sl⟩, ho, hc, n, hd⟩, hs⟩ := I.tuple (ha.sq (K := X.K))
  simp only at hc hd
  subst hc hd
  have ni : its.toArray.isEmpty = false := by
    cases its with
    | nil =>
      cases r
      exact absurd rfl ne
    | cons _ _ => rfl
  rcases hk with rfl | rfl
  · refine wpAny_binaryOp_repeat_ref (T := "tuple") (U := "int") (by decide) ⟨_, ho, rfl⟩ (fun s' => typeIs_int s' 0 t) noFill_tuple_mul F.fills_int_mul F.slot_int_rmul repeat_tuple F.slot_int_index.lookup
      (call_meets F.slot_int_rmul (typeIs_int s 0 t) F.entry_int_rmul (F.args_int_rmul_2 _ _) (int_rmul_tuple 0 t a its.toArray n dd sl)
        ⟨ho, rfl, ⟨_, ho, rfl⟩, call_meets F.slot_tuple_mul ⟨_, ho, rfl⟩ F.entry_tuple_mul (F.args_tuple_mul_2 _ _) (tuple_mul0 a its.toArray n dd sl t ni) ⟨ho, ?_⟩⟩)
    exact newF I .nil (Nat.zero_le _) (fun v H' s' _ h => q v H' s' (.inl h)) s.toks
  · refine wpAny_binaryOp_repeat_ref (T := "tuple") (U := "int") (by decide) ⟨_, ho, rfl⟩ (fun s' => typeIs_int s' 1 t) noFill_tuple_mul F.fills_int_mul F.slot_int_rmul repeat_tuple F.slot_int_index.lookup
      (call_meets F.slot_int_rmul (typeIs_int s 1 t) F.entry_int_rmul (F.args_int_rmul_2 _ _) (int_rmul_tuple 1 t a its.toArray n dd sl)
        ⟨ho, rfl, ⟨_, ho, rfl⟩, call_meets F.slot_tuple_mul ⟨_, ho, rfl⟩ F.entry_tuple_mul (F.args_tuple_mul_2 _ _) (tuple_mul1 a its.toArray n dd sl t) ⟨ho, ?_⟩⟩)
    exact ⟨.ref a, H, I, rfl, q a H (Same.refl H) ha⟩
/-- the keys of a dict, all ints -/
def KeysI (kvs : List (Key × V)) (ks : List Int) : Prop := kvs.map (·.1) = ks.map Sum.inl
theorem KeysI.len {kvs : List (Key × V)} {ks : List Int} (h : KeysI kvs ks) : kvs.length = ks.length := by
  have z := congrArg List.length h
  rwa [List.length_map, List.length_map] at z
theorem KeysI.put {kvs : List (Key × V)} {ks : List Int} (h : KeysI kvs ks) (nd : ks.Nodup) (k : Int) (v : V) : ∃ ks', KeysI (putK kvs (Sum.inl k) v) ks' ∧ ks'.Nodup ∧ ∀ j, j ∈ ks' ↔ j ∈ ks ∨ j = k := by
  unfold putK
  by_cases hk : (kvs.any fun kv => decide (kv.1 = Sum.inl k)) = true
  · rw [if_pos hk]
    refine ⟨ks, ?_, nd, fun j => ⟨.inl, ?_⟩⟩
    · unfold KeysI at h ⊢
      rw [← h, List.map_map]
      refine List.map_congr_left fun q _ => ?_
      show (if q.1 = Sum.inl k then (q.1, v) else q).1 = q.1
      split <;> rfl
    · rintro (z | rfl)
      · exact z
      · obtain ⟨q, hq, e⟩ := List.any_eq_true.mp hk
        have z : (Sum.inl j : Key) ∈ kvs.map (·.1) := by
          rw [← of_decide_eq_true e]
          exact List.mem_map_of_mem hq
        rw [h] at z
        obtain ⟨i, hi, e2⟩ := List.mem_map.mp z
        rw [← Sum.inl.inj e2]
        exact hi
  · rw [if_neg hk]
    have nk : k ∉ ks := fun hm => hk (by
      have z : (Sum.inl k : Key) ∈ kvs.map (·.1) := by
        rw [h]
        exact List.mem_map_of_mem hm
      obtain ⟨q, hq, e⟩ := List.mem_map.mp z
      exact List.any_eq_true.mpr ⟨q, hq, decide_eq_true e⟩)
    refine ⟨ks ++ [k], ?_, ?_, fun j => by rw [List.mem_append, List.mem_singleton]⟩
    · unfold KeysI at h ⊢
      rw [List.map_append, List.map_append, h]
      rfl
    · rw [List.nodup_append]
      refine ⟨nd, by simp, fun a ha b hb => ?_⟩
      rw [List.mem_singleton.mp hb]
      rintro rfl
      exact nk ha
/-- sorted(d), all keys ints -/
def rSortedDI : List V → Hp → VK → Prop := fun xs H Q => ∃ (a : Addr) (kvs : List (Key × V)) (ks : List Int), xs = [.ref a] ∧ H a = some (.dK kvs) ∧ KeysI kvs ks ∧ ks.length ≤ 4000 ∧
  ∀ (ys : List Int) (p : Addr), ys.Perm ks → ys.Pairwise (· ≤ ·) → H p = none → Q (.ref p) (upd H p (.lst (ys.map V.int)))
theorem cr_sortedDI (hc : X.calm = true) : CallR X (.builtin "sorted") rSortedDI := by
  intro pins s σ H xs us Q I r h
  obtain ⟨a, kvs, ks, rfl, hd, hks, few, q⟩ := h
  rw [Vals.ref1 r]
  obtain ⟨z, lo, vs, rel, dd⟩ := dk_rd I.hok (.inl hd)
  obtain ⟨ep, hat⟩ := dd.dictAt
  have keys : vs.map (·.1) = ks.map Sum.inl := rel.keys.symm.trans hks
  have len : vs.length = ks.length := by
    have y := congrArg List.length keys
    rwa [List.length_map, List.length_map] at y
  have small : vs.length ≤ sizeLine := by
    rw [len, sizeLine_eq]
    omega
  refine Calls.call_function_entry kind_sorted plain_sorted entry_sorted (args_sorted1 _) ?_
  unfold Builtin.«sorted»
  refine wpAny_bind (m := checkCount "sorted" 1 1 _) (wpAny_pure (wpAny_bind (PySem.W.kdu_collect (A := X.A.in1) (PySem.W.kdl_dict (knd := mixKind X.prog X.w) (kvs := vs) (ep := ep) lo) (I.ok.hd hc) hat small fun h' tk acc hk hacc => ?_)))
  have rv : Vals (vs.map fun p => kV p.1) acc.toList := keys_at (by rw [Array.length_toList, hacc.1]) fun j v e => hacc.2 j v (by rw [← Array.getElem?_toList]; exact e)
  have rv2 : Vals (ks.map V.int) acc.toList := by
    have y : (vs.map fun p => kV p.1) = ks.map V.int := by
      have y1 : (vs.map fun p => kV p.1) = (vs.map (·.1)).map kV := by rw [List.map_map]; rfl
      rw [y1, keys, List.map_map]
      rfl
    rwa [y] at rv
  have hI := rv2.ints
  have alen : acc.toList.length ≤ sizeLine := by
    rw [Array.length_toList, hacc.1]
    exact small
  have I1 : Inv X pins σ H { s with heap := h', toks := tk } := I.kept hk
  refine wpAny_bind (wpAny_newList ?_ alen)
  have at1 : (h'.push (seqObj "list" acc.toList.toArray 0)).get? h'.objs.size = some (seqObj "list" acc.toList.toArray 0) := Heap.get?_push_size _ rfl
  show wpAny _ _ _ _ _ { s with heap := h'.push (seqObj "list" acc.toList.toArray 0), toks := tk }
  refine wpAny_bind (wpAny_holding (wpAny_call_entry slot_list_sort ⟨_, at1, rfl⟩ entry_list_sort (SrtO.list_sort_ord SrtO.swo_int (s := { s with heap := h'.push (seqObj "list" acc.toList.toArray 0), toks := tk }) at1 alen (fun h2 => SrtO.ints_sortable hI h2) fun out h1 h2 => ⟨_, rfl, ?_⟩) (args_list_sort _)))
  obtain ⟨k3, k4, k5⟩ := SrtO.ints_out hI h1 h2
  obtain ⟨c, hcc⟩ := sortedHeap_at (vs := acc.toList) (out := out.toArray) at1
  have olen : ((out.map SrtO.iv).map V.int).length ≤ sizeLine := by
    rw [List.length_map, k4.length_eq, sizeLine_eq]
    omega
  refine wpAny_pure ⟨_, rfl, .ref h'.objs.size, upd H h'.objs.size (.lst ((out.map SrtO.iv).map V.int)), I1.laid (t' := tk) (fun b u e => ?_) (Nat.le_refl _) (show ObjOk X.prog X.w _ _ _ (.lst _) from ⟨olen, out, c, vals_of_ints k3, hcc⟩), rfl, q _ _ k4 k5 (I1.hok.fresh (Nat.le_refl _))⟩
  have lt : b < h'.objs.size := Heap.lt_size e
  rw [sortedHeap_old (Nat.ne_of_lt lt) (by rw [size_push']; exact Nat.lt_succ_of_lt lt)]
  exact Heap.get?_push_of_some _ e
end
end Su
/-! ### SG: l.extend(t), t a tuple; rows that are written -/
namespace Su
open PySem PySem.Spec PyProof.Rows L2
theorem ext_tup (l : Addr) (items : Array Value) (n : Nat) (b : Addr) (more : Array Value) (m : Nat) (dd : Option Addr) (sl : Array (Option Value)) (h0 : ¬(!items.isEmpty && Builtin.List.listTooLong (items.size + more.size)) = true) (h1 : items.size ≤ sizeLine) (h2 : items.size + more.size ≤ sizeLine + 1) :
    Meets (Builtin.«list.extend» ⟨[.ref l, .ref b], []⟩) (fun _ R s => s.heap.get? l = some { cls := .type "list", data := .seq items n } ∧ s.heap.get? b = some { cls := .type "tuple", dict := dd, data := .seq more m, slots := sl } ∧
      R (.ok (.ret .none)) { s with heap := s.heap.update l (Obj.mapSeq fun x => x ++ more) }) :=
  .of_wp fun prog w A R s h => by
    obtain ⟨hp, g, d, tk, os⟩ := s
    obtain ⟨hl, hb, h⟩ := h
    have f1 := AutoSeq1.idx_int
    have f2 := F.sub_tuple_tuple
    have f3 := F.sub_list_list
    have f4 := F.sub_tuple_list
    have f5 := F.sub_list_tuple
    have fits : (items ++ more).size ≤ sizeLine + 1 := by
      rw [Array.size_append]
      exact h2
    wp_walk using (wpAny_updateSeq hl rfl (hz := h1) (_hz' := fits)), wpAny_loadPart' hl, wpAny_loadPart' hb
    exact ⟨_, rfl, h⟩
section
variable {X : Cx}
def rExtT (K : PySem.W.Frag) : V → List V → Hp → VK → Prop := fun x vs H Q => ∃ l b xs zs, x = .ref l ∧ vs = [.ref b] ∧ H l = some (.lst xs) ∧ SqT K H b zs ∧ xs.length + zs.length ≤ sizeLine ∧ Q .non (upd H l (.lst (xs ++ zs)))
theorem mt_extT : MtM X "list.extend" (rExtT X.K) := by
  intro pins s σ H x vs v us Q I rx rv h
  obtain ⟨l, b, xs, zs, rfl, rfl, hH, hB, hz, q⟩ := h
  cases rx
  obtain ⟨u, rfl, ru⟩ := rv.one
  cases ru
  obtain ⟨z, its, n, r, hl, e⟩ := I.lstM hH
  obtain ⟨it2, r2, ⟨⟨cls, dd, data, sl⟩, ho, hc, m, hd⟩, _⟩ := I.tuple hB
  simp only at hc hd
  subst hc hd
  have hl2 := r2.length
  have fit : its.toArray.size + it2.toArray.size ≤ sizeLine := by
    rw [List.size_toArray, List.size_toArray]
    omega
  have short : ¬ (!its.toArray.isEmpty && Builtin.List.listTooLong (its.toArray.size + it2.toArray.size)) = true := by
    rw [notLongL fit, Bool.and_false]
    exact Bool.false_ne_true
  refine call_meets F.slot_list_extend ⟨_, e, rfl⟩ F.entry_list_extend (F.args_list_extend_2 _ _) (ext_tup l its.toArray n b it2.toArray m dd sl short (by rw [List.size_toArray]; omega) (by omega)) ⟨e, ho, ?_⟩
  refine ⟨.non, _, I.lset (its' := its ++ it2) hH e (by simp) (r.append r2) ?_, rfl, q⟩
  rw [List.length_append]
  omega
end
/-! written rows -/
def risB (hi : Int) : Int → List Int → Bool
  | _, [] => true
  | lo, k :: r => decide (lo ≤ k) && decide (k ≤ hi) && risB hi (k + 1) r
theorem ris_of {hi : Int} : ∀ {lo : Int} {l : List Int}, risB hi lo l = true → Ris lo hi l
  | _, [], _ => ⟨List.Pairwise.nil, fun _ h => (List.not_mem_nil h).elim, fun _ h => (List.not_mem_nil h).elim⟩
  | lo, k :: r, h => by
    unfold risB at h
    rw [Bool.and_eq_true, Bool.and_eq_true, decide_eq_true_eq, decide_eq_true_eq] at h
    have z := ris_of h.2
    refine ⟨List.pairwise_cons.mpr ⟨fun x hx => by have := z.lo x hx; omega, z.pw⟩, fun x hx => ?_, fun x hx => ?_⟩
    · rcases List.mem_cons.mp hx with e | e
      · rw [e]
        exact h.1.1
      · have := z.lo x e
        omega
    · rcases List.mem_cons.mp hx with e | e
      · rw [e]
        exact h.1.2
      · exact z.hi x e
def rowB (n : Nat) (r : Rw) : Bool := risB 99 0 r.1 && decide (r.1.length ≤ 6) && risB ((n : Int) - 1) 0 r.2
theorem row_of {n : Nat} {r : Rw} (h : rowB n r = true) : RowOk n r := by
  unfold rowB at h
  rw [Bool.and_eq_true, Bool.and_eq_true, decide_eq_true_eq] at h
  exact ⟨ris_of h.1.1, h.1.2, ris_of h.2⟩
def webB (A : List Int) (rs : List Rw) : Bool := decide (1 ≤ rs.length) && decide (rs.length ≤ 80) && rs.all (rowB rs.length) && decide (A.length ≤ 12) && (allRooms rs).all (fun k => decide (k ∈ A))
theorem web_of {A : List Int} {rs : List Rw} (h : webB A rs = true) : WebOk rs := by
  unfold webB at h
  simp only [Bool.and_eq_true, decide_eq_true_eq, List.all_eq_true] at h
  exact ⟨h.1.1.1.1, h.1.1.1.2, fun r hr => row_of (h.1.1.2 r hr), A, h.1.2, h.2⟩
def upto (n : Nat) : List Int := (List.range n).map fun i => ((i : Nat) : Int)
theorem upto_rg (n : Nat) : rgV 0 (n : Int) = (upto n).map V.int := by
  unfold rgV upto
  rw [List.map_map, show ((n : Int) - 0).toNat = n by omega]
  refine List.map_congr_left fun i _ => ?_
  show V.int (0 + (i : Nat)) = V.int (i : Int)
  rw [Int.zero_add]
theorem upto_mem {n : Nat} {k : Int} : k ∈ upto n ↔ 0 ≤ k ∧ k < n := by
  unfold upto
  rw [List.mem_map]
  constructor
  · rintro ⟨i, hi, rfl⟩
    have := List.mem_range.mp hi
    omega
  · intro h
    exact ⟨k.toNat, List.mem_range.mpr (by omega), by omega⟩
theorem upto_pw (n : Nat) : (upto n).Pairwise (· < ·) := by
  unfold upto
  rw [List.pairwise_map]
  exact List.pairwise_lt_range.imp fun h => by omega
end Su
/-! ### SI: a comprehension within another one -/
namespace Su
open PySem PySem.Spec PyProof.Rows L2
theorem blkOk_in {N : List Str} {sc scope : Scope} {own : List (Str × Nat)} (fr : List Str) (h : blkC N { kind := .function, names := fr.map fun x => (x, NameKind.cell), isGenerator := false, isCoroutine := false } scope own = true)
    (h2 : ∀ x ∈ fr, sc.names.lookup x = some .cell ∨ sc.names.lookup x = some .free) : BlkOk N sc scope own := by
  have b := blkOk_by h
  refine ⟨b.kind, b.uniq, b.ix, fun y hy e => ?_, b.own⟩
  refine h2 y.1 ?_
  have key : ∀ (l : List Str) (x : Str) (k : NameKind), (l.map fun x => (x, NameKind.cell)).lookup x = some k → x ∈ l := by
    intro l
    induction l with
    | nil =>
      intro x k e
      simp at e
    | cons a l ih =>
      intro x k e
      rw [List.map_cons, List.lookup_cons] at e
      by_cases hx : (x == a) = true
      · rw [eq_of_beq hx]
        exact List.mem_cons_self
      · rw [Bool.not_eq_true] at hx
        rw [hx] at e
        exact List.mem_cons_of_mem _ (ih x k e)
  rcases b.free y hy e with z | z
  · exact key _ _ _ z
  · exact key _ _ _ z
end Su
/-! ### XA: an exception that is caught and kept -/
namespace Su
open PySem PySem.Spec PyProof.Rows L2
/-- at a: an exception of the class cls, its dict at d -/
def exK (a : Addr) (cls : Value) (d : Option Addr) : HO := .ext fun h => ∃ (oe : Obj) (vs : Array Value), h.get? a = some oe ∧ Zc cls d oe ∧ oe.data = .fields vs
theorem exK_ok {P : Program} {w : World} {H : Hp} {h : Heap} {a : Addr} {cls : Value} {d : Option Addr} {oe : Obj} {vs : Array Value} (e : h.get? a = some oe) (z : Zc cls d oe) (hd : oe.data = .fields vs) : ObjOk P w H h a (exK a cls d) := by
  refine ⟨⟨oe, vs, e, z, hd⟩, ⟨oe, e⟩, fun h1 h2 p k => ?_⟩
  obtain ⟨o, v, e1, z1, d1⟩ := p
  exact ⟨o, v, k _ e1, z1, d1⟩
section
variable {X : Cx} {pins : List (Addr × Obj)} {σ : L2.St} {H : Hp} {s : Shared}
/-- what is new since the entry may be tracked from now on -/
theorem track {a : Addr} {o : HO} (I : Inv X pins σ H s) (ha : H a = none) (h0 : X.s_0.heap.get? a = none) (nl : a ≠ X.env.locals) (nc : ∀ x c, X.env.cells.lookup x = some c → c ≠ a) (np : ∀ p ∈ X.pn ++ pins, p.1 ≠ a)
    (new : ObjOk X.prog X.w (upd H a o) s.heap a o) : Inv X pins σ (upd H a o) s where
  ok := I.ok
  os := I.os
  bare := I.bare
  base := {
    keep := I.base.keep
    slot := I.base.slot
    free := fun b u q n x => by
      rw [upd_ne fun z => by rw [z, h0] at q; cases q]
      exact I.base.free b u q n x
    there := I.base.there
    tups := fun b xs q => by
      have z := I.base.tups b xs q
      rw [upd_ne (ne_of_none z ha)]
      exact z
    frzs := fun b u v q => by
      have z := I.base.frzs b u v q
      rw [upd_ne (ne_of_none z ha)]
      exact z
    tbls := fun b ps q => by
      obtain ⟨more, z⟩ := I.base.tbls b ps q
      exact ⟨more, by rw [upd_ne (ne_of_none z ha)]; exact z⟩ }
  loc := I.loc
  cell := I.cell
  free := by
    rw [upd_ne nl.symm]
    exact I.free
  freeC := fun x c e => by
    rw [upd_ne (nc x c e)]
    exact I.freeC x c e
  pin := fun p hp => by
    obtain ⟨p1, p2, p3⟩ := I.pin p hp
    exact ⟨p1, by rw [upd_ne (np p hp)]; exact p2, p3⟩
  hok := HOk.laidN I.hok (fun _ _ q => q) ha new
  len := I.len
end
def wKeep (K : PySem.W.Frag) (c : Value) (i : Nat) (ts : Addr → TS) (Wo : WX) (D : Ends) : WX := fun cls d σ H =>
  ∃ b, PySem.W.exmOne K cls c = some b ∧
    (b = true → ∀ a, H a = none → ts a { nx := fun σ' H' => D.nx (σ'.set i none) (upd H' a (exK a cls d)), rt := fun _ _ => False, bk := fun _ _ => False, ct := fun _ _ => False } (σ.set i (some (.ref a))) H) ∧
    (b = false → Wo cls d σ H)
section
variable {X : Cx} {x n : Str} {c : Value} {i : Nat} {body suite : List Stmt} {b0 : Stmt} {np pos pos' : Pos} {tb : WX → TS} {ts : Addr → TS} {Wo : WX}
/-- try: .. except x as n: suite, the exception tracked behind the suite -/
theorem ps_try_keep (hex : X.ex = []) (hs : X.stack = X.env :: X.outer) (hf : X.env.frame = some X.env.locals) (hN : X.N.Nodup) (hi : X.N[i]? = some n) (hln : X.env.kindOf n = some .local) (hc : Names X x c) (tk : Takes X Wo)
    (hb : ∀ (W : WX) (pn : List (Addr × Obj)) (xe : Value → Shared → Prop), Takes (X.tr pn xe) W → PassesOwn (model X.prog X.w) X.A X.env xe → PSs (X.tr pn xe) body (tb W))
    (hsu : ∀ (a : Addr) (oe : Obj) (pn : List (Addr × Obj)), PSs (X.suite a ((a, oe) :: pn)) (b0 :: suite) (ts a)) :
    PS X (.Try body [.ExceptHandler (some (.Name x np)) (some n) (b0 :: suite) pos'] [] [] pos) (fun D σ H => tb (wKeep X.K c i ts Wo D) D σ H) := by
  refine ⟨fun pins s σ H D I h => ?_⟩
  have ok := I.ok
  have frm : X.A.frames = some (X.env :: X.outer) := by
    rw [ok.frames, hs]
  refine wpAny_Try_except ?_
  refine wpAny_mono ((hb (wKeep X.K c i ts Wo D) (X.pn ++ pins) (fun u t => wpAny (model X.prog X.w) X.A (noteFrame u X.env) (fun _ t2 => wpAny (model X.prog X.w) X.A (setFlight u none) (fun _ t3 =>
    wpAny (model X.prog X.w) X.A (handleBy u X.env [.ExceptHandler (some (.Name x np)) (some n) (b0 :: suite) pos']) (SP X pins D) X.xe t3) X.xe t2) X.xe t) (fun u t xx => ?_) PassesOwn.looking).run [] s σ H D (I.toTry _) h) (fun fl t hsp => ?_) (fun _ _ z => z)
  · obtain ⟨a, B, sI, pins2, τ, G, cls, d, rfl, Jt, nb, up, sky, na, os, ag, b, hb1, hyes, hno⟩ := xx
    have J : Inv X pins τ G sI := Jt.ofTry ok
    have sky2 : Sky B (X.env :: X.outer) a (Zc cls d) X.env.locals t.heap := by
      rw [← hs]
      exact sky
    show wpAny (model X.prog X.w) X.A (noteFrame (.ref a) X.env) _ _ _
    refine Sky.land Zc.steady frm hf sky2 fun g3 fl3 up3 => ?_
    have J3 : Inv X pins τ G { t with heap := g3 } := J.landed nb fl3.1 (up.trans up3) os ag
    obtain ⟨oe3, vs3, at3, zc3, dt3⟩ := fl3.there
    have nofr : a ∉ frs (X.env :: X.outer) := by
      intro hm
      obtain ⟨_, o', e', hnf⟩ := fl3.2.2.1.mem hm
      rw [at3] at e'
      cases e'
      exact hnf _ dt3
    have nL : a ≠ X.env.locals := fun z => nofr (List.mem_filterMap.mpr ⟨X.env, List.mem_cons_self, by rw [hf, z]⟩)
    have nF : a ∉ X.fs := by
      intro hm
      obtain ⟨e, he, q⟩ := List.mem_filterMap.mp hm
      exact nofr (List.mem_filterMap.mpr ⟨e, List.mem_cons_of_mem _ he, q⟩)
    -- it wasn't there ahead
    have gone : sI.heap.get? a = none := by
      cases z : sI.heap.get? a with
      | none => rfl
      | some o =>
        have y := nb a o z (by rw [hs]; exact nofr)
        rw [fl3.2.1] at y
        cases y
    have gone0 : X.s_0.heap.get? a = none := by
      cases z : X.s_0.heap.get? a with
      | none => rfl
      | some o =>
        obtain ⟨o', y⟩ := J.base.there a o z (by rw [hex]; simp)
        rw [gone] at y
        cases y
    have noc : ∀ y k, X.env.cells.lookup y = some k → k ≠ a := by
      rintro y k e rfl
      obtain ⟨v, o, e1, _⟩ := J.cell y k e
      rw [gone] at e1
      cases e1
    have nop : ∀ q ∈ X.pn ++ pins, q.1 ≠ a := by
      intro q hq e
      have y := (J.pin q hq).1
      rw [e, gone] at y
      cases y
    have S3 := J3.suite at3 dt3 na nL nF
    refine wpAny_handleBy_cons (codeAny_handlers_test ?_) (by intro q; cases q)
    have LT : PySem.W.Looks (model X.prog X.w) g3 (typeOf (.ref a)) cls := fun A Q E s k q => wpAny_typeOf_ref (k _ _ at3) (by rw [zc3.1]; exact q)
    have LM := PySem.W.exm_one (M := model X.prog X.w) (J3.kIn) LT hb1
    have asked : ∀ {Q : Value → Shared → Prop} {E : Value → Shared → Prop}, Q c { t with heap := g3 } → wpAny (model X.prog X.w) (X.A.mark (some (.ref a))) (eval (.Name x np) X.env) Q E { t with heap := g3 } := by
      intro Q E q
      obtain ⟨hg, hdbg, hm | ⟨hm, hv, hnn⟩⟩ := hc
      · exact ld_glob (X := X.suite a ((a, oe3) :: (X.pn ++ pins))) S3 hg hm q hdbg
      · exact ld_blt (X := X.suite a ((a, oe3) :: (X.pn ++ pins))) S3 hg hm hv q hnn hdbg
    refine asked (LM.here ?_)
    cases b with
    | true =>
      refine codeAny_handlers_suite_as (HandSPX.lands_againZ fl3 fun g4 fl4 up4 => ?_)
      have J4 : Inv X pins τ G { t with heap := g4 } := J.landed nb fl4.1 ((up.trans up3).trans up4) os ag
      obtain ⟨oe4, vs4, at4, zc4, dt4⟩ := fl4.there
      have S4 := J4.suite at4 dt4 na nL nF
      refine store_ok (X := X.suite a ((a, oe4) :: (X.pn ++ pins))) (v := .ref a) S4 hN hi (.inl hln) rfl (fun t5 S5 => ?_) (.inr hln)
      refine wpAny_mono ((hsu a oe4 (X.pn ++ pins)).run [] t5 _ G _ S5 (hyes rfl a na)) (fun fl t6 hsp => ?_) (fun _ _ z => False.elim z)
      cases fl with
      | next =>
        obtain ⟨τ6, G6, S6, q6⟩ := hsp
        obtain ⟨p1, p2, _⟩ := S6.pin (a, oe4) (List.mem_append_left _ List.mem_cons_self)
        have J6 : Inv X pins τ6 (upd G6 a (exK a cls d)) t6 := track (S6.unsuite ok) p2 gone0 nL noc nop (exK_ok p1 zc4 dt4)
        exact gone_ok J6 hN hi hln fun t7 J7 => ⟨_, _, J7, q6⟩
      | brk =>
        obtain ⟨_, _, _, q6⟩ := hsp
        exact False.elim q6
      | cont =>
        obtain ⟨_, _, _, q6⟩ := hsp
        exact False.elim q6
      | ret u =>
        obtain ⟨_, _, _, _, _, q6⟩ := hsp
        exact False.elim q6
    | false =>
      show wpAny _ X.A (handleBy (.ref a) X.env []) _ _ _
      refine wpAny_handleBy_nil ?_
      obtain ⟨k1, k2, k3, oe, vs, T, oT, ts', he, hz, hd, h1, hr⟩ := id fl3
      unfold PySem.passOn
      refine wpAny_bind (wpAny_field he hd h1 ?_)
      rw [if_neg (show ¬ ((Value.ref T == Value.none) = true) from by simp)]
      have away : wpAny (model X.prog X.w) X.A (setFlight (.ref a) X.env.frame) (fun _ t4 => wpAny (model X.prog X.w) X.A (throw (.ref a) : Sem Flow) (SP X pins D) X.xe t4) X.xe { t with heap := g3 } := by
        rw [hf]
        refine HandSPX.setFlight_upZ fl3 fun g4 hh4 up4 => wpAny_throw (tk _ _ ?_)
        exact ⟨a, B, sI, pins, τ, G, cls, d, rfl, J, nb, (up.trans up3).trans up4, .inr (.inr (by rw [hs]; exact hh4)), na, os, ag, hno rfl⟩
      first
        | exact wpAny_bind (wpAny_pure (wpAny_bind away))
        | exact wpAny_bind away
  · cases fl with
    | next =>
      obtain ⟨τ, G, J, q⟩ := hsp
      exact wpAny_execs_nil ⟨τ, G, J.ofTry ok, q⟩
    | brk =>
      obtain ⟨τ, G, J, q⟩ := hsp
      exact ⟨τ, G, J.ofTry ok, q⟩
    | cont =>
      obtain ⟨τ, G, J, q⟩ := hsp
      exact ⟨τ, G, J.ofTry ok, q⟩
    | ret u =>
      obtain ⟨v, τ, G, J, r, q⟩ := hsp
      exact ⟨v, τ, G, J.ofTry ok, r, q⟩
end
end Su
/-! ### XB: what is asked of a kept exception: isinstance, a field -/
namespace Su
open PySem PySem.Spec PyProof.Rows L2
/-- what the written part says of an own exception class -/
structure ExcT (K : PySem.W.Frag) (C : Addr) : Prop where
  cl : (PySem.W.clsIn K C).isSome = true
  ga : PySem.W.findIn K (.ref C) "__getattribute__" = some (some (.builtin "BaseException.__getattribute__"))
  gg : PySem.W.findIn K (.ref C) "__getattr__" = some none
  sub : PySem.W.subIn K (.ref C) (.type "BaseException") = some true
  cc : PySem.W.findIn K (.ref C) "__class__" = some (some (.builtin "object.__class__"))
  sp : PySem.W.specialIn K (.builtin "object.__class__") "__get__" = some (some (.builtin "getset_descriptor.__get__"))
  tk : PySem.W.takesIn K (.builtin "object.__class__") = some true
  mr : PySem.W.mroIn K C (.type "object") = some true
  hd : PySem.W.hasDictIn K C = true
/-- its dict, if it has one, is told -/
def XdAt (H : Hp) (d : Option Addr) : Prop := ∀ dd, d = some dd → ∃ fs, H dd = some (.xd fs)
section
variable {X : Cx} {pins : List (Addr × Obj)} {σ : L2.St} {H : Hp} {s : Shared}
theorem exK_inst {a C : Addr} {d : Option Addr} (I : Inv X pins σ H s) (e : H a = some (exK a (.ref C) d)) (hd : XdAt H d) : ∃ (ox : Obj) (od : Option Obj), PySem.W.InstAt s.heap a ox C od := by
  obtain ⟨oe, vs, e1, z, dt⟩ := (I.hok a _ e).1
  have no : PySem.W.notCls oe = true := by
    unfold PySem.W.notCls
    rw [dt]
  cases d with
  | none => exact ⟨oe, none, e1, z.1, no, by rw [z.2]; trivial⟩
  | some dd =>
    obtain ⟨fs, hx⟩ := hd dd rfl
    obtain ⟨mA, hns, _⟩ := (show ObjOk X.prog X.w H s.heap dd (.xd fs) from I.hok dd _ hx)
    obtain ⟨od, ho, _⟩ := lookIn_ns hns
    exact ⟨oe, some od, e1, z.1, no, by rw [z.2]; exact ho⟩
theorem exK_kit {a C : Addr} {d : Option Addr} (T : ExcT X.K C) (I : Inv X pins σ H s) (e : H a = some (exK a (.ref C) d)) (hd : XdAt H d) : ∃ P : Heap → Prop, PySem.W.KitX X.K (.ref a) (.ref C) P ∧ P s.heap := by
  obtain ⟨ox, od, J⟩ := exK_inst I e hd
  exact ⟨_, PySem.W.kitx_exc T.cl T.ga T.gg T.sub T.cc T.sp T.tk T.mr, J⟩
/-- isinstance(e, c) -/
def rIsiE (K : PySem.W.Frag) : List V → Hp → VK → Prop := fun xs H Q => ∃ (a C : Addr) (d : Option Addr) (c : V) (u : Value) (b : Bool), xs = [.ref a, c] ∧ ClsV c u ∧ ExcT K C ∧ H a = some (exK a (.ref C) d) ∧ XdAt H d ∧ PySem.W.kitOne K (.ref C) u = some b ∧ Q (.bl b) H
theorem call_isiE : CallR X (.builtin "isinstance") (rIsiE X.K) := by
  intro pins s σ H xs us Q I r h
  obtain ⟨a, C, d, c, u, b, rfl, k, T, e, hd, ek, q⟩ := h
  obtain ⟨u1, u2, rfl, r1, r2⟩ := vals2 r
  cases r1
  have e2 := k.eq r2
  subst e2
  obtain ⟨P, Z, p⟩ := exK_kit T I e hd
  exact PySem.W.kia_one Z I.kIn p ek (fun z => nomatch z) fun tk => ⟨.bl b, H, I.tok tk, rfl, q⟩
/-- isinstance(e, (c, ..)) -/
def rIsiET (K : PySem.W.Frag) : List V → Hp → VK → Prop := fun xs H Q => ∃ (a C tp : Addr) (d : Option Addr) (cs : List V) (us : List Value) (b : Bool), xs = [.ref a, .ref tp] ∧ T2 H tp cs ∧ Paired ClsV cs us ∧ ExcT K C ∧ H a = some (exK a (.ref C) d) ∧ XdAt H d ∧
  PySem.W.kitAny K (.ref C) us = some b ∧ Q (.bl b) H
theorem call_isiET : CallR X (.builtin "isinstance") (rIsiET X.K) := by
  intro pins s σ H xs us Q I r h
  obtain ⟨a, C, tp, d, cs, ws, b, rfl, hT, k, T, e, hd, ek, q⟩ := h
  obtain ⟨u1, u2, rfl, r1, r2⟩ := vals2 r
  cases r1
  cases r2
  obtain ⟨P, Z, p⟩ := exK_kit T I e hd
  obtain ⟨its, rv, ⟨⟨oc, od, dt, sl⟩, h1, h2, n, h3⟩, _⟩ := I.tuple (hT.sq (K := X.K))
  have e3 := ClsV.all k rv
  subst e3
  simp only at h2 h3
  subst h2 h3
  exact PySem.W.kia_tup Z I.kIn p h1 ek (fun z => nomatch z) fun tk => ⟨.bl b, H, I.tok tk, rfl, q⟩
/-- e.f -/
def tXfld (K : PySem.W.Frag) (f : Str) (te : TE) : TE := fun σ H Q => te σ H fun x H1 => ∃ (a C dd : Addr) (fs : List (Str × V)) (v : V), x = .ref a ∧ ExcT K C ∧ PySem.W.findIn K (.ref C) f = some none ∧ H1 a = some (exK a (.ref C) (some dd)) ∧ H1 dd = some (.xd fs) ∧ fs.lookup f = some v ∧ Q v H1
theorem pe_xfld {e : Expr} {f : Str} {te : TE} {pos : Pos} (he : PE X e te) (hb : attributeBase e f X.env (eval e X.env) = eval e X.env := by rfl) : PE X (.Attribute e f pos) (tXfld X.K f te) := by
  refine ⟨fun pins s σ H Q I h => ?_⟩
  refine attr_of hb (thn (he.run pins s σ H _ I h) fun u s1 ⟨x, H1, I1, rx, a, C, dd, fs, v, ex, T, no, ea, ed, ef, q⟩ => ?_)
  subst ex
  cases rx
  obtain ⟨oe, vs, e1, z, dt⟩ := (I1.hok a _ ea).1
  obtain ⟨mA, hns, hr⟩ := (show ObjOk X.prog X.w H1 s1.heap dd (.xd fs) from I1.hok dd _ ed)
  obtain ⟨od, ho, hl⟩ := lookIn_ns hns
  obtain ⟨u, hu, ru⟩ := RelO.some_of (v := v) (o := mA f) (by rw [← ef]; exact hr f)
  have J : PySem.W.InstAt s1.heap a oe C (some od) := ⟨e1, z.1, by unfold PySem.W.notCls; rw [dt], by rw [z.2]; exact ho⟩
  exact HandSPX.exc_get I1.kIn J T.ga T.gg T.sub (PySem.W.findObj_own T.hd no rfl (by rw [hl, hu])) (handed_of ru) ⟨v, H1, I1.tok _, ru, q⟩
end
end Su
/-! ### XC: an own exception class, over another one, whose __init__ calls that of the built-in above and keeps a field -/
namespace Su
namespace XC
open PySem PySem.W PySem.Calls PyProof.Rows PySem.HandSPX Builtin Builtin.ObjectAttr
def inA (f : Str) (p1 p2 : Pos) : Arguments :=
  { posonlyargs := [], args := [{ arg := "self", annotation := none, pos := p1 }, { arg := f, annotation := none, pos := p2 }], vararg := none, kwonlyargs := [], kw_defaults := [], kwarg := none, defaults := [] }
def inB (f t : Str) (r1 r2 r3 r4 r5 r6 q1 q2 q3 q4 : Pos) : List Stmt :=
  [.Expr (.Call (.Attribute (.Call (.Name "super" r1) [] [] r2) "__init__" r3) [.Constant (.str t) 0 r4] [] r5) r6, .Assign [.Attribute (.Name "self" q1) f q2] (.Name f q3) q4]
def inS (f : Str) : Scope :=
  { kind := .function, names := [(PySem.Str.ofString "self", .local), (f, .local), (PySem.Str.ofString "__class__", .free), (PySem.Str.ofString "super", .globalImplicit)], isGenerator := false, isCoroutine := false, more := [] }
/-- a field's name -/
structure Fld (f : Str) : Prop where
  self : f ≠ "self"
  cl : f ≠ "__class__"
  su : f ≠ "super"
  db : (f == ("__debug__" : Str)) = false
  bnd : ∀ (q : Str) (p1 p2 : Pos) (bd : List Stmt) (doc pm : Value) (an : Option Addr) (cd ct : Value) (cc : Addr) (a b : Value), bindArgs (ksFn "__init__" q (inA f p1 p2) bd (inS f) .none .none doc pm an cd ct cc) ⟨[a, b], []⟩ = pure ([("self", a), (f, b)] : List (Str × Value))
  sw : ∀ (q : Str) (L a : Addr) (cd : Value) (cc : Addr) (t : Str) (r1 r2 r3 r4 r5 : Pos) (k : Nat), swapsWith (.Call (.Attribute (.Call (.Name "super" r1) [] [] r2) "__init__" r3) [.Constant (.str t) 0 r4] [] r5) none k (ksEnv q (inS f) L a cd cc) = pure false
  sx : ∀ (q : Str) (L a : Addr) (cd : Value) (cc : Addr) (q1 q2 q3 : Pos) (k : Nat), swapsWith (.Name f q3) (some (.Attribute (.Name "self" q1) f q2)) k (ksEnv q (inS f) L a cd cc) = pure false
theorem fld_row : Fld "row" := ⟨by decide, by decide, by decide, by decide, fun _ _ _ _ _ _ _ _ _ _ _ _ => by first | rfl | with_unfolding_all rfl, fun _ _ _ _ _ _ _ _ _ _ _ _ => by first | rfl | with_unfolding_all rfl, fun _ _ _ _ _ _ _ _ _ => by first | rfl | with_unfolding_all rfl⟩
theorem fld_number : Fld "number" := ⟨by decide, by decide, by decide, by decide, fun _ _ _ _ _ _ _ _ _ _ _ _ => by first | rfl | with_unfolding_all rfl, fun _ _ _ _ _ _ _ _ _ _ _ _ => by first | rfl | with_unfolding_all rfl, fun _ _ _ _ _ _ _ _ _ => by first | rfl | with_unfolding_all rfl⟩
theorem fld_part : Fld "part" := ⟨by decide, by decide, by decide, by decide, fun _ _ _ _ _ _ _ _ _ _ _ _ => by first | rfl | with_unfolding_all rfl, fun _ _ _ _ _ _ _ _ _ _ _ _ => by first | rfl | with_unfolding_all rfl, fun _ _ _ _ _ _ _ _ _ => by first | rfl | with_unfolding_all rfl⟩
theorem fld_room : Fld "room" := ⟨by decide, by decide, by decide, by decide, fun _ _ _ _ _ _ _ _ _ _ _ _ => by first | rfl | with_unfolding_all rfl, fun _ _ _ _ _ _ _ _ _ _ _ _ => by first | rfl | with_unfolding_all rfl, fun _ _ _ _ _ _ _ _ _ => by first | rfl | with_unfolding_all rfl⟩
theorem fld_to : Fld "to" := ⟨by decide, by decide, by decide, by decide, fun _ _ _ _ _ _ _ _ _ _ _ _ => by first | rfl | with_unfolding_all rfl, fun _ _ _ _ _ _ _ _ _ _ _ _ => by first | rfl | with_unfolding_all rfl, fun _ _ _ _ _ _ _ _ _ => by first | rfl | with_unfolding_all rfl⟩
theorem fld_name : Fld "name" := ⟨by decide, by decide, by decide, by decide, fun _ _ _ _ _ _ _ _ _ _ _ _ => by first | rfl | with_unfolding_all rfl, fun _ _ _ _ _ _ _ _ _ _ _ _ => by first | rfl | with_unfolding_all rfl, fun _ _ _ _ _ _ _ _ _ => by first | rfl | with_unfolding_all rfl⟩
/-- what the written part says of the class n at C, over the built-in B, with the field f, its __init__ at fI -/
structure Own (P : Program) (K : Frag) (mg : Str → Option Value) (n f : Str) (C fI : Addr) (B newId initId : String) (bmB : List Value) : Prop where
  fld : Fld f
  gC : mg n = some (.ref C)
  ini : excInitIn K C bmB newId = true
  ovr : excOver K C bmB = true
  base : ExcBaseFacts B newId initId bmB
  stor : StoreFacts B bmB "object.__setattr__" "object"
  kx : KxsFacts B initId
  sa : findIn K (.ref C) "__setattr__" = some (some (.builtin "object.__setattr__"))
  noN : findIn K (.ref C) f = some none
  iC : findIn K (.ref C) "__init__" = some (some (.ref fI))
  fC : isFn K (.ref fI) = true
  kC : keepIn K (.ref C) = true
  exC : subIn K (.ref C) (.type "BaseException") = some true
  tyC : typeIn K (.ref C) = some (.type "type")
  hdC : hasDictIn K C = true
  isB : subIn K (.ref C) (.type B) = some true
  sup : ks_superIn K C C "__init__" = some (some (.builtin initId))
  own : mroIn K C (.ref C) = some true
  nos : mg "super" = none
  opq : nsIn K cStatics "thirdparty.any" = some none
  ntop : (P.main.scope.names.lookup ("super" : Str)).isSome = false
  fn : ∃ (oc : Value) (od : Option Addr) (q : Str) (doc pm : Value) (an : Option Addr) (cda cc : Addr) (ct : Value) (osl : Array (Option Value)) (t : Str) (p1 p2 r1 r2 r3 r4 r5 r6 q1 q2 q3 q4 : Pos)
      (ccl : Value) (cdd : Option Addr) (vs : Array Value) (ccs : Array (Option Value)) (file : Str) (tf : Tok) (cl : Value) (cld : Option Addr) (csl : Array (Option Value)),
    K.lookup fI = some ⟨oc, od, .func (ksFn "__init__" q (inA f p1 p2) (inB f t r1 r2 r3 r4 r5 r6 q1 q2 q3 q4) (inS f) .none .none doc pm an (.ref cda) ct cc), osl⟩ ∧ codeIn K (.ref cda) q = true ∧
    K.lookup cda = some ⟨ccl, cdd, .fields vs, ccs⟩ ∧ vs[2]? = some (.str file tf) ∧ ((P.main.file : Str) == file) = true ∧ (r3.endLine == r5.line) = true ∧ K.lookup cc = some ⟨cl, cld, .cell (some (.ref C)), csl⟩
/-- what __init__ leaves of a fresh exception at x -/
structure Left (h h' : Heap) (x C dx t1 : Addr) (f : Str) (v : Value) : Prop where
  keep : ∀ b o, b ≠ x → h.get? b = some o → h'.get? b = some o
  obj : h'.get? x = some { cls := .ref C, dict := some dx, data := .fields #[.ref t1, .none, .none, .none, .bool false, .none] }
  dbig : h.objs.size ≤ dx
  dne : dx ≠ x
  ns : h'.Ns1 dx (fun y => if y = f then some v else none)
section
variable {P : Program} {w : World} {A : Around} {E : Value → Shared → Prop} {R : Result → Shared → Prop} {s : Shared} {K : Frag} {mg : Str → Option Value} {n f : Str} {C fI : Addr} {B newId initId : String} {bmB : List Value}
theorem ev_init {env : Env} {o : Expr} {m : Str} {t : Str} {r3 r4 r5 : Pos} (hl : (r3.endLine == r5.line) = true) : ∃ pl, eval (.Call (.Attribute o m r3) [.Constant (.str t) 0 r4] [] r5) env = (do
    let ov ← attributeBase o m env (eval o env); standAt r3.atName
    let (g, first) ← holding [ov] (getMethod ov m pl); callWith r5 g first (backTo r5 (starEach [.Constant (.str t) 0 r4] env)) []) := by
  have e1 : methodCallForm 1 (backTo r5 (starEach [.Constant (.str t) 0 r4] env)) (backToKw r5 (keywordEach [] env)) = true := rfl
  have e2 : methodCallPos true o env r3 r5 = pure r5 := by
    unfold methodCallPos
    rw [hl]
    rfl
  refine ⟨do return (← importBound o env).getD true, ?_⟩
  rw [arm_eval_Call]
  show (do let ov ← attributeBase o m env (eval o env); standAt r3.atName; methodCall o m r3 r5 env ov 1 (backTo r5 (starEach [.Constant (.str t) 0 r4] env)) (backToKw r5 (keywordEach [] env))) = _
  unfold methodCall
  rw [e1, e2]
  simp only [calleeOf, if_true, pure_bind]
  rfl
theorem put_new {x t1 : Addr} {v : Value} {tk : Tok} (T : Own P K mg n f C fI B newId initId bmB) (X : K.In s.heap) (hx : s.heap.get? x = some (excO C t1))
    (hq : ∀ h' tk' dx, (∀ b o, b ≠ x → s.heap.get? b = some o → h'.get? b = some o) → s.heap.objs.size ≤ dx → dx ≠ x → h'.get? x = some { cls := .ref C, dict := some dx, data := .fields #[.ref t1, .none, .none, .none, .bool false, .none] } →
      h'.Ns1 dx (fun y => if y = f then some v else none) → R (.ok (.ret .none)) { s with heap := h', toks := tk' }) :
    codeAny (model P w) A (.call (.builtin "object.__setattr__") ⟨[.ref x, .str f tk, v], []⟩) R s := by
  obtain ⟨cd, hc, hd⟩ := any_some T.hdC
  have hxs : x ≠ s.heap.objs.size := Nat.ne_of_lt (Heap.lt_size hx)
  refine osa_openX (od := none) (r := none) T.stor X ⟨hx, rfl, rfl, trivial⟩ T.ovr (by unfold takerIn; rw [T.noN]; rfl) fun b => ?_
  obtain ⟨hp, g, d, t, os⟩ := s
  refine wpAny_bind (wpAny_pure (wpAny_bind (instanceDict_exc hx (looks_clsIn X hc) hd ?_)))
  show wpAny _ _ (storeInDict hp.objs.size (.str f tk) f v) _ _ _
  refine store_in_new ?_ fun h' tk' hn' hs => ?_
  · exact ⟨_, #[], _, (Heap.get?_update_ne _ _ _ _ hxs.symm).trans (Heap.get?_push_at rfl rfl), rfl, fun e he => absurd he (by simp), fun _ => rfl⟩
  · have e1 : (hp.push (dictOf [] 0)).get? x = some (excO C t1) := Heap.get?_push_of_some _ hx
    exact hq h' tk' hp.objs.size (fun b o hb ho => (hs.2 b (Nat.ne_of_lt (Heap.lt_size ho))).trans ((Heap.get?_update_ne _ _ _ _ hb).trans (Heap.get?_push_of_some _ ho))) (Nat.le_refl _) hxs.symm ((hs.2 x hxs).trans (Heap.get?_update_self _ e1 rfl)) hn'
theorem kind_f (F : Fld f) : (inS f).names.lookup f = some .local := by
  show List.lookup f ((PySem.Str.ofString "self", NameKind.local) :: (f, NameKind.local) :: _) = _
  rw [List.lookup_cons, show (f == PySem.Str.ofString "self") = false from by simpa using F.self, List.lookup_cons, beq_self_eq_true]
theorem kind_c (F : Fld f) : (inS f).names.lookup ("__class__" : Str) = some .free := by
  show List.lookup ("__class__" : Str) ((PySem.Str.ofString "self", NameKind.local) :: (f, NameKind.local) :: (PySem.Str.ofString "__class__", NameKind.free) :: _) = _
  rw [List.lookup_cons, show (("__class__" : Str) == PySem.Str.ofString "self") = false from by decide, List.lookup_cons, show (("__class__" : Str) == f) = false from by simpa using Ne.symm F.cl, List.lookup_cons, show (("__class__" : Str) == PySem.Str.ofString "__class__") = true from by decide]
theorem kind_s (F : Fld f) : (inS f).names.lookup ("super" : Str) = some .globalImplicit := by
  show List.lookup ("super" : Str) ((PySem.Str.ofString "self", NameKind.local) :: (f, NameKind.local) :: (PySem.Str.ofString "__class__", NameKind.free) :: (PySem.Str.ofString "super", NameKind.globalImplicit) :: _) = _
  rw [List.lookup_cons, show (("super" : Str) == PySem.Str.ofString "self") = false from by decide, List.lookup_cons, show (("super" : Str) == f) = false from by simpa using Ne.symm F.su, List.lookup_cons, show (("super" : Str) == PySem.Str.ofString "__class__") = false from by decide, List.lookup_cons, show (("super" : Str) == PySem.Str.ofString "super") = true from by decide]
/-- the built-in's __init__, bound to x, called: its args are laid anew -/
theorem call_mw {u x t0 : Addr} {a : Value} {Q : Value → Shared → Prop} (T : Own P K mg n f C fI B newId initId bmB) (X : K.In s.heap) (hx : s.heap.get? x = some (excO C t0)) (hu : s.heap.get? u = some (kxs_mw initId x))
    (hq : ∀ h' t1, (∀ b o, b ≠ x → s.heap.get? b = some o → h'.get? b = some o) → h'.get? x = some (excO C t1) → Q .none { s with heap := h' }) : wpAny (model P w) A (call (.ref u) [a]) Q E s := by
  obtain ⟨nm, N', qn, bs, bm, hdct, sn, sub, ab, col, dd, k0, k1, k2, k3, k5, hC, hT⟩ := excInit_of X T.ini
  obtain ⟨hp, g, d, tk, os⟩ := s
  have z1 : (Value.type "method-wrapper" == Value.type "method" || Value.type "method-wrapper" == Value.type "builtin_function_or_method" || Value.type "method-wrapper" == Value.type "method-wrapper") = true := by decide
  refine wpAny_call (codeAny_of_tree (show wpAny _ A.in1 (callAny (.ref u) ⟨[a], []⟩) _ _ _ from ?_))
  simp only [callAny]
  refine wpAny_bind (wpAny_load hu (by simp only [kxs_mw, z1, if_true]; refine KFB.if_so (by decide) (wpAny_bind (check_bound_init T.base.toExcCallFacts hC hx rfl (wpAny_bind (wpAny_pure (wpAny_pure ?_))))); exact ⟨plainId_quiet T.base.init.plain _, codeAny_builtin T.base.initEntry (exc_init_tree (cls := .ref C) (t0 := t0) (dv := none) (c2 := .none) (c3 := .none) (b4 := .bool false) hx (by rw [sizeLine_eq]; exact (by decide : 1 ≤ 16777216)) fun h' k e _ => hq h' _ k e)⟩))
theorem x_init (T : Own P K mg n f C fI B newId initId bmB) {x t0 : Addr} {v : Value} (X : K.In s.heap) (hG : s.heap.Ns mainGlobals mg) (hB : ∃ mb, s.heap.Ns builtinsNs mb ∧ ∀ y : Str, y ≠ "__name__" → mb y = bootBuiltins y) (hlim : s.heap.NoLimit)
    (hx : s.heap.get? x = some (excO C t0)) (hnx : K.lookup x = none) (hroom : A.depth < recursionLimit) (hq : ∀ h' tk dx t1, Left s.heap h' x C dx t1 f v → R (.ok (.ret .none)) { s with heap := h', toks := tk }) :
    codeAny (model P w) A (.call (.ref fI) ⟨[.ref x, v], []⟩) R s := by
  obtain ⟨oc, od, q, doc, pm, an, cda, cc, ct, osl, t, p1, p2, r1, r2, r3, r4, r5, r6, q1, q2, q3, q4, ccl, cdd, vs, ccs, file, tf, cl, cld, csl, ho, hcd, hcode, hvs, hfile, hln, hcell⟩ := T.fn
  obtain ⟨hp, g, d, tk0, os⟩ := s
  refine ks_codeAny_call_defAt (fd := ksFn "__init__" q (inA f p1 p2) (inB f t r1 r2 r3 r4 r5 r6 q1 q2 q3 q4) (inS f) .none .none doc pm an (.ref cda) ct cc) (body := inB f t r1 r2 r3 r4 r5 r6 q1 q2 q3 q4) (binds := [("self", .ref x), (f, v)]) hroom (X _ _ ho) rfl hlim (codeRec_of X hcd) rfl
    (BindsTo.of_eq ?b) ?c ?l (fun h₁ hns k₁ => ?_) rfl rfl rfl
  case b => exact T.fld.bnd _ _ _ _ _ _ _ _ _ _ _ _
  case c =>
    intro y hy e
    rcases List.mem_cons.mp hy with rfl | hy
    · cases e
    rcases List.mem_cons.mp hy with rfl | hy
    · cases e
    rcases List.mem_cons.mp hy with rfl | hy
    · cases e
    rcases List.mem_cons.mp hy with rfl | hy
    · cases e
    cases hy
  case l =>
    intro y hy
    rcases List.mem_cons.mp hy with rfl | hy
    · rfl
    rcases List.mem_cons.mp hy with rfl | hy
    · exact kind_f T.fld
    cases hy
  have X1 : K.In h₁ := X.keeps k₁
  have hx1 := k₁ _ _ hx
  obtain ⟨mb, hb1, hb2⟩ := hB
  obtain ⟨cd, hc, hd⟩ := any_some T.hdC
  have lself : (fun y => List.lookup y ([("self", .ref x), (f, v)] : List (Str × Value)).reverse) "self" = some (.ref x) := by
    show List.lookup ("self" : Str) [(f, v), ("self", .ref x)] = _
    rw [List.lookup_cons, show (("self" : Str) == f) = false from by simpa using Ne.symm T.fld.self, List.lookup_cons, beq_self_eq_true]
  have lf : (fun y => List.lookup y ([("self", .ref x), (f, v)] : List (Str × Value)).reverse) f = some v := by
    show List.lookup f [(f, v), ("self", .ref x)] = _
    rw [List.lookup_cons, beq_self_eq_true]
  obtain ⟨oD, hD1, hD2⟩ : ∃ oD, h₁.get? C = some oD ∧ oD.data = .cls cd := by
    unfold clsIn at hc
    split at hc
    · rename_i c d cd' sl ho
      cases hc
      exact ⟨_, X1 _ _ ho, rfl⟩
    · cases hc
  show _root_.PySem.wpAt _ _ (.func _ (ksEnv q (inS f) hp.objs.size fI (.ref cda) cc)) (execs _ (ksEnv q (inS f) hp.objs.size fI (.ref cda) cc)) _ _ _
  obtain ⟨pl, ev⟩ := ev_init (env := ksEnv q (inS f) hp.objs.size fI (.ref cda) cc) (o := .Call (.Name "super" r1) [] [] r2) (m := "__init__") (t := t) (r4 := r4) hln
  refine ks_wpAt_execs_cons (ks_wpAt_Expr_any (ks_wpAt_MethodCall (pl := pl) ?_ ev) rfl (T.fld.sw _ _ _ _ _ _ _ _ _ _ _ _))
  refine ks_wpAt_super_base (env := ksEnv q (inS f) hp.objs.size fI (.ref cda) cc) (kind_s T.fld) (kind_c T.fld) (by decide) rfl (X1 _ _ ho) rfl rfl rfl (X1 _ _ hcode) rfl hvs hfile T.ntop ?_
  refine ks_loadName_global rfl (kind_s T.fld) (loadGlobal_builtin (env := ksEnv q (inS f) hp.objs.size fI (.ref cda) cc) (hG.keeps k₁) T.nos (hb1.keeps k₁) ((hb2 _ (by decide)).trans (show bootBuiltins "super" = some (.type "super") from by first | rfl | decide +kernel)) ⟨rfl, ?_⟩)
  refine wpAny_loadName_free rfl (kind_c T.fld) rfl ⟨_, X1 _ _ hcell, rfl⟩ (wpAny_loadName_local rfl rfl hns lself (ks_wpAny_isType_cls hD1 hD2 ⟨rfl, ?_⟩))
  refine ks_wpAny_call_super hD1 hD2 hx1 rfl (fun c e => by cases e) (looks_mroIn X1 T.own) (fun h2 e2 k2 => ?_)
  have X2 : K.In h2 := X1.keeps k2
  have hx2 := k2 _ _ hx1
  have Ix : InstAt h2 x (excO C t0) C none := ⟨hx2, rfl, rfl, trivial⟩
  have hm := T.sup
  unfold ks_superIn at hm
  rw [hc] at hm
  refine kxs_getMethod T.kx e2 (looks_opaque X2 T.opq) (l₀ := cd.mro) (fun A Q E s k q => wpAny_bind ((looks_clsIn X2 hc) A _ E s k (wpAny_pure q))) rfl X2 hm (Ix.type.andThen (looks_subIn X2 T.isB)) (ks_ne X2 Ix hc) (by decide) ?_
  have k3 : ∀ b o, h2.get? b = some o → (h2.push (kxs_mw initId x)).get? b = some o := fun b o e => Heap.get?_push_of_some _ e
  refine kxs_callWith (i := initId) (x := x) rfl (evalArgs_plain (spliced_more (wpAny_Constant_str (spliced_none ⟨Heap.get?_push_at rfl rfl, ?_⟩))))
  refine call_mw T (X2.keeps k3) (k3 _ _ hx2) (Heap.get?_push_at rfl rfl) fun h4 t1 k4 hx4 => ?_
  have kk : ∀ b o, h₁.get? b = some o → (h2.push (kxs_mw initId x)).get? b = some o := fun b o e => k3 _ _ (k2 _ _ e)
  have hxL : hp.objs.size ≠ x := Nat.ne_of_gt (Heap.lt_size hx)
  have n4 : h4.Ns hp.objs.size (fun y => List.lookup y ([("self", .ref x), (f, v)] : List (Str × Value)).reverse) := by
    obtain ⟨oL, es, ep, hL, r⟩ := hns.keeps kk
    exact ⟨oL, es, ep, k4 _ _ hxL hL, r⟩
  have X4 : K.In h4 := fun b o e => k4 b o (fun z => by rw [z, hnx] at e; cases e) (X2.keeps k3 b o e)
  have lt : hp.objs.size < h4.objs.size := n4.lt
  show _root_.PySem.wpAt _ _ _ (execs _ (ksEnv q (inS f) hp.objs.size fI (.ref cda) cc)) _ _ _
  refine ks_wpAt_execs_cons (ks_wpAt_Assign_Attr (wpAt_of_wpAny ?_) (T.fld.sx _ _ _ _ _ _ _ _ _))
  refine wpAny_Name (wpAny_loadName_local rfl (kind_f T.fld) n4 lf (wpAny_Name (wpAny_loadName_local rfl rfl n4 lself ?_) (by decide))) T.fld.db
  refine set_plain X4 (ox := excO C t1) (od := none) ⟨hx4, rfl, rfl, trivial⟩ T.sa (put_new T X4 hx4 fun h5 tk5 dx k5 dn dne hx5 hn5 => ?_)
  show _root_.PySem.wpAt _ _ _ (execs [] _) _ _ _
  refine wpAt_of_wpAny (wpAny_execs_nil (hq h5 tk5 dx t1 ⟨fun b o hb e => k5 b o hb (k4 b o hb (kk _ _ (k₁ _ _ e))), hx5, Nat.le_trans (Nat.le_of_lt lt) dn, dne, hn5⟩))
/-- n(v), made: its own dict at d holds the field -/
structure Made (h h' : Heap) (e C d : Addr) (f : Str) (v : Value) : Prop where
  keep : ∀ b o, h.get? b = some o → h'.get? b = some o
  new : h.objs.size ≤ e
  obj : ∃ oe us, h'.get? e = some oe ∧ oe.cls = .ref C ∧ oe.dict = some d ∧ oe.data = .fields us ∧ us[1]? = some .none
  dbig : h.objs.size ≤ d
  dne : d ≠ e
  ns : h'.Ns1 d (fun y => if y = f then some v else none)
theorem x_made (T : Own P K mg n f C fI B newId initId bmB) {v : Value} (X : K.In s.heap) (hG : s.heap.Ns mainGlobals mg) (hB : ∃ mb, s.heap.Ns builtinsNs mb ∧ ∀ y : Str, y ≠ "__name__" → mb y = bootBuiltins y) (hlim : s.heap.NoLimit) (hroom : A.depth + 1 < recursionLimit)
    (hq : ∀ h' tk e d, Made s.heap h' e C d f v → R (.ok (.ret (.ref e))) { s with heap := h', toks := tk }) : codeAny (model P w) A (.call (.ref C) ⟨[v], []⟩) R s := by
  obtain ⟨nm, N', qn, bs, bm, hdct, sn, sub, ab, col, dd, k0, k1, k2, k3, k5, hC, hT⟩ := excInit_of X T.ini
  obtain ⟨oI, hoI, hcI⟩ : ∃ oI, s.heap.get? fI = some oI ∧ oI.cls = .type "function" := by
    obtain ⟨o, ho, hc⟩ := Option.map_eq_some_iff.mp (show (K.lookup fI).map (fun z => z.cls) = some (.type "function") from beq_iff_eq.mp T.fC)
    exact ⟨o, X _ _ ho, hc⟩
  obtain ⟨hp, g, dr, tk, os⟩ := s
  have k : ∀ b o, hp.get? b = some o → ((hp.push (kdv_tup [v])).push (excO C hp.objs.size)).get? b = some o := fun b o e => Heap.get?_push_of_some _ (Heap.get?_push_of_some _ e)
  have hnx : K.lookup (hp.objs.size + 1) = none := by
    cases e : K.lookup (hp.objs.size + 1) with
    | none => rfl
    | some o => exact absurd (Nat.lt_of_succ_lt (Heap.lt_size (show hp.get? (hp.objs.size + 1) = some o from X _ _ e))) (Nat.lt_irrefl _)
  refine call_own T.base hT hC (looks_findIn X T.iC) (fun self => exc_bind hoI hcI self) (by rw [sizeLine_eq]; exact (by decide : 1 ≤ 16777216)) ?_
  obtain ⟨mb, hb1, hb2⟩ := hB
  refine x_init (s := ⟨(hp.push (kdv_tup [v])).push (excO C hp.objs.size), g, dr, tk, os⟩) T (X.keeps k) (hG.keeps k) ⟨mb, hb1.keeps k, hb2⟩ (hlim.keeps k) (by heap_get) hnx (show A.depth + 1 < recursionLimit from hroom) fun h' tk' dx t1 L => ?_
  have z : hp.objs.size + 1 + 1 ≤ dx := by
    have q := L.dbig
    first
      | (simpa only [Heap.size_push] using q)
      | exact q
      | (rw [Heap.size_push, Heap.size_push] at q; exact q)
  refine ⟨rfl, hq h' tk' (hp.objs.size + 1) dx ⟨fun b o e => L.keep b o (Nat.ne_of_lt (Nat.lt_succ_of_lt (Heap.lt_size e))) (k b o e), Nat.le_succ _, ⟨_, _, L.obj, rfl, rfl, rfl, rfl⟩, Nat.le_trans (Nat.le_trans (Nat.le_succ _) (Nat.le_succ _)) z, L.dne, L.ns⟩⟩
end
end XC
open PySem PySem.Spec PyProof.Rows L2
theorem relO_fld {f : Str} {v : V} {u : Value} (r : RelV v u) (y : Str) : RelO (List.lookup y [(f, v)]) (if y = f then some u else none) := by
  by_cases e : y = f
  · subst e
    rw [if_pos rfl, List.lookup_cons, beq_self_eq_true]
    exact r
  · rw [if_neg e, List.lookup_cons, show (y == f) = false from by simpa using e]
    trivial
section
variable {X : Cx} {n f : Str} {C fI : Addr} {B newId initId : String} {bmB : List Value}
/-- n(e): a new exception, its dict at d -/
def tMkX (C : Addr) (f : Str) (ta : TA) : L2.St → Hp → XK → Prop := fun σ H Q => ta σ H fun vs H1 => ∃ v, vs = [v] ∧ ∀ d, H1 d = none → Q (.ref C) (some d) (upd H1 d (.xd [(f, v)]))
theorem pmk_x {a : Expr} {ta : TA} {p pos : Pos} {k : Nat} (T : XC.Own X.prog X.K X.mg n f C fI B newId initId bmB) (hr : Room k X.A) (ha : PA X [a] ta) (hg : Gl X n := by rfl)
    (he : starEach (a :: []) X.env = (false, eval a X.env) :: starEach [] X.env := by rfl) (hpl : (backTo pos (starEach [] X.env)).any (·.1) = false := by rfl) (hdb : (n == ("__debug__" : Str)) = false := by decide) : PMk X (.Call (.Name n p) [a] [] pos) (tMkX C f ta) := by
  intro pins s σ H Q I h
  refine wpAny_Call_Name_kw (ld_glob I hg T.gC (PySem.W.callWith_K (h₀ := X.base) I.ok.mod.kin T.kC (thn (ha.run pos pins s σ H _ I h) fun us s1 ⟨vs, H1, I1, r1, v, ev, q1⟩ => ?_) he hpl) hdb)
  subst ev
  refine ⟨I1.kIn, ?_⟩
  obtain ⟨u1, rfl, rv⟩ := vals1 r1
  show wpAny _ _ (call (.ref C) [u1]) _ _ _
  have hlim := I1.nolimit
  obtain ⟨mb, hb1, hb2⟩ := I1.mod.blt
  have hG := I1.mod.glob.keeps I1.bk
  have hb := hb1.keeps I1.bk
  obtain ⟨hp, g, dr, tk, os⟩ := s1
  refine wpAny_call (XC.x_made T I1.kIn hG ⟨mb, hb, hb2⟩ hlim (by have := hr.dp; omega) fun h' tk' e d M => ?_)
  show MkP X pins σ Q (.ref e) ⟨h', g, dr, tk', os⟩
  obtain ⟨oe, fv, hoe, hc, hd, hdat, h1⟩ := M.obj
  obtain ⟨G', g1, g2⟩ := restrict h' fun b => decide (b ≠ e)
  have gk : ∀ b, b ≠ e → G'.get? b = h'.get? b := fun b hb => g1 b (decide_eq_true hb)
  have ge : G'.get? e = none := g2 e (by simp)
  have ob : ObjOk X.prog X.w (upd H1 d (.xd [(f, v)])) G' d (.xd [(f, v)]) := ⟨_, M.ns.at (fun o q => (gk d M.dne).trans q), fun y => relO_fld rv y⟩
  have J : Inv X pins σ (upd H1 d (.xd [(f, v)])) ⟨G', g, dr, tk', os⟩ := I1.laid (t' := tk') (fun b o q => (gk b (Nat.ne_of_lt (Nat.lt_of_lt_of_le (Heap.lt_size q) M.new))).trans (M.keep b o q)) M.dbig ob
  refine ⟨e, oe, fv, ⟨G', g, dr, tk', os⟩, _, .ref C, some d, rfl, J, fun b o q => ?_, ge, hoe, ⟨hc, hd⟩, hdat, h1, by rw [upd_ne (Ne.symm M.dne)]; exact I1.hok.fresh M.new, rfl, I1.bare, raises_own T.exC T.tyC, q1 d (I1.hok.fresh M.dbig)⟩
  by_cases hb : b = e
  · rw [hb] at q
    cases ge.symm.trans (show G'.get? e = some o from q)
  · exact (gk b hb).symm.trans q
/-- raise n(e) -/
def tRaiseX (C : Addr) (f : Str) (W : WX) (ta : TA) : TS := fun _ σ H => tMkX C f ta σ H fun cls d H' => W cls d σ H'
theorem ps_raiseX {a : Expr} {ta : TA} {W : WX} {p pos pos2 : Pos} {k : Nat} (hc : X.calm = true) (T : XC.Own X.prog X.K X.mg n f C fI B newId initId bmB) (hr : Room k X.A) (tk : Takes X W) (ha : PA X [a] ta) (hg : Gl X n := by rfl)
    (he : starEach (a :: []) X.env = (false, eval a X.env) :: starEach [] X.env := by rfl) (hpl : (backTo pos (starEach [] X.env)).any (·.1) = false := by rfl) (hdb : (n == ("__debug__" : Str)) = false := by decide) :
    PS X (.Raise (some (.Call (.Name n p) [a] [] pos)) none pos2) (tRaiseX C f W ta) := ps_raise hc tk (pmk_x T hr ha hg he hpl hdb)
end
end Su
/-! ### XD: defs that may let an exception out -/
namespace Su
open PySem PySem.Spec PyProof.Rows L2
structure CalX (P : Program) (w : World) (K : PySem.W.Frag) (mg : Str → Option Value) (base : Heap) (k : Nat) (x : Str) (ps : List Str) (sp : Sp) : Prop where
  ex : ∃ (f : Addr) (fd : FuncData), FnOk P w K mg base (L2.CX P w) k f fd ps sp ∧ mg x = some (.ref f) ∧ PySem.W.keepIn K (.ref f) = true ∧ Binds K fd ps [] ∧ ∃ o : Obj, K.lookup f = some o ∧ o.data = .func fd
section
variable {P : Program} {w : World} {K : PySem.W.Frag} {mg : Str → Option Value} {base : Heap}
theorem cal_ofX {x : Str} {st : Stmt} {N ps : List Str} {k : Nat} {sp : Sp} (T : At K mg x st ps) (S : FnScope N ps (defScope st)) (len : ∀ vs H Q E, sp vs H Q E → vs.length = ps.length)
    (hb : ∀ (f : Addr) (cdv : Value) (A : Around) (outer : List Env) (s : Shared) (H : Hp) (vs : List V) (Q : VK) (E : XK), Room k (A.deeper (envOfC x (defScope st) s.heap.objs.size f cdv)) → sp vs H Q E →
      ∃ t, PSs (cxOf (L2.CX P w) P w K mg base N x (defScope st) f cdv A outer s H E) (defBody st) t ∧ t { nx := fun _ H' => Q .non H', rt := Q } (start N vs) H) : CalX P w K mg base (k + 1) x ps sp := by
  obtain ⟨f, fd, F, hm, b⟩ := T.ex
  have z : ∃ o : Obj, K.lookup f = some o ∧ o.data = .func fd := by
    obtain ⟨oc, od, kV, doc, pm, an, cdv, ct, osl, _, lk, _⟩ := F.ex
    exact ⟨_, lk, rfl⟩
  exact ⟨f, fd, F.okX S len (fun cdv A outer s H vs Q E => hb f cdv A outer s H vs Q E), hm, F.kp, b, z⟩
end
section
variable {X : Cx} {x : Str} {ps : List Str} {sp : Sp} {k j : Nat} {e : Expr} {es : List Expr} {t : TA} {p pos : Pos} {W : WX}
theorem pe_ownX (tk : Takes X W) (C : CalX X.prog X.w X.K X.mg X.base k x ps sp) (hr : Room j X.A) (hk : k ≤ j) (hg : Gl X x) (ha : PA X (e :: es) t)
    (hdb : (x == ("__debug__" : Str)) = false := by decide) (he : starEach (e :: es) X.env = (false, eval e X.env) :: starEach es X.env := by rfl) (hpl : (backTo pos (starEach es X.env)).any (·.1) = false := by rfl) :
    PE X (.Call (.Name x p) (e :: es) [] pos) (tCallS sp (WE W) t) := by
  obtain ⟨f, fd, F, hm, kp, b, _⟩ := C.ex
  exact pe_callS F (hr.mono hk) hg hm kp b (fun σ => passAt tk σ) ha hdb he hpl
end
end Su
/-! ### XE: raise X('..'), X an own exception class without own __init__ -/
namespace Su
open PySem PySem.Spec PyProof.Rows L2
/-- what the written part says of the class n at C, over the built-in B -/
structure Own0 (K : PySem.W.Frag) (mg : Str → Option Value) (n : Str) (C : Addr) (B newId initId : String) (bmB : List Value) : Prop where
  base : ExcBaseFacts B newId initId bmB
  ini : PySem.W.excIn K C bmB newId = true
  gC : mg n = some (.ref C)
  kC : PySem.W.keepIn K (.ref C) = true
  exC : PySem.W.subIn K (.ref C) (.type "BaseException") = some true
  tyC : PySem.W.typeIn K (.ref C) = some (.type "type")
def tRaiseT (C : Addr) (W : WX) : TS := fun _ σ H => W (.ref C) none σ H
theorem ps_raiseT {X : Cx} {n m : Str} {C : Addr} {B newId initId : String} {bmB : List Value} {W : WX} {j : Nat} {p p2 pos pos2 : Pos} (hc : X.calm = true) (T : Own0 X.K X.mg n C B newId initId bmB) (tk : Takes X W) (hg : Gl X n := by rfl)
    (hdb : (n == ("__debug__" : Str)) = false := by decide) : PS X (.Raise (some (.Call (.Name n p) [.Constant (.str m) j p2] [] pos)) none pos2) (tRaiseT C W) :=
  ps_raise hc tk (pmk_own T.base T.ini T.gC T.kC (raises_own T.exC T.tyC) hg hdb)
end Su
/-! ### GA: things of any kind -/
namespace Su
open PySem PySem.Spec PyProof.Rows L2
inductive G where
  | non
  | bl (b : Bool)
  | int (i : Int)
  | str (s : Str)
  | lst (l : List G)
  | tup (l : List G)
  | dct
mutual
/-- the value is such a thing; its lists stand apart from p -/
inductive Tg (p : Addr) (H : Hp) : V → G → Prop
  | non : Tg p H .non .non
  | bl (b : Bool) : Tg p H (.bl b) (.bl b)
  | int (i : Int) : Tg p H (.int i) (.int i)
  | str (s : Str) : Tg p H (.str s) (.str s)
  | lst {a : Addr} {vs : List V} {ds : List G} (n : a ≠ p) (e : H a = some (.lst vs)) (t : TgL p H vs ds) : Tg p H (.ref a) (.lst ds)
  | tup {a : Addr} {vs : List V} {ds : List G} (e : T2 H a vs) (t : TgL p H vs ds) : Tg p H (.ref a) (.tup ds)
  | dct {a : Addr} (e : H a = some (.dK [])) : Tg p H (.ref a) .dct
inductive TgL (p : Addr) (H : Hp) : List V → List G → Prop
  | nil : TgL p H [] []
  | cons {v : V} {vs : List V} {d : G} {ds : List G} (h : Tg p H v d) (t : TgL p H vs ds) : TgL p H (v :: vs) (d :: ds)
end
/-- what keeps such things -/
structure Keeps (p : Addr) (H H' : Hp) : Prop where
  ls : ∀ a vs, a ≠ p → H a = some (.lst vs) → H' a = some (.lst vs)
  tw : ∀ a vs, T2 H a vs → T2 H' a vs
  dk : ∀ a kvs, H a = some (.dK kvs) → H' a = some (.dK kvs)
theorem Keeps.of {p : Addr} {H H' : Hp} (k : Kept p H H') (hp : PoolAt H p) : Keeps p H H' := by
  refine ⟨fun a vs n z => k _ _ z n, fun a vs h => K2.of k hp _ _ h, fun a kvs z => ?_⟩
  obtain ⟨o, e, g, m, rfl, _⟩ := hp
  exact k _ _ z (ne_of z e (by intro y; cases y))
theorem Keeps.same {p : Addr} {H H' : Hp} (s : Same H H') : Keeps p H H' := ⟨fun a vs n z => s _ _ z, fun a vs h => h.same s, fun a kvs z => s _ _ z⟩
mutual
theorem Tg.keep {p : Addr} {H H' : Hp} (k : Keeps p H H') : ∀ {v : V} {g : G}, Tg p H v g → Tg p H' v g
  | _, _, .non => .non
  | _, _, .bl b => .bl b
  | _, _, .int i => .int i
  | _, _, .str s => .str s
  | _, _, .lst n e t => .lst n (k.ls _ _ n e) (TgL.keep k t)
  | _, _, .tup e t => .tup (k.tw _ _ e) (TgL.keep k t)
  | _, _, .dct e => .dct (k.dk _ _ e)
theorem TgL.keep {p : Addr} {H H' : Hp} (k : Keeps p H H') : ∀ {vs : List V} {gs : List G}, TgL p H vs gs → TgL p H' vs gs
  | _, _, .nil => .nil
  | _, _, .cons h t => .cons (Tg.keep k h) (TgL.keep k t)
end
theorem TgL.len {p : Addr} {H : Hp} : ∀ {vs : List V} {gs : List G}, TgL p H vs gs → vs.length = gs.length
  | _, _, .nil => rfl
  | _, _, .cons _ t => by
    rw [List.length_cons, List.length_cons, TgL.len t]
theorem TgL.get {p : Addr} {H : Hp} : ∀ {vs : List V} {gs : List G}, TgL p H vs gs → ∀ {i : Nat} {v : V}, vs[i]? = some v → ∃ g, gs[i]? = some g ∧ Tg p H v g
  | _, _, .nil, i, v, e => by simp at e
  | _, _, .cons h t, 0, v, e => by
    obtain rfl := (by simpa using e : _ = v)
    exact ⟨_, rfl, h⟩
  | _, _, .cons h t, i + 1, v, e => TgL.get t (i := i) (by simpa using e)
theorem TgL.ints {p : Addr} {H : Hp} : ∀ ns : List Int, TgL p H (ns.map V.int) (ns.map G.int)
  | [] => .nil
  | n :: ns => .cons (.int n) (TgL.ints ns)
theorem TgL.app {p : Addr} {H : Hp} : ∀ {vs ws : List V} {gs hs : List G}, TgL p H vs gs → TgL p H ws hs → TgL p H (vs ++ ws) (gs ++ hs)
  | _, _, _, _, .nil, h => h
  | _, _, _, _, .cons x t, h => .cons x (TgL.app t h)
/-! kinds -/
def tyG : G → String
  | .non => "NoneType"
  | .bl _ => "bool"
  | .int _ => "int"
  | .str _ => "str"
  | .lst _ => "list"
  | .tup _ => "tuple"
  | .dct => "dict"
theorem Tg.ty {K : PySem.W.Frag} {p : Addr} {H : Hp} {v : V} {g : G} (h : Tg p H v g) : TyX K H v (.type (tyG g)) := by
  cases h with
  | non => exact .base .non
  | bl b => exact .base (.bl b)
  | int i => exact .base (.int i)
  | str s => exact .base (.str s)
  | lst n e t => exact .base (.lst e)
  | tup e t => exact e.ty
  | dct e => exact .base (.dK e)
def isInt : G → Bool
  | .non => false
  | .bl _ => true
  | .int _ => true
  | .str _ => false
  | .lst _ => false
  | .tup _ => false
  | .dct => false
theorem kit_int {K : PySem.W.Frag} (g : G) : PySem.W.kitOne K (.type (tyG g)) (.type "int") = some (isInt g) := by
  refine kit_ty ?_
  cases g
  · exact (by decide +kernel : kitB "NoneType" "int" = some false)
  · exact (by decide +kernel : kitB "bool" "int" = some true)
  · exact (by decide +kernel : kitB "int" "int" = some true)
  · exact (by decide +kernel : kitB "str" "int" = some false)
  · exact (by decide +kernel : kitB "list" "int" = some false)
  · exact (by decide +kernel : kitB "tuple" "int" = some false)
  · exact (by decide +kernel : kitB "dict" "int" = some false)
def isBool : G → Bool
  | .non => false
  | .bl _ => true
  | .int _ => false
  | .str _ => false
  | .lst _ => false
  | .tup _ => false
  | .dct => false
theorem kit_bool {K : PySem.W.Frag} (g : G) : PySem.W.kitOne K (.type (tyG g)) (.type "bool") = some (isBool g) := by
  refine kit_ty ?_
  cases g
  · exact (by decide +kernel : kitB "NoneType" "bool" = some false)
  · exact (by decide +kernel : kitB "bool" "bool" = some true)
  · exact (by decide +kernel : kitB "int" "bool" = some false)
  · exact (by decide +kernel : kitB "str" "bool" = some false)
  · exact (by decide +kernel : kitB "list" "bool" = some false)
  · exact (by decide +kernel : kitB "tuple" "bool" = some false)
  · exact (by decide +kernel : kitB "dict" "bool" = some false)
def isStr : G → Bool
  | .non => false
  | .bl _ => false
  | .int _ => false
  | .str _ => true
  | .lst _ => false
  | .tup _ => false
  | .dct => false
theorem kit_str {K : PySem.W.Frag} (g : G) : PySem.W.kitOne K (.type (tyG g)) (.type "str") = some (isStr g) := by
  refine kit_ty ?_
  cases g
  · exact (by decide +kernel : kitB "NoneType" "str" = some false)
  · exact (by decide +kernel : kitB "bool" "str" = some false)
  · exact (by decide +kernel : kitB "int" "str" = some false)
  · exact (by decide +kernel : kitB "str" "str" = some true)
  · exact (by decide +kernel : kitB "list" "str" = some false)
  · exact (by decide +kernel : kitB "tuple" "str" = some false)
  · exact (by decide +kernel : kitB "dict" "str" = some false)
def isTuple : G → Bool
  | .non => false
  | .bl _ => false
  | .int _ => false
  | .str _ => false
  | .lst _ => false
  | .tup _ => true
  | .dct => false
theorem kit_tuple {K : PySem.W.Frag} (g : G) : PySem.W.kitOne K (.type (tyG g)) (.type "tuple") = some (isTuple g) := by
  refine kit_ty ?_
  cases g
  · exact (by decide +kernel : kitB "NoneType" "tuple" = some false)
  · exact (by decide +kernel : kitB "bool" "tuple" = some false)
  · exact (by decide +kernel : kitB "int" "tuple" = some false)
  · exact (by decide +kernel : kitB "str" "tuple" = some false)
  · exact (by decide +kernel : kitB "list" "tuple" = some false)
  · exact (by decide +kernel : kitB "tuple" "tuple" = some true)
  · exact (by decide +kernel : kitB "dict" "tuple" = some false)
def isList : G → Bool
  | .non => false
  | .bl _ => false
  | .int _ => false
  | .str _ => false
  | .lst _ => true
  | .tup _ => false
  | .dct => false
theorem kit_list {K : PySem.W.Frag} (g : G) : PySem.W.kitOne K (.type (tyG g)) (.type "list") = some (isList g) := by
  refine kit_ty ?_
  cases g
  · exact (by decide +kernel : kitB "NoneType" "list" = some false)
  · exact (by decide +kernel : kitB "bool" "list" = some false)
  · exact (by decide +kernel : kitB "int" "list" = some false)
  · exact (by decide +kernel : kitB "str" "list" = some false)
  · exact (by decide +kernel : kitB "list" "list" = some true)
  · exact (by decide +kernel : kitB "tuple" "list" = some false)
  · exact (by decide +kernel : kitB "dict" "list" = some false)
end Su
/-! ### GB: such things as data -/
namespace Su
open PySem PySem.Spec PyProof.Rows L2
mutual
def toD : G → PyData
  | .non => .none
  | .bl b => .bool b
  | .int i => .int i
  | .str s => .str s
  | .lst l => .list (toDs l)
  | .tup l => .tuple (toDs l)
  | .dct => .dict []
def toDs : List G → List PyData
  | [] => []
  | g :: gs => toD g :: toDs gs
end
mutual
def okD : G → Bool
  | .dct => false
  | .lst l => okDs l
  | .tup l => okDs l
  | _ => true
def okDs : List G → Bool
  | [] => true
  | g :: gs => okD g && okDs gs
end
mutual
theorem Tg.dp {K : PySem.W.Frag} {p : Addr} {H : Hp} : ∀ {v : V} {g : G}, Tg p H v g → okD g = true → Dp K H v (toD g)
  | _, _, .non, _ => .non
  | _, _, .bl b, _ => .bl b
  | _, _, .int i, _ => .int i
  | _, _, .str s, _ => .str s
  | _, _, .lst n e t, h => .lst (SqL.of e) (TgL.dp t (by simpa only [okD] using h))
  | _, _, .tup e t, h => .tup e.sq (TgL.dp t (by simpa only [okD] using h))
  | _, _, .dct _, h => by simp [okD] at h
theorem TgL.dp {K : PySem.W.Frag} {p : Addr} {H : Hp} : ∀ {vs : List V} {gs : List G}, TgL p H vs gs → okDs gs = true → DpAll K H vs (toDs gs)
  | _, _, .nil, _ => .nil
  | _, _, .cons x t, h => by
    simp only [okDs, Bool.and_eq_true] at h
    exact .cons (Tg.dp x h.1) (TgL.dp t h.2)
end
theorem toDs_map : ∀ gs : List G, toDs gs = gs.map toD
  | [] => rfl
  | g :: gs => by
    show toD g :: toDs gs = toD g :: gs.map toD
    rw [toDs_map gs]
theorem okDs_all : ∀ gs : List G, okDs gs = gs.all okD
  | [] => rfl
  | g :: gs => by
    show (okD g && okDs gs) = (okD g && gs.all okD)
    rw [okDs_all gs]
theorem eqv_nilD (ds : List PyData) : PyData.eqv (.list ds) (.list []) = ds.isEmpty := by
  cases ds with
  | nil => rfl
  | cons x l => rfl
/-- a thing that may stand in a tuple -/
structure OkE (g : G) : Prop where
  ok : okD g = true
  cl : (toD g).canLay0 = true
  dp : (toD g).depth ≤ 4
theorem lay_all : ∀ {gs : List G}, (∀ g ∈ gs, OkE g) → PyData.canLayAll0 (toDs gs) = true ∧ PyData.depthAll (toDs gs) ≤ 4
  | [], _ => ⟨by simp [toDs, PyData.canLayAll0], by simp [toDs, PyData.depthAll]⟩
  | g :: gs, h => by
    obtain ⟨a, b⟩ := lay_all fun x hx => h x (List.mem_cons_of_mem _ hx)
    have c := h g List.mem_cons_self
    refine ⟨?_, ?_⟩
    · simp only [toDs, PyData.canLayAll0, c.cl, a, Bool.and_self]
    · simp only [toDs, PyData.depthAll]
      have := c.dp
      omega
/-- a list of such things beside [] -/
theorem OkE.list {gs : List G} (h : ∀ g ∈ gs, OkE g) : okDs gs = true ∧ SeqAt.shaped (.list (toDs gs)) = true := by
  obtain ⟨a, b⟩ := lay_all h
  refine ⟨?_, ?_⟩
  · rw [okDs_all, List.all_eq_true]
    exact fun g hg => (h g hg).ok
  · unfold SeqAt.shaped
    rw [Bool.and_eq_true, decide_eq_true_eq]
    refine ⟨by simp only [PyData.canLay0, a], ?_⟩
    simp only [PyData.depth]
    omega
theorem shaped_nil : SeqAt.shaped (.list []) = true := by
  have f2 : Fine (.list []) 1 0 := Fine.list FineL.nil
  exact f2.shaped (by decide)
end Su
/-! ### GC: repr of such things -/
namespace Su
open PySem PySem.Spec PyProof.Rows L2
structure Fz (g : G) (n m : Nat) : Prop where
  sh : (toD g).showable = true
  dp : (toD g).depth ≤ n
  lv : (toD g).leavesShort 30 = true
  wt : (toD g).weight ≤ m
structure FzL (gs : List G) (n m : Nat) : Prop where
  sh : PyData.showableAll (toDs gs) = true
  dp : PyData.depthAll (toDs gs) ≤ n
  lv : PyData.leavesShortAll 30 (toDs gs) = true
  wt : PyData.weightAll (toDs gs) ≤ m
theorem Fz.up {g : G} {n m n' m' : Nat} (h : Fz g n m) (a : n ≤ n') (b : m ≤ m') : Fz g n' m' := ⟨h.sh, Nat.le_trans h.dp a, h.lv, Nat.le_trans h.wt b⟩
theorem FzL.up {g : List G} {n m n' m' : Nat} (h : FzL g n m) (a : n ≤ n') (b : m ≤ m') : FzL g n' m' := ⟨h.sh, Nat.le_trans h.dp a, h.lv, Nat.le_trans h.wt b⟩
theorem Fz.int {i : Int} (h1 : -1000000 ≤ i) (h2 : i ≤ 1000000) : Fz (.int i) 0 40 := by
  have hb : i.natAbs < 10 ^ 12 := by omega
  have hl : i.natAbs.log2 < 39 := by
    by_cases z : i.natAbs = 0
    · rw [z]
      decide
    · exact (Nat.log2_lt z).mpr (by omega)
  refine ⟨?_, by simp [toD, PyData.depth], ?_, ?_⟩
  · simp only [toD, PyData.showable, decide_eq_true_eq]
    omega
  · simp only [toD, PyData.leavesShort, decide_eq_true_eq]
    exact Nat.le_trans (PyData.shown_int_le hb) (by decide)
  · simp only [toD, PyData.weight]
    split <;> omega
theorem Fz.none : Fz .non 0 0 := ⟨by simp [toD, PyData.showable], by simp [toD, PyData.depth], by simp [toD, PyData.leavesShort], by simp [toD, PyData.weight]⟩
theorem Fz.bool (b : Bool) : Fz (.bl b) 0 0 := ⟨by simp [toD, PyData.showable], by simp [toD, PyData.depth], by simp [toD, PyData.leavesShort], by simp [toD, PyData.weight]⟩
theorem Fz.dct : Fz .dct 1 0 := ⟨by simp [toD, PyData.showable, PyData.showableKv], by simp [toD, PyData.depth, PyData.depthKv], by simp [toD, PyData.leavesShort, PyData.leavesShortKv], by simp [toD, PyData.weight, PyData.weightKv]⟩
theorem FzL.nil {n : Nat} : FzL [] n 0 := ⟨by simp [toDs, PyData.showableAll], by simp [toDs, PyData.depthAll], by simp [toDs, PyData.leavesShortAll], by simp [toDs, PyData.weightAll]⟩
theorem FzL.cons {g : G} {gs : List G} {n m k : Nat} (h : Fz g n m) (t : FzL gs n k) : FzL (g :: gs) n (m + 1 + k) := by
  refine ⟨?_, ?_, ?_, ?_⟩
  · simp only [toDs, PyData.showableAll, h.sh, t.sh, Bool.and_self]
  · simp only [toDs, PyData.depthAll]
    have := h.dp
    have := t.dp
    omega
  · simp only [toDs, PyData.leavesShortAll, h.lv, t.lv, Bool.and_self]
  · simp only [toDs, PyData.weightAll]
    have := h.wt
    have := t.wt
    omega
theorem Fz.tup {gs : List G} {n m : Nat} (t : FzL gs n m) : Fz (.tup gs) (n + 1) m :=
  ⟨by simpa only [toD, PyData.showable] using t.sh, by simp only [toD, PyData.depth]; have := t.dp; omega, by simpa only [toD, PyData.leavesShort] using t.lv, by simpa only [toD, PyData.weight] using t.wt⟩
theorem Fz.lst {gs : List G} {n m : Nat} (t : FzL gs n m) : Fz (.lst gs) (n + 1) m :=
  ⟨by simpa only [toD, PyData.showable] using t.sh, by simp only [toD, PyData.depth]; have := t.dp; omega, by simpa only [toD, PyData.leavesShort] using t.lv, by simpa only [toD, PyData.weight] using t.wt⟩
theorem FzL.all {n m : Nat} : ∀ {gs : List G}, (∀ g ∈ gs, Fz g n m) → FzL gs n ((m + 1) * gs.length)
  | [], _ => FzL.nil
  | g :: gs, h => by
    have a := FzL.cons (h g List.mem_cons_self) (FzL.all fun y hy => h y (List.mem_cons_of_mem _ hy))
    have e : m + 1 + (m + 1) * gs.length = (m + 1) * (g :: gs).length := by
      rw [List.length_cons, Nat.mul_add, Nat.mul_one, Nat.add_comm]
    rw [e] at a
    exact a
theorem Fz.len {g : G} {n m : Nat} (h : Fz g n m) (hm : m ≤ 500000) : (toD g).shown.length ≤ sizeLine := by
  have a := PyData.shown_le 30 (by decide) (toD g) h.lv
  have b := h.wt
  rw [sizeLine_eq]
  omega
mutual
theorem okD_nd : ∀ g : G, okD g = true → (toD g).hasDict = false
  | .non, _ => by simp [toD, PyData.hasDict]
  | .bl _, _ => by simp [toD, PyData.hasDict]
  | .int _, _ => by simp [toD, PyData.hasDict]
  | .str _, _ => by simp [toD, PyData.hasDict]
  | .lst l, h => by
    simp only [toD, PyData.hasDict]
    exact okDs_nd l (by simpa only [okD] using h)
  | .tup l, h => by
    simp only [toD, PyData.hasDict]
    exact okDs_nd l (by simpa only [okD] using h)
  | .dct, h => by simp [okD] at h
theorem okDs_nd : ∀ gs : List G, okDs gs = true → PyData.hasDictAll (toDs gs) = false
  | [], _ => by simp [toDs, PyData.hasDictAll]
  | g :: gs, h => by
    simp only [okDs, Bool.and_eq_true] at h
    simp only [toDs, PyData.hasDictAll, okD_nd g h.1, okDs_nd gs h.2, Bool.or_self]
end
/-- a thing without a dict, or an empty dict -/
def Flat (g : G) : Prop := okD g = true ∨ g = .dct
section
variable {X : Cx} {pins : List (Addr × Obj)} {σ : L2.St} {H : Hp} {s : Shared} {p : Addr}
theorem flat_reads (I : Inv X pins σ H s) {v : V} {g : G} {u : Value} (h : Tg p H v g) (r : RelV v u) (fl : Flat g) : ∃ as, Reads s.heap u (toD g) as ∧ ((toD g).hasDict = true → sysModules ∉ as) := by
  rcases fl with ok | rfl
  · obtain ⟨as, rd⟩ := Dp.reads I (toD g) v u (h.dp ok) r
    exact ⟨as, rd, PyData.noDict_hsm (okD_nd g ok)⟩
  · cases h with
    | @dct a e =>
      cases r
      obtain ⟨_, lo, vs, kv, o, es, ep, ho, hx, hd, _, pr, _⟩ := dk_of I.hok e
      cases kv
      have ee : es.toList = [] := by
        cases hz : es.toList with
        | nil => rfl
        | cons x l =>
          rw [hz] at pr
          cases pr
      refine ⟨_, Reads.dict (kvs := []) ho hx.1 hd (by rw [ee]; exact .nil) (by rw [ee]; exact .nil), fun _ hm => ?_⟩
      rcases List.mem_append.mp hm with z | z
      · rcases List.mem_cons.mp z with y | y
        · rw [← y] at lo
          simp at lo
        · cases y
      · cases z
theorem rows_reads (I : Inv X pins σ H s) : ∀ {vs : List V} {gs : List G} {us : List Value}, TgL p H vs gs → Vals vs us → (∀ g ∈ gs, Flat g) → PyData.showableAll (toDs gs) = true → (∀ t ∈ PyData.shownAll (toDs gs), t.length ≤ sizeLine) →
    (∃ as, ReadsAll s.heap us (toDs gs) as) ∧ ∃ bs, ReadAtMost s.heap (PyData.depthAll (toDs gs)) bs ∧ ReprAllK X.prog X.w bs s.heap (PyData.depthAll (toDs gs)) us (PyData.shownAll (toDs gs))
  | _, _, _, .nil, r, _, _, _ => by
    cases r
    exact ⟨⟨_, .nil⟩, [], (fun _ h => nomatch h), by simp only [toDs, PyData.shownAll]; exact .nil⟩
  | _, _, _, .cons (d := d) (ds := ds) h t, r, fl, sh, hz => by
    cases r with
    | cons r1 r2 =>
      have sh' : (toD d).showable = true ∧ PyData.showableAll (toDs ds) = true := by simpa [toDs, PyData.showableAll] using sh
      obtain ⟨as, rd, hsm⟩ := flat_reads I h r1 (fl d List.mem_cons_self)
      obtain ⟨b1, hb1, k1⟩ := ReprK.of_reads (prog := X.prog) (w := X.w) rd sh'.1 hsm (hz _ (by simp only [toDs, PyData.shownAll]; exact List.mem_cons_self ..))
      obtain ⟨⟨as2, rd2⟩, b2, hb2, k2⟩ := rows_reads I t r2 (fun g hg => fl g (List.mem_cons_of_mem _ hg)) sh'.2 (fun t ht => hz t (by simp only [toDs, PyData.shownAll]; exact List.mem_cons_of_mem _ ht))
      refine ⟨⟨_, .cons rd rd2⟩, b1 ++ b2, ?_, ?_⟩
      · intro b hm
        simp only [toDs, PyData.depthAll]
        rcases List.mem_append.mp hm with hm | hm
        · obtain ⟨d', as', r', hd'⟩ := hb1 b hm
          exact ⟨d', as', r', Nat.le_trans hd' (Nat.le_max_left _ _)⟩
        · obtain ⟨d', as', r', hd'⟩ := hb2 b hm
          exact ⟨d', as', r', Nat.le_trans hd' (Nat.le_max_right _ _)⟩
      · simp only [toDs, PyData.depthAll, PyData.shownAll]
        exact .cons ((k1.more fun b hb => List.mem_append_left _ hb).level_le (Nat.le_max_left _ _)) (k2.more_le (fun b hb => List.mem_append_right _ hb) (Nat.le_max_right _ _))
end
/-- what may be shown: flat, or a list of flat things -/
structure Shw (g : G) : Prop where
  fz : Fz g 40 500000
  fl : Flat g ∨ ∃ gs, g = .lst gs ∧ ∀ x ∈ gs, Flat x
section
variable {X : Cx}
def rReprG : List V → Hp → VK → Prop := fun xs H Q => ∃ (p : Addr) (v : V) (g : G), xs = [v] ∧ Tg p H v g ∧ Shw g ∧ Q (.str (toD g).shown) H
theorem call_reprG (hg : X.A.guards = some []) (hu : X.A.units + 64 < cLine) : CallR X (.builtin "repr") rReprG := by
  intro pins s σ H xs us Q I r h
  obtain ⟨p, v, g, rfl, ht, sw, q⟩ := h
  obtain ⟨u, rfl, ru⟩ := vals1 r
  have hz := sw.fz.len (Nat.le_refl _)
  have hdp := sw.fz.dp
  have ht0 := ht
  rcases sw.fl with fl | ⟨gs, rfl, fl⟩
  · cases ht with
    | non =>
      cases ru
      simp only [toD, PyData.shown] at q
      exact PySem.P.repr_of_none ⟨.str _, H, I.tok _, ⟨_, rfl⟩, q⟩
    | bl b =>
      cases ru
      simp only [toD, PyData.shown] at q
      exact PySem.P.repr_of_bool ⟨.str _, H, I.tok _, ⟨_, rfl⟩, q⟩
    | int i =>
      obtain ⟨t, rfl⟩ := ru
      simp only [toD, PyData.shown] at q
      have z := sw.fz.sh
      simp only [toD, PyData.showable, decide_eq_true_eq] at z
      exact PySem.P.repr_of_int z ⟨.str _, H, I.tok _, ⟨_, rfl⟩, q⟩
    | str x =>
      obtain ⟨t, rfl⟩ := ru
      simp only [toD, PyData.shown] at q hz
      exact PySem.P.repr_of_str ⟨.str _, H, I.tok _, ⟨_, rfl⟩, q⟩ hz
    | @lst a vs ds n e t =>
      cases ru
      obtain ⟨as, rd, hsm⟩ := flat_reads I ht0 rfl fl
      exact repr_of_reads' rd sw.fz.sh hsm hg (by omega) (fun _ _ z => z) (fun h' u tk hk => ⟨.str _, H, I.kept hk, ⟨u, rfl⟩, q⟩) hz
    | @tup a vs ds e t =>
      cases ru
      obtain ⟨as, rd, hsm⟩ := flat_reads I ht0 rfl fl
      exact repr_of_reads' rd sw.fz.sh hsm hg (by omega) (fun _ _ z => z) (fun h' u tk hk => ⟨.str _, H, I.kept hk, ⟨u, rfl⟩, q⟩) hz
    | @dct a e =>
      cases ru
      obtain ⟨as, rd, hsm⟩ := flat_reads I ht0 rfl fl
      exact repr_of_reads' rd sw.fz.sh hsm hg (by omega) (fun _ _ z => z) (fun h' u tk hk => ⟨.str _, H, I.kept hk, ⟨u, rfl⟩, q⟩) hz
  · cases ht with
    | @lst a vs _ n e t =>
      cases ru
      obtain ⟨its, rv, ⟨o, na, ho, hc, _, hd⟩, _⟩ := I.list (SqL.of e)
      have hz' : (listText (PyData.shownAll (toDs gs))).length ≤ sizeLine := by simpa only [toD, PyData.shown] using hz
      have sh' : PyData.showableAll (toDs gs) = true := by simpa only [toD, PyData.showable] using sw.fz.sh
      obtain ⟨⟨as, rda⟩, bs, hb, hk⟩ := rows_reads I t rv fl sh' (fun t ht => Nat.le_trans (listText_mem_le ht) hz')
      have rd : Reads s.heap (.ref a) (.list (toDs gs)) (a :: as) := Reads.list ho hc hd (by simpa using rda)
      have hna : a ∉ bs := not_mem_of_deeper rd (by simp only [PyData.depth]; omega) hb
      have q2 : Q (.str (listText (PyData.shownAll (toDs gs)))) H := by simpa only [toD, PyData.shown] using q
      simp only [toD, PyData.depth] at hdp
      refine call_repr_slot (by omega) ⟨o, ho, hc⟩ F.slot_list_repr.toG ?_
      cases its with
      | nil =>
        have e0 : toDs gs = [] := by
          clear q q2 hz hz' hdp sw sh' hk hb hna rd ht0 fl
          generalize toDs gs = ds at rda ⊢
          cases rda
          rfl
        rw [e0] at q2
        simp only [PyData.shownAll, listText_nil] at q2
        exact call_list_repr_empty ⟨o, ho, hc⟩ ho hd ⟨_, _, rfl, .str _, H, I.kept fun _ _ e => e, ⟨_, rfl⟩, q2⟩
      | cons x l =>
        exact call_list_reprK ho hc hd hna (by simpa using hk.length_eq) (fun i y e => hk.item i y (by simpa using e)) hg (fun b _ => Clear.nil b) (by show X.A.units + 1 + (_ + 1) < cLine; omega) (fun _ _ z => z) (fun h' u tk hk => ⟨_, _, rfl, .str _, H, I.kept hk, ⟨u, rfl⟩, q2⟩) hz'
end
end Su
/-! ### SH: set(t), t a tuple of ints -/
namespace Su
open PySem PySem.Spec PyProof.Rows L2
section
variable {P : Program} {w : World} {A : Around} {E : Value → Shared → Prop} {s : Shared}
theorem set_of_tup {l : Addr} {its : Array Value} (ns : List Int) {Q : Value → Shared → Prop} (hh : A.handled = none) (hl : s.heap.IsTuple l its) (ia : IntsAre its.toList ns) (few : ns.length + 1 < scanBound)
    (q : ∀ (h' : Heap) (tk c : Nat), SetR w h' s.heap.objs.size (fun j => decide (j ∈ ns)) c → c ≤ ns.length → (∀ b o, s.heap.get? b = some o → h'.get? b = some o) → Q (.ref s.heap.objs.size) { s with heap := h', toks := tk }) :
    wpAny (model P w) A (call (.type "set") [.ref l]) Q E s := by
  have sz : its.size = ns.length := by
    have z := IntsAre.length ia
    rwa [Array.length_toList] at z
  obtain ⟨c0, tl0, m0⟩ := F.called_set.mro
  have m1 := F.called_set.made
  have m2 := F.called_set.sub
  have m3 := F.called_set.notType
  have m4 := F.called_set.canCreate
  have m5 := F.typeCall_set_1 (.ref l)
  refine wpAny_call (codeAny_of_tree ?_)
  show wpAny _ _ (callAny (.type "set") _) _ _ _
  refine wpAny_pure ⟨Code.quiet_builtin _ (by decide +kernel), codeAny_builtin F.entry_type_call ?_⟩
  rw [Around.under_plain (weight_type_call_type "set" [.ref l] []) rfl]
  repeat (any_goals (first | assumption | wp_step))
  refine codeAny_mono (code_set_led1 (.ref l) (E := E) (Q₁ := fun x t => x = .ref s.heap.objs.size ∧ t = { s with heap := s.heap.push (set0 w) }) ⟨rfl, rfl⟩) fun r t hr => ?_
  match r, hr with
  | .error e, hr => exact hr
  | .ok .next, hr => exact hr.elim
  | .ok .brk, hr => exact hr.elim
  | .ok .cont, hr => exact hr.elim
  | .ok (.ret x), hr =>
    obtain ⟨rfl, rfl⟩ := hr
    have at0 : (s.heap.push (set0 w)).get? s.heap.objs.size = some (set0 w) := Heap.get?_push_size _ rfl
    have ty0 : Shared.TypeIs { s with heap := s.heap.push (set0 w) } (.ref s.heap.objs.size) "set" := ⟨_, at0, rfl⟩
    have n1 := F.called_set.init.lookup
    have n2 := F.called_set.init.bind (.ref s.heap.objs.size)
    repeat (any_goals (first | assumption | wp_step))
    refine codeAny_mono (codeAny_call_builtin (R := wants (fun r t => r = .none ∧ ∃ h' tk c, t = { s with heap := h', toks := tk } ∧ SetR w h' s.heap.objs.size (fun j => decide (j ∈ ns)) c ∧ c ≤ ns.length ∧ ∀ b o, s.heap.get? b = some o → h'.get? b = some o) E)
      F.called_set.init.plain F.entry_set_init (check_set_init_1 ty0 ?_)) fun r2 t2 hr2 => ?_
    · obtain ⟨⟨oc, od, odt, os⟩, ho, hc, nl, hd⟩ := hl
      simp only at hc hd
      subst hc hd
      have lt : l < s.heap.objs.size := Heap.lt_size ho
      have ho1 : (s.heap.push (set0 w)).get? l = some { cls := .type "tuple", dict := od, data := .seq its nl, slots := os } := Heap.get?_push_of_some _ ho
      have isl : (s.heap.push (set0 w)).IsTuple l its := ⟨_, ho1, rfl, nl, rfl⟩
      have p1 := F.sub_tuple_set
      have p2 := F.sub_tuple_frozenset
      have p3 : (Value.type "tuple" == Value.type "dict") = false := by decide
      unfold Builtin.«set.__init__» noKeywords Builtin.Frozenset.updateFrom
      generalize hPI : pyIter = PI
      wp_walk
      subst hPI
      refine wpAny_pyIter_tuple isl (wpAny_bind (wpAny_runValue ?_))
      have size1 : (s.heap.push (set0 w)).objs.size = s.heap.objs.size + 1 := Heap.size_push ..
      have ap : l ≠ (s.heap.push (set0 w)).objs.size := by
        rw [size1]
        exact Nat.ne_of_lt (Nat.lt_succ_of_lt lt)
      have ap2 : s.heap.objs.size ∉ [(s.heap.push (set0 w)).objs.size, l] := by
        rw [size1]
        simp only [List.mem_cons, List.not_mem_nil, or_false, not_or]
        exact ⟨Nat.ne_of_lt (Nat.lt_succ_self _), Nat.ne_of_gt lt⟩
      refine set_update_ints ((Walks.tuple (by simp [hh]) _ l ap its).toS) s.heap.objs.size ap2 ns sz few (fun i v hv => ?_) (its.size - 0) 0 _ (by omega) (Nat.zero_le _) ⟨⟨_, Heap.get?_push_size _ rfl, rfl, rfl⟩, (isl.extBut (b := (s.heap.push (set0 w)).objs.size) (fun b o hb e => Heap.get?_push_of_some _ e) ap)⟩ ⟨0, Nat.le_refl 0, setR_new_at (Heap.get?_push_of_some _ at0)⟩ fun t3 c3 mv hc3 hS3 => ?_
      · have hi : i < ns.length := by
          rw [← sz]
          exact (Array.getElem?_eq_some_iff.mp hv).1
        obtain ⟨tk, e⟩ := PyProof.Rows.IntsAre.int_at ia i v (by rw [Array.getElem?_toList]; exact hv)
        refine ⟨ns[i], tk, List.getElem?_eq_getElem hi, ?_⟩
        rw [e, List.getD_eq_getElem?_getD, List.getElem?_eq_getElem hi] <;> rfl
      · obtain ⟨h3, g3, d3, tk3, os3⟩ := t3
        obtain rfl : g3 = s.gens := mv.gens
        obtain rfl : d3 = s.drawn := mv.drawn
        obtain rfl : os3 = s.os := mv.os
        show wpAny _ _ _ _ _ _
        refine wpAny_pure ?_
        show wpAny _ _ (ret Value.none) _ _ _
        refine wpAny_pure ⟨rfl, h3, tk3, c3, rfl, hS3, by omega, fun b o e => ?_⟩
        have bl : b < s.heap.objs.size := Heap.lt_size e
        refine mv.heap b o ?_ (Heap.get?_push_of_some _ (Heap.get?_push_of_some _ e))
        rw [size1]
        simp only [List.mem_cons, List.not_mem_nil, or_false, not_or]
        exact ⟨Nat.ne_of_lt bl, Nat.ne_of_lt (Nat.lt_succ_of_lt bl)⟩
    · match r2, hr2 with
      | .error e, hr2 => exact hr2
      | .ok .next, hr2 => exact hr2.elim
      | .ok .brk, hr2 => exact hr2.elim
      | .ok .cont, hr2 => exact hr2.elim
      | .ok (.ret y), hr2 =>
        obtain ⟨rfl, h', tk, c, rfl, hS, hc, hk⟩ := hr2
        repeat (any_goals (first | assumption | wp_step))
        exact q _ _ _ hS hc hk
end
section
variable {X : Cx}
def rSetT (w : World) (K : PySem.W.Frag) : List V → Hp → VK → Prop := fun xs H Q => ∃ (l : Addr) (ns : List Int), xs = [.ref l] ∧ SqT K H l (ns.map V.int) ∧ ns.length ≤ 4000 ∧ ∀ (p : Addr) (H' : Hp), Same H H' → H p = none → SetIs w H' p ns → Q (.ref p) H'
theorem cr_setT (hc : X.calm = true) : CallR X (.type "set") (rSetT X.w X.K) := by
  intro pins s σ H xs us Q I r h
  obtain ⟨l, ns, rfl, hq, hl, q⟩ := h
  rw [Vals.ref1 r]
  obtain ⟨its, rv, pl, hz⟩ := I.tuple hq
  refine set_of_tup ns (I.ok.hd hc) pl (by simpa using ints_of rv) (by unfold scanBound; omega) fun h' tk c hR hc' hk => ?_
  have new : H s.heap.objs.size = none := I.hok.fresh (Nat.le_refl _)
  exact ⟨.ref s.heap.objs.size, _, I.laid (t' := tk) hk (Nat.le_refl _) (setO_new hR), rfl, q _ _ (same_upd new) new (SetIs.of hR upd_same fun k => decide_eq_true_iff)⟩
end
end Su
/-! ### SK: a tuple so many times -/
namespace Su
open PySem PySem.Spec PyProof.Rows L2
section
variable {X : Cx}
def rRepA : R2 := fun x y H Q => ∃ (a : Addr) (k : Int) (xs : List V), x = .ref a ∧ y = .int k ∧ T2 H a xs ∧ xs ≠ [] ∧ 0 ≤ k ∧ k ≤ 1000 ∧ xs.length ≤ 1000 ∧ ∀ v H', Same H H' → T2 H' v (List.replicate k.toNat xs).flatten → Q (.ref v) H'
theorem op_repA : OpR X (binaryOp .Mult) rRepA := by
  intro pins s σ H x y v u Q I rx ry h
  obtain ⟨a, k, xs, rfl, rfl, ha, ne, k0, k1, hl, q⟩ := h
  by_cases h2 : 2 ≤ k
  · exact op_repT pins s σ H _ _ v u Q I rx ry ⟨a, k, xs, rfl, rfl, ha.sq, ne, h2, k1, hl, fun p np => q p _ (same_upd np) (.inr upd_same)⟩
  · refine op_mul01 pins s σ H _ _ v u Q I rx ry ⟨a, k, xs, rfl, rfl, ha, ne, by omega, fun v H' s' ht => q v H' s' ?_⟩
    have e : k = 0 ∨ k = 1 := by omega
    rcases e with rfl | rfl
    · exact ht
    · rw [show (List.replicate (1 : Int).toNat xs).flatten = xs from by simp]
      exact ht
end
end Su
/-! ### SL: a tuple so many times, its methods may be called -/
namespace Su
open PySem PySem.Spec PyProof.Rows L2
section
variable {X : Cx}
def rRepF : R2 := fun x y H Q => ∃ (a : Addr) (k : Int) (xs : List V), x = .ref a ∧ y = .int k ∧ PTup H a xs ∧ xs ≠ [] ∧ 0 ≤ k ∧ k ≤ 1000 ∧ xs.length ≤ 1000 ∧ ∀ v H', Same H H' → PTup H' v (List.replicate k.toNat xs).flatten → Q (.ref v) H'
theorem rep_flat_len {α : Type} (l : List α) : ∀ n : Nat, (List.replicate n l).flatten.length = n * l.length
  | 0 => by simp
  | n + 1 => by
    rw [List.replicate_succ, List.flatten_cons, List.length_append, rep_flat_len l n, Nat.add_mul, Nat.one_mul, Nat.add_comm]
theorem op_repF : OpR X (binaryOp .Mult) rRepF := by
  intro pins s σ H x y v u Q I rx ry h
  obtain ⟨a, k, xs, rfl, rfl, ha, ne, k0, k1, hl, q⟩ := h
  cases rx
  obtain ⟨t, rfl⟩ := ry
  obtain ⟨its, r, ⟨⟨cls, dv, data, sl⟩, ho, hc, n, hd⟩, hs⟩ := I.tuple (ha.sq (K := X.K))
  simp only at hc hd
  subst hc hd
  have le : its.length = xs.length := r.length.symm
  have pos : 0 < its.length := by
    rw [le]
    exact List.length_pos_iff.mpr ne
  have full : its.toArray.isEmpty = false := by
    cases its with
    | nil => simp at pos
    | cons _ _ => rfl
  have prod : k.toNat * xs.length ≤ 1000 * 1000 := Nat.mul_le_mul (by omega) hl
  have ty := fun (s' : Shared) => typeIs_int s' k t
  by_cases h2 : 2 ≤ k
  · have sz : its.toArray.size = its.length := List.size_toArray ..
    have small : ((its.toArray.size : Nat) : Int) * k ≤ 1000000 := by
      rw [sz, le]
      have z : ((xs.length : Nat) : Int) * k ≤ 1000 * k := Int.mul_le_mul_of_nonneg_right (by omega) k0
      omega
    have g0 : (decide (k < -(2 ^ 63)) || decide (k ≥ 2 ^ 63)) = false := by
      rw [Bool.or_eq_false_iff]
      exact ⟨decide_eq_false (by omega), decide_eq_false (by omega)⟩
    have g1 : (its.toArray.isEmpty || k == 1) = false := by
      rw [full]
      simpa using (by omega : ¬ k = 1)
    have g2 : (decide (k ≤ 0) || its.toArray.isEmpty) = false := by
      rw [full, Bool.or_false]
      exact decide_eq_false (by omega)
    have g4 : Builtin.Tuple.tupleTooMany (((its.toArray.size : Nat) : Int) * k) = false := by
      unfold Builtin.Tuple.tupleTooMany
      exact decide_eq_false (by rw [sizeLine_eq]; omega)
    have fl : (List.replicate k.toNat its).flatten.length ≤ sizeLine := by
      rw [rep_flat_len, le, sizeLine_eq]
      omega
    have M := tuple_mulW a its.toArray n dv sl k t g0 g1 g2 (by omega) g4 (by rw [size_rep, List.size_toArray]; exact fl)
    refine wpAny_binaryOp_repeat_ref (T := "tuple") (U := "int") (by decide) ⟨_, ho, rfl⟩ ty noFill_tuple_mul F.fills_int_mul F.slot_int_rmul repeat_tuple F.slot_int_index.lookup (call_meets F.slot_int_rmul (ty s) F.entry_int_rmul (F.args_int_rmul_2 _ _) (int_rmul_tuple k t a its.toArray n dv sl) ⟨ho, rfl, ⟨_, ho, rfl⟩, call_meets F.slot_tuple_mul ⟨_, ho, rfl⟩ F.entry_tuple_mul (F.args_tuple_mul_2 _ _) M ⟨ho, ?_⟩⟩)
    rw [size_rep]
    exact newF I (r.rep k.toNat) (by rw [rep_flat_len, sizeLine_eq]; omega) (fun v H' s' _ h => q v H' s' h) s.toks
  · have e : k = 0 ∨ k = 1 := by omega
    rcases e with rfl | rfl
    · refine wpAny_binaryOp_repeat_ref (T := "tuple") (U := "int") (by decide) ⟨_, ho, rfl⟩ ty noFill_tuple_mul F.fills_int_mul F.slot_int_rmul repeat_tuple F.slot_int_index.lookup (call_meets F.slot_int_rmul (ty s) F.entry_int_rmul (F.args_int_rmul_2 _ _) (int_rmul_tuple 0 t a its.toArray n dv sl) ⟨ho, rfl, ⟨_, ho, rfl⟩, call_meets F.slot_tuple_mul ⟨_, ho, rfl⟩ F.entry_tuple_mul (F.args_tuple_mul_2 _ _) (tuple_mul0 a its.toArray n dv sl t full) ⟨ho, ?_⟩⟩)
      exact newF I .nil (Nat.zero_le _) (fun v H' s' _ h => q v H' s' h) s.toks
    · refine wpAny_binaryOp_repeat_ref (T := "tuple") (U := "int") (by decide) ⟨_, ho, rfl⟩ ty noFill_tuple_mul F.fills_int_mul F.slot_int_rmul repeat_tuple F.slot_int_index.lookup (call_meets F.slot_int_rmul (ty s) F.entry_int_rmul (F.args_int_rmul_2 _ _) (int_rmul_tuple 1 t a its.toArray n dv sl) ⟨ho, rfl, ⟨_, ho, rfl⟩, call_meets F.slot_tuple_mul ⟨_, ho, rfl⟩ F.entry_tuple_mul (F.args_tuple_mul_2 _ _) (tuple_mul1 a its.toArray n dv sl t) ⟨ho, ?_⟩⟩)
      refine ⟨.ref a, H, I, rfl, q a H (Same.refl H) ?_⟩
      rw [show (List.replicate (1 : Int).toNat xs).flatten = xs from by simp]
      exact ha
end
end Su
/-! ### TX: what is shown of data is a text of code points -/
namespace Su
open PySem PySem.Spec PyProof.Rows L2
theorem sok_app {a b : Str} (h1 : PyData.strOk a = true) (h2 : PyData.strOk b = true) : PyData.strOk (a ++ b) = true := by
  show (a.cps ++ b.cps).all _ = true
  rw [Array.all_append, Bool.and_eq_true]
  exact ⟨h1, h2⟩
theorem sok_of (s : String) : PyData.strOk (Str.ofString s) = true := by
  unfold PyData.strOk
  rw [Str.ofString_eq_toList, List.all_toArray, List.all_eq_true]
  intro c hc
  obtain ⟨d, _, rfl⟩ := List.mem_map.mp hc
  rw [decide_eq_true_eq]
  have := d.valid
  unfold UInt32.isValidChar Nat.isValidChar at this
  show d.val.toNat < _
  omega
theorem sok_from : ∀ (ts : List Str) (k : Nat) (acc : Str), PyData.strOk acc = true → (∀ t ∈ ts, PyData.strOk t = true) → PyData.strOk (textFrom k acc ts) = true
  | [], _, _, h, _ => h
  | t :: ts, k, acc, h, ht => sok_from ts (k + 1) _ (sok_app (sok_app h (sok_of _)) (ht t List.mem_cons_self)) fun x hx => ht x (List.mem_cons_of_mem _ hx)
theorem sok_list {ts : List Str} (h : ∀ t ∈ ts, PyData.strOk t = true) : PyData.strOk (listText ts) = true := sok_app (sok_from ts 0 _ (sok_of _) h) (sok_of _)
theorem sok_join (sep : Str) (hs : PyData.strOk sep = true) : ∀ (ts : List Str), (∀ t ∈ ts, PyData.strOk t = true) → PyData.strOk (Str.join sep ts) = true
  | [], _ => by show PyData.strOk Str.empty = true; decide +kernel
  | [x], h => h x List.mem_cons_self
  | x :: y :: r, h => sok_app (sok_app (h x List.mem_cons_self) hs) (sok_join sep hs (y :: r) fun t ht => h t (List.mem_cons_of_mem _ ht))
theorem sok_tuple {ts : List Str} (h : ∀ t ∈ ts, PyData.strOk t = true) : PyData.strOk (tupleText ts) = true := sok_app (sok_app (sok_of _) (sok_join _ (sok_of _) ts h)) (sok_of _)
mutual
/-- no text in it, no dict -/
def noStr : PyData → Bool
  | .str _ => false
  | .dict _ => false
  | .list xs => noStrs xs
  | .tuple xs => noStrs xs
  | _ => true
def noStrs : List PyData → Bool
  | [] => true
  | d :: ds => noStr d && noStrs ds
end
mutual
theorem sok_shown : ∀ d : PyData, noStr d = true → PyData.strOk d.shown = true
  | .none, _ => by simp only [PyData.shown]; exact sok_of _
  | .bool b, _ => by cases b <;> simp only [PyData.shown] <;> exact sok_of _
  | .int i, _ => by simp only [PyData.shown]; exact sok_of _
  | .list xs, h => by simp only [PyData.shown]; exact sok_list (sok_all xs (by simpa only [noStr] using h))
  | .tuple xs, h => by simp only [PyData.shown]; exact sok_tuple (sok_all xs (by simpa only [noStr] using h))
  | .str _, h => by simp [noStr] at h
  | .dict _, h => by simp [noStr] at h
theorem sok_all : ∀ ds : List PyData, noStrs ds = true → ∀ t ∈ PyData.shownAll ds, PyData.strOk t = true
  | [], _, t, ht => by simp [PyData.shownAll] at ht
  | d :: ds, h, t, ht => by
    simp only [noStrs, Bool.and_eq_true] at h
    simp only [PyData.shownAll, List.mem_cons] at ht
    rcases ht with rfl | ht
    · exact sok_shown d h.1
    · exact sok_all ds h.2 t ht
end
theorem noStrs_all : ∀ ds : List PyData, noStrs ds = ds.all noStr
  | [] => rfl
  | d :: ds => by simp only [noStrs, List.all_cons, noStrs_all ds]
theorem noStr_ints (ns : List Int) : noStr (.tuple (ns.map PyData.int)) = true := by
  simp only [noStr, noStrs_all, List.all_eq_true]
  intro d hd
  obtain ⟨i, _, rfl⟩ := List.mem_map.mp hd
  simp only [noStr]
theorem noStr_web (rs : List Rw) : noStr (webD rs) = true := by
  simp only [webD, noStr, noStrs_all, List.all_eq_true]
  intro d hd
  obtain ⟨r, _, rfl⟩ := List.mem_map.mp hd
  unfold rowD
  simp only [noStr, noStrs, Bool.and_true, Bool.and_eq_true]
  exact ⟨by simpa only [noStr] using noStr_ints r.1, by simpa only [noStr] using noStr_ints r.2⟩
end Su
/-! ### XF: an exception that is caught, seen from the begin of its suite on -/
namespace Su
open PySem PySem.Spec PyProof.Rows L2
def wIn (K : PySem.W.Frag) (c : Value) (i : Nat) (ts : Addr → List (Addr × Obj) → TS) (Wo : WX) (D : Ends) : WX := fun cls d σ H =>
  ∃ b, PySem.W.exmOne K cls c = some b ∧
    (b = true → ∀ a pn, H a = none → ts a pn { nx := fun σ' H' => D.nx (σ'.set i none) H', rt := D.rt, bk := fun σ' H' => D.bk (σ'.set i none) H', ct := fun σ' H' => D.ct (σ'.set i none) H' } (σ.set i (some (.ref a))) (upd H a (exK a cls d))) ∧
    (b = false → Wo cls d σ H)
def tTryIn (K : PySem.W.Frag) (c : Value) (i : Nat) (ts : Addr → List (Addr × Obj) → TS) (Wo : WX) (tb : WX → TS) : TS := fun D σ H => tb (wIn K c i ts Wo D) D σ H
section
variable {X : Cx} {x n : Str} {c : Value} {i : Nat} {body suite : List Stmt} {b0 : Stmt} {np pos pos' : Pos} {tb : WX → TS} {ts : Addr → List (Addr × Obj) → TS} {Wo : WX}
/-- try: .. except x as n: suite, the exception tracked in the suite -/
theorem ps_try_in (hex : X.ex = []) (hs : X.stack = X.env :: X.outer) (hf : X.env.frame = some X.env.locals) (hN : X.N.Nodup) (hi : X.N[i]? = some n) (hln : X.env.kindOf n = some .local) (hc : Names X x c) (tk : Takes X Wo)
    (hb : ∀ (W : WX) (pn : List (Addr × Obj)) (xe : Value → Shared → Prop), Takes (X.tr pn xe) W → PassesOwn (model X.prog X.w) X.A X.env xe → PSs (X.tr pn xe) body (tb W))
    (hsu : ∀ (a : Addr) (pn : List (Addr × Obj)), PSs (X.suite a pn) (b0 :: suite) (ts a pn)) :
    PS X (.Try body [.ExceptHandler (some (.Name x np)) (some n) (b0 :: suite) pos'] [] [] pos) (tTryIn X.K c i ts Wo tb) := by
  refine ⟨fun pins s σ H D I h => ?_⟩
  have ok := I.ok
  have frm : X.A.frames = some (X.env :: X.outer) := by
    rw [ok.frames, hs]
  refine wpAny_Try_except ?_
  refine wpAny_mono ((hb (wIn X.K c i ts Wo D) (X.pn ++ pins) (fun u t => wpAny (model X.prog X.w) X.A (noteFrame u X.env) (fun _ t2 => wpAny (model X.prog X.w) X.A (setFlight u none) (fun _ t3 =>
    wpAny (model X.prog X.w) X.A (handleBy u X.env [.ExceptHandler (some (.Name x np)) (some n) (b0 :: suite) pos']) (SP X pins D) X.xe t3) X.xe t2) X.xe t) (fun u t xx => ?_) PassesOwn.looking).run [] s σ H D (I.toTry _) h) (fun fl t hsp => ?_) (fun _ _ z => z)
  · obtain ⟨a, B, sI, pins2, τ, G, cls, d, rfl, Jt, nb, up, sky, na, os, ag, b, hb1, hyes, hno⟩ := xx
    have J : Inv X pins τ G sI := Jt.ofTry ok
    have sky2 : Sky B (X.env :: X.outer) a (Zc cls d) X.env.locals t.heap := by
      rw [← hs]
      exact sky
    show wpAny (model X.prog X.w) X.A (noteFrame (.ref a) X.env) _ _ _
    refine Sky.land Zc.steady frm hf sky2 fun g3 fl3 up3 => ?_
    have J3 : Inv X pins τ G { t with heap := g3 } := J.landed nb fl3.1 (up.trans up3) os ag
    obtain ⟨oe3, vs3, at3, zc3, dt3⟩ := fl3.there
    have nofr : a ∉ frs (X.env :: X.outer) := by
      intro hm
      obtain ⟨_, o', e', hnf⟩ := fl3.2.2.1.mem hm
      rw [at3] at e'
      cases e'
      exact hnf _ dt3
    have nL : a ≠ X.env.locals := fun z => nofr (List.mem_filterMap.mpr ⟨X.env, List.mem_cons_self, by rw [hf, z]⟩)
    have nF : a ∉ X.fs := by
      intro hm
      obtain ⟨e, he, q⟩ := List.mem_filterMap.mp hm
      exact nofr (List.mem_filterMap.mpr ⟨e, List.mem_cons_of_mem _ he, q⟩)
    -- it wasn't there ahead
    have gone : sI.heap.get? a = none := by
      cases z : sI.heap.get? a with
      | none => rfl
      | some o =>
        have y := nb a o z (by rw [hs]; exact nofr)
        rw [fl3.2.1] at y
        cases y
    have gone0 : X.s_0.heap.get? a = none := by
      cases z : X.s_0.heap.get? a with
      | none => rfl
      | some o =>
        obtain ⟨o', y⟩ := J.base.there a o z (by rw [hex]; simp)
        rw [gone] at y
        cases y
    have noc : ∀ y k, X.env.cells.lookup y = some k → k ≠ a := by
      rintro y k e rfl
      obtain ⟨v, o, e1, _⟩ := J.cell y k e
      rw [gone] at e1
      cases e1
    have nop : ∀ q ∈ X.pn ++ pins, q.1 ≠ a := by
      intro q hq e
      have y := (J.pin q hq).1
      rw [e, gone] at y
      cases y
    have S3 := J3.suite at3 dt3 na nL nF
    refine wpAny_handleBy_cons (codeAny_handlers_test ?_) (by intro q; cases q)
    have LT : PySem.W.Looks (model X.prog X.w) g3 (typeOf (.ref a)) cls := fun A Q E s k q => wpAny_typeOf_ref (k _ _ at3) (by rw [zc3.1]; exact q)
    have LM := PySem.W.exm_one (M := model X.prog X.w) (J3.kIn) LT hb1
    have asked : ∀ {Q : Value → Shared → Prop} {E : Value → Shared → Prop}, Q c { t with heap := g3 } → wpAny (model X.prog X.w) (X.A.mark (some (.ref a))) (eval (.Name x np) X.env) Q E { t with heap := g3 } := by
      intro Q E q
      obtain ⟨hg, hdbg, hm | ⟨hm, hv, hnn⟩⟩ := hc
      · exact ld_glob (X := X.suite a ((a, oe3) :: (X.pn ++ pins))) S3 hg hm q hdbg
      · exact ld_blt (X := X.suite a ((a, oe3) :: (X.pn ++ pins))) S3 hg hm hv q hnn hdbg
    refine asked (LM.here ?_)
    cases b with
    | true =>
      refine codeAny_handlers_suite_as (HandSPX.lands_againZ fl3 fun g4 fl4 up4 => ?_)
      have J4 : Inv X pins τ G { t with heap := g4 } := J.landed nb fl4.1 ((up.trans up3).trans up4) os ag
      obtain ⟨oe4, vs4, at4, zc4, dt4⟩ := fl4.there
      have J5 : Inv X pins τ (upd G a (exK a cls d)) { t with heap := g4 } := track J4 na gone0 nL noc nop (exK_ok at4 zc4 dt4)
      have S4 : Inv (X.suite a (X.pn ++ pins)) [] τ (upd G a (exK a cls d)) { t with heap := g4 } := ⟨J5.ok.suite _ _, J5.os, J5.bare, J5.base, J5.loc, J5.cell, J5.free, J5.freeC, fun p hp => J5.pin p (by rw [List.append_nil] at hp; exact hp), J5.hok, J5.len⟩
      refine store_ok (X := X.suite a (X.pn ++ pins)) (v := .ref a) S4 hN hi (.inl hln) rfl (fun t5 S5 => ?_) (.inr hln)
      refine wpAny_mono ((hsu a (X.pn ++ pins)).run [] t5 _ _ _ S5 (hyes rfl a _ na)) (fun fl t6 hsp => ?_) (fun _ _ z => False.elim z)
      have end_ : ∀ {σ6 : L2.St} {H6 : Hp} {Q : Shared → Prop}, Inv (X.suite a (X.pn ++ pins)) [] σ6 H6 t6 → (∀ t7, Inv X pins (σ6.set i none) H6 t7 → Q t7) →
          wpAny (model X.prog X.w) X.A (do bindName X.env n .none; unbindBehindTheSuite X.env n pos') (fun _ t7 => Q t7) X.xe t6 := fun {σ6 H6 Q} S6 hq => by
        have J6 : Inv X pins σ6 H6 t6 := ⟨ok, S6.os, S6.bare, S6.base, S6.loc, S6.cell, S6.free, S6.freeC, fun p hp => S6.pin p (List.mem_append_left _ hp), S6.hok, S6.len⟩
        exact gone_ok J6 hN hi hln hq
      cases fl with
      | next =>
        obtain ⟨σ6, H6, S6, q6⟩ := hsp
        exact end_ S6 fun t7 J7 => ⟨_, _, J7, q6⟩
      | brk =>
        obtain ⟨σ6, H6, S6, q6⟩ := hsp
        exact end_ S6 fun t7 J7 => ⟨_, _, J7, q6⟩
      | cont =>
        obtain ⟨σ6, H6, S6, q6⟩ := hsp
        exact end_ S6 fun t7 J7 => ⟨_, _, J7, q6⟩
      | ret u =>
        obtain ⟨v6, σ6, H6, S6, r6, q6⟩ := hsp
        exact end_ S6 fun t7 J7 => ⟨_, _, _, J7, r6, q6⟩
    | false =>
      show wpAny _ X.A (handleBy (.ref a) X.env []) _ _ _
      refine wpAny_handleBy_nil ?_
      obtain ⟨k1, k2, k3, oe, vs, T, oT, ts', he, hz, hd, h1, hr⟩ := id fl3
      unfold PySem.passOn
      refine wpAny_bind (wpAny_field he hd h1 ?_)
      rw [if_neg (show ¬ ((Value.ref T == Value.none) = true) from by simp)]
      have away : wpAny (model X.prog X.w) X.A (setFlight (.ref a) X.env.frame) (fun _ t4 => wpAny (model X.prog X.w) X.A (throw (.ref a) : Sem Flow) (SP X pins D) X.xe t4) X.xe { t with heap := g3 } := by
        rw [hf]
        refine HandSPX.setFlight_upZ fl3 fun g4 hh4 up4 => wpAny_throw (tk _ _ ?_)
        exact ⟨a, B, sI, pins, τ, G, cls, d, rfl, J, nb, (up.trans up3).trans up4, .inr (.inr (by rw [hs]; exact hh4)), na, os, ag, hno rfl⟩
      first
        | exact wpAny_bind (wpAny_pure (wpAny_bind away))
        | exact wpAny_bind away
  · cases fl with
    | next =>
      obtain ⟨τ, G, J, q⟩ := hsp
      exact wpAny_execs_nil ⟨τ, G, J.ofTry ok, q⟩
    | brk =>
      obtain ⟨τ, G, J, q⟩ := hsp
      exact ⟨τ, G, J.ofTry ok, q⟩
    | cont =>
      obtain ⟨τ, G, J, q⟩ := hsp
      exact ⟨τ, G, J.ofTry ok, q⟩
    | ret u =>
      obtain ⟨v, τ, G, J, r, q⟩ := hsp
      exact ⟨v, τ, G, J.ofTry ok, r, q⟩
end
section
variable {X : Cx}
/-- repr of a scalar, wherever -/
def rReprS : List V → Hp → VK → Prop := fun xs H Q => (xs = [.non] ∧ Q (.str "None") H) ∨ (∃ b : Bool, xs = [.bl b] ∧ Q (.str (if b then "True" else "False")) H) ∨ ∃ i : Int, xs = [.int i] ∧ i.natAbs.log2 < 1920 ∧ Q (.str (toString i)) H
theorem call_reprS : CallR X (.builtin "repr") rReprS := by
  intro pins s σ H xs us Q I r h
  rcases h with ⟨rfl, q⟩ | ⟨b, rfl, q⟩ | ⟨i, rfl, hz, q⟩
  · obtain ⟨u, rfl, ru⟩ := vals1 r
    cases ru
    exact PySem.P.repr_of_none ⟨.str _, H, I.tok _, ⟨_, rfl⟩, q⟩
  · obtain ⟨u, rfl, ru⟩ := vals1 r
    cases ru
    exact PySem.P.repr_of_bool ⟨.str _, H, I.tok _, ⟨_, rfl⟩, q⟩
  · obtain ⟨u, rfl, t, rfl⟩ := vals1 r
    exact PySem.P.repr_of_int hz ⟨.str _, H, I.tok _, ⟨_, rfl⟩, q⟩
end
end Su
/-! ### XG: a try with any number of clauses `except X as n`, the exception tracked in its suite -/
namespace Su
open PySem PySem.Spec PyProof.Rows L2
inductive HdsIn (X : Cx) : List ExceptHandler → (Ends → WX → WX) → Prop
  | nil : HdsIn X [] (fun _ Wo => Wo)
  | cons {x n : Str} {c : Value} {i : Nat} {suite : List Stmt} {b0 : Stmt} {np pos' : Pos} {ts : Addr → List (Addr × Obj) → TS} {hds : List ExceptHandler} {g : Ends → WX → WX} (hN : X.N.Nodup) (hi : X.N[i]? = some n) (hln : X.env.kindOf n = some .local) (hc : Names X x c)
      (hsu : ∀ (a : Addr) (pn : List (Addr × Obj)), PSs (X.suite a pn) (b0 :: suite) (ts a pn)) (rest : HdsIn X hds g) : HdsIn X (.ExceptHandler (some (.Name x np)) (some n) (b0 :: suite) pos' :: hds) (fun D Wo => wIn X.K c i ts (g D Wo) D)
def tTryIns (g : Ends → WX → WX) (Wo : WX) (tb : WX → TS) : TS := fun D σ H => tb (g D Wo) D σ H
section
variable {X : Cx} {body : List Stmt} {pos : Pos} {tb : WX → TS} {Wo : WX} {h0 : ExceptHandler} {hds : List ExceptHandler} {g : Ends → WX → WX}
theorem ps_try_ins (hex : X.ex = []) (hs : X.stack = X.env :: X.outer) (hf : X.env.frame = some X.env.locals) (tk : Takes X Wo)
    (hb : ∀ (W : WX) (pn : List (Addr × Obj)) (xe : Value → Shared → Prop), Takes (X.tr pn xe) W → PassesOwn (model X.prog X.w) X.A X.env xe → PSs (X.tr pn xe) body (tb W))
    (hh : HdsIn X (h0 :: hds) g) :
    PS X (.Try body (h0 :: hds) [] [] pos) (tTryIns g Wo tb) := by
  refine ⟨fun pins s σ H D I h => ?_⟩
  have ok := I.ok
  have frm : X.A.frames = some (X.env :: X.outer) := by
    rw [ok.frames, hs]
  refine wpAny_Try_except ?_
  refine wpAny_mono ((hb (g D Wo) (X.pn ++ pins) (fun u t => wpAny (model X.prog X.w) X.A (noteFrame u X.env) (fun _ t2 => wpAny (model X.prog X.w) X.A (setFlight u none) (fun _ t3 =>
    wpAny (model X.prog X.w) X.A (handleBy u X.env (h0 :: hds)) (SP X pins D) X.xe t3) X.xe t2) X.xe t) (fun u t xx => ?_) PassesOwn.looking).run [] s σ H D (I.toTry _) h) (fun fl t hsp => ?_) (fun _ _ z => z)
  · obtain ⟨a, B, sI, pins2, τ, G, cls, d, rfl, Jt, nb, up, sky, na, os, ag, hw⟩ := xx
    have J : Inv X pins τ G sI := Jt.ofTry ok
    have sky2 : Sky B (X.env :: X.outer) a (Zc cls d) X.env.locals t.heap := by
      rw [← hs]
      exact sky
    show wpAny (model X.prog X.w) X.A (noteFrame (.ref a) X.env) _ _ _
    refine Sky.land Zc.steady frm hf sky2 fun g3 fl3 up3 => ?_
    have J3 : Inv X pins τ G { t with heap := g3 } := J.landed nb fl3.1 (up.trans up3) os ag
    obtain ⟨oe3, vs3, at3, zc3, dt3⟩ := fl3.there
    have nofr : a ∉ frs (X.env :: X.outer) := by
      intro hm
      obtain ⟨_, o', e', hnf⟩ := fl3.2.2.1.mem hm
      rw [at3] at e'
      cases e'
      exact hnf _ dt3
    have nL : a ≠ X.env.locals := fun z => nofr (List.mem_filterMap.mpr ⟨X.env, List.mem_cons_self, by rw [hf, z]⟩)
    have nF : a ∉ X.fs := by
      intro hm
      obtain ⟨e, he, q⟩ := List.mem_filterMap.mp hm
      exact nofr (List.mem_filterMap.mpr ⟨e, List.mem_cons_of_mem _ he, q⟩)
    -- it wasn't there ahead
    have gone : sI.heap.get? a = none := by
      cases z : sI.heap.get? a with
      | none => rfl
      | some o =>
        have y := nb a o z (by rw [hs]; exact nofr)
        rw [fl3.2.1] at y
        cases y
    have gone0 : X.s_0.heap.get? a = none := by
      cases z : X.s_0.heap.get? a with
      | none => rfl
      | some o =>
        obtain ⟨o', y⟩ := J.base.there a o z (by rw [hex]; simp)
        rw [gone] at y
        cases y
    have noc : ∀ y k, X.env.cells.lookup y = some k → k ≠ a := by
      rintro y k e rfl
      obtain ⟨v, o, e1, _⟩ := J.cell y k e
      rw [gone] at e1
      cases e1
    have nop : ∀ q ∈ X.pn ++ pins, q.1 ≠ a := by
      intro q hq e
      have y := (J.pin q hq).1
      rw [e, gone] at y
      cases y
    have S3 := J3.suite at3 dt3 na nL nF
    have LT : PySem.W.Looks (model X.prog X.w) g3 (typeOf (.ref a)) cls := fun A Q E s k q => wpAny_typeOf_ref (k _ _ at3) (by rw [zc3.1]; exact q)
    have key : ∀ (hl : List ExceptHandler) (g : Ends → WX → WX), HdsIn X hl g → g D Wo cls d τ G → wpAny (model X.prog X.w) X.A (handleBy (.ref a) X.env hl) (SP X pins D) X.xe { t with heap := g3 } := by
      intro hl g hh
      induction hh with
      | nil =>
        intro hno
        refine wpAny_handleBy_nil ?_
        obtain ⟨k1, k2, k3, oe, vs, T, oT, ts', he, hz, hd, h1, hr⟩ := id fl3
        unfold PySem.passOn
        refine wpAny_bind (wpAny_field he hd h1 ?_)
        rw [if_neg (show ¬ ((Value.ref T == Value.none) = true) from by simp)]
        have away : wpAny (model X.prog X.w) X.A (setFlight (.ref a) X.env.frame) (fun _ t4 => wpAny (model X.prog X.w) X.A (throw (.ref a) : Sem Flow) (SP X pins D) X.xe t4) X.xe { t with heap := g3 } := by
          rw [hf]
          refine HandSPX.setFlight_upZ fl3 fun g4 hh4 up4 => wpAny_throw (tk _ _ ?_)
          exact ⟨a, B, sI, pins, τ, G, cls, d, rfl, J, nb, (up.trans up3).trans up4, .inr (.inr (by rw [hs]; exact hh4)), na, os, ag, hno⟩
        first
          | exact wpAny_bind (wpAny_pure (wpAny_bind away))
          | exact wpAny_bind away
      | cons hN hi hln hc hsu rest ih =>
        rename_i x n c i suite b0 np pos' ts hds g
        intro hw
        obtain ⟨b, hb1, hyes, hno⟩ := hw
        refine wpAny_handleBy_cons (codeAny_handlers_test ?_) (by intro q; cases q)
        have LM := PySem.W.exm_one (M := model X.prog X.w) (J3.kIn) LT hb1
        have asked : ∀ {Q : Value → Shared → Prop} {E : Value → Shared → Prop}, Q c { t with heap := g3 } → wpAny (model X.prog X.w) (X.A.mark (some (.ref a))) (eval (.Name x np) X.env) Q E { t with heap := g3 } := by
          intro Q E q
          obtain ⟨hg, hdbg, hm | ⟨hm, hv, hnn⟩⟩ := hc
          · exact ld_glob (X := X.suite a ((a, oe3) :: (X.pn ++ pins))) S3 hg hm q hdbg
          · exact ld_blt (X := X.suite a ((a, oe3) :: (X.pn ++ pins))) S3 hg hm hv q hnn hdbg
        refine asked (LM.here ?_)
        cases b with
        | true =>
          refine codeAny_handlers_suite_as (HandSPX.lands_againZ fl3 fun g4 fl4 up4 => ?_)
          have J4 : Inv X pins τ G { t with heap := g4 } := J.landed nb fl4.1 ((up.trans up3).trans up4) os ag
          obtain ⟨oe4, vs4, at4, zc4, dt4⟩ := fl4.there
          have J5 : Inv X pins τ (upd G a (exK a cls d)) { t with heap := g4 } := track J4 na gone0 nL noc nop (exK_ok at4 zc4 dt4)
          have S4 : Inv (X.suite a (X.pn ++ pins)) [] τ (upd G a (exK a cls d)) { t with heap := g4 } := ⟨J5.ok.suite _ _, J5.os, J5.bare, J5.base, J5.loc, J5.cell, J5.free, J5.freeC, fun p hp => J5.pin p (by rw [List.append_nil] at hp; exact hp), J5.hok, J5.len⟩
          refine store_ok (X := X.suite a (X.pn ++ pins)) (v := .ref a) S4 hN hi (.inl hln) rfl (fun t5 S5 => ?_) (.inr hln)
          refine wpAny_mono ((hsu a (X.pn ++ pins)).run [] t5 _ _ _ S5 (hyes rfl a _ na)) (fun fl t6 hsp => ?_) (fun _ _ z => False.elim z)
          have end_ : ∀ {σ6 : L2.St} {H6 : Hp} {Q : Shared → Prop}, Inv (X.suite a (X.pn ++ pins)) [] σ6 H6 t6 → (∀ t7, Inv X pins (σ6.set i none) H6 t7 → Q t7) →
              wpAny (model X.prog X.w) X.A (do bindName X.env n .none; unbindBehindTheSuite X.env n pos') (fun _ t7 => Q t7) X.xe t6 := fun {σ6 H6 Q} S6 hq => by
            have J6 : Inv X pins σ6 H6 t6 := ⟨ok, S6.os, S6.bare, S6.base, S6.loc, S6.cell, S6.free, S6.freeC, fun p hp => S6.pin p (List.mem_append_left _ hp), S6.hok, S6.len⟩
            exact gone_ok J6 hN hi hln hq
          cases fl with
          | next =>
            obtain ⟨σ6, H6, S6, q6⟩ := hsp
            exact end_ S6 fun t7 J7 => ⟨_, _, J7, q6⟩
          | brk =>
            obtain ⟨σ6, H6, S6, q6⟩ := hsp
            exact end_ S6 fun t7 J7 => ⟨_, _, J7, q6⟩
          | cont =>
            obtain ⟨σ6, H6, S6, q6⟩ := hsp
            exact end_ S6 fun t7 J7 => ⟨_, _, J7, q6⟩
          | ret u =>
            obtain ⟨v6, σ6, H6, S6, r6, q6⟩ := hsp
            exact end_ S6 fun t7 J7 => ⟨_, _, _, J7, r6, q6⟩
        | false =>
          exact ih (hno rfl)
    exact key _ _ hh hw
  · cases fl with
    | next =>
      obtain ⟨τ, G, J, q⟩ := hsp
      exact wpAny_execs_nil ⟨τ, G, J.ofTry ok, q⟩
    | brk =>
      obtain ⟨τ, G, J, q⟩ := hsp
      exact ⟨τ, G, J.ofTry ok, q⟩
    | cont =>
      obtain ⟨τ, G, J, q⟩ := hsp
      exact ⟨τ, G, J.ofTry ok, q⟩
    | ret u =>
      obtain ⟨v, τ, G, J, r, q⟩ := hsp
      exact ⟨v, τ, G, J.ofTry ok, r, q⟩
end
end Su
/-! ### DU: len, str and repr of an instance, by its own methods -/
namespace Su
open PySem PySem.Spec PyProof.Rows L2
/-- a special method of the class at C -/
structure MetD (P : Program) (w : World) (K : PySem.W.Frag) (mg : Str → Option Value) (base : Heap) (k : Nat) (C : Addr) (m : Str) (sp : Sp) : Prop where
  ex : ∃ (f : Addr) (fd : FuncData), PySem.W.findIn K (.ref C) m = some (some (.ref f)) ∧ PySem.W.isFn K (.ref f) = true ∧ FnG P w K mg base CX0 k f fd ["self"] sp ∧ Binds K fd ["self"] []
section
variable {X : Cx} {k j : Nat} {f C : Addr} {fd : FuncData} {ps : List Str} {sp : Sp}
theorem run_fnG {A : Around} {pins : List (Addr × Obj)} {σ : L2.St} {H : Hp} {s : Shared} {Q : VK} {us : List Value} {vs : List V} (sb : Sub X k A) (hg : A.guards = some []) (F : FnG X.prog X.w X.K X.mg X.base CX0 k f fd ps sp) (hb : Binds X.K fd ps [])
    (I : Inv X pins σ H s) (r : Vals vs us) (h : sp vs H Q E0) : wpAny (model X.prog X.w) A (call (.ref f) us) (EP X pins σ Q) X.xe s := by
  have e0 : Env0 X.prog X.w X.K X.mg X.base A X.stack s H := by
    have e := I.env0
    exact ⟨by rw [sb.fr]; exact e.frames, e.mod, e.bs, e.bsz, e.funs, e.frf, e.hok, e.bare⟩
  have hl : us.length = ps.length := by rw [← r.length]; exact F.len _ _ _ _ h
  refine wpAny_call (codeAny_mono (F.run A X.stack s H ⟨us, []⟩ us vs Q E0 hg sb.room e0 (by
    have := hb s us I.kIn (by simpa using hl)
    simpa using this) r h) fun r s' hq => ?_)
  cases r with
  | error e => exact False.elim hq
  | ok fl =>
    cases fl with
    | ret u => exact I.after hq
    | next => exact False.elim hq
    | brk => exact False.elim hq
    | cont => exact False.elim hq
def rLenI (C : Addr) (sp : Sp) : List V → Hp → VK → Prop := fun xs H Q => ∃ (a dx : Addr) (fs : List (Str × V)), xs = [.ref a] ∧ H a = some (.ins C dx fs) ∧ sp [.ref a] H (fun v H' => ∃ n : Int, v = .int n ∧ (0 ≤ n ∧ n < 2 ^ 63) ∧ Q (.int n) H') E0
theorem call_lenI (M : MetD X.prog X.w X.K X.mg X.base k C "__len__" sp) (hg : X.A.guards = some []) (hr : Room j X.A) (hk : k + 1 ≤ j) : CallR X (.builtin "len") (rLenI C sp) := by
  intro pins s σ H xs us Q I r h
  obtain ⟨a, dx, fs, rfl, ea, hsp⟩ := h
  obtain ⟨f, fd, hs, hf, F, hb⟩ := M.ex
  rw [Vals.ref1 r]
  obtain ⟨mA, J, _⟩ := ins_get I.hok ea
  obtain ⟨od, J, _⟩ := J.look
  obtain ⟨m, hF⟩ := I.fr
  have sb : Sub X (k + 1) X.A := ⟨hr.mono hk, rfl⟩
  refine PySem.W.len_K hF I.ok.mod.kin J hs hf ?_
  refine wpAny_mono (run_fnG sb.in1 hg F hb I (vs := [.ref a]) (.cons rfl .nil) hsp) (fun u s' z => ?_) (fun _ _ z => z)
  obtain ⟨v, H', I', rv, n, rfl, h01, q⟩ := z
  obtain ⟨t, rfl⟩ := rv
  exact ⟨h01, .int n, H', I'.tok _, ⟨_, rfl⟩, q⟩
def rTxtI (C : Addr) (sp : Sp) : List V → Hp → VK → Prop := fun xs H Q => ∃ (a dx : Addr) (fs : List (Str × V)), xs = [.ref a] ∧ H a = some (.ins C dx fs) ∧ sp [.ref a] H (fun v H' => ∃ x : Str, v = .str x ∧ Q (.str x) H') E0
theorem call_strI (M : MetD X.prog X.w X.K X.mg X.base k C "__str__" sp) (hg : X.A.guards = some []) (hr : Room j X.A) (hk : k + 2 ≤ j) : CallR X (.type "str") (rTxtI C sp) := by
  intro pins s σ H xs us Q I r h
  obtain ⟨a, dx, fs, rfl, ea, hsp⟩ := h
  obtain ⟨f, fd, hs, hf, F, hb⟩ := M.ex
  rw [Vals.ref1 r]
  obtain ⟨mA, J, _⟩ := ins_get I.hok ea
  obtain ⟨od, J, _⟩ := J.look
  have sb : Sub X (k + 2) X.A := ⟨hr.mono hk, rfl⟩
  refine PySem.W.kso_call sb.in1.in1.room.units0 I.kIn J hs hf ?_
  refine wpAny_mono (run_fnG sb.in1.in1 hg F hb I (vs := [.ref a]) (.cons rfl .nil) hsp) (fun u s' z => ?_) (fun _ _ z => z)
  obtain ⟨v, H', I', rv, x, rfl, q⟩ := z
  obtain ⟨t, rfl⟩ := rv
  exact ⟨.str x, H', I', ⟨_, rfl⟩, q⟩
theorem call_reprI (M : MetD X.prog X.w X.K X.mg X.base k C "__repr__" sp) (hg : X.A.guards = some []) (hr : Room j X.A) (hk : k + 1 ≤ j) : CallR X (.builtin "repr") (rTxtI C sp) := by
  intro pins s σ H xs us Q I r h
  obtain ⟨a, dx, fs, rfl, ea, hsp⟩ := h
  obtain ⟨f, fd, hs, hf, F, hb⟩ := M.ex
  rw [Vals.ref1 r]
  obtain ⟨mA, J, _⟩ := ins_get I.hok ea
  obtain ⟨od, J, _⟩ := J.look
  obtain ⟨m, hF⟩ := I.fr
  have sb : Sub X (k + 1) X.A := ⟨hr.mono hk, rfl⟩
  refine PySem.W.repr_K sb.in1.room.units0 hF I.ok.mod.kin J hs hf ?_
  refine wpAny_mono (run_fnG sb.in1 hg F hb I (vs := [.ref a]) (.cons rfl .nil) hsp) (fun u s' z => ?_) (fun _ _ z => z)
  obtain ⟨v, H', I', rv, x, rfl, q⟩ := z
  obtain ⟨t, rfl⟩ := rv
  exact ⟨.str x, H', I', ⟨_, rfl⟩, q⟩
end
section
open Builtin
variable {prog : Program} {w : World} {A : Around} {E : Value → Shared → Prop} {s : Shared} {K : PySem.W.Frag} {x C f : Addr} {ox : Obj} {od : Option Obj}
def LenTru (Q : Bool → Shared → Prop) (v : Value) (s' : Shared) : Prop := match v with
  | .int n _ => (0 ≤ n ∧ n < 2 ^ 63) ∧ Q (n != 0) { s' with toks := s'.toks + 1 }
  | _ => False
theorem truthy_len {Q : Bool → Shared → Prop} (X : K.In s.heap) (I : PySem.W.InstAt s.heap x ox C od) (hb : PySem.W.findIn K (.ref C) "__bool__" = some none) (hl : PySem.W.findIn K (.ref C) "__len__" = some (some (.ref f))) (hf : PySem.W.isFn K (.ref f) = true)
    (h : wpAny (model prog w) A.in1 (call (.ref f) [.ref x]) (LenTru Q) E s) : wpAny (model prog w) A (truthy (.ref x)) Q E s := by
  unfold truthy
  refine wpAny_bind (m := callSpecial? (.ref x) (Str.ofString "__bool__")) (wpAny_bind (wpAny_bind (I.type.here ((PySem.W.looks_findIn X hb).here (wpAny_pure ?_)))))
  refine wpAny_bind (wpAny_bind (I.type.here ((PySem.W.looks_findIn X hl).here ?_)))
  show wpAny _ _ (if (some (Value.ref f)).isNone = true then _ else _) _ _ _
  rw [if_neg (by simp)]
  refine wpAny_bind (wpAny_runValue (codeAny_builtin PySem.entry_len ?_))
  rw [Around.under_plainId (by decide +kernel) _]
  unfold Builtin.«len»
  refine wpAny_bind (m := oneArg "len" _) (wpAny_pure ?_)
  refine wpAny_bind (m := callSpecial? (.ref x) (Str.ofString "__len__")) (PySem.W.special_fn X I hl (beq_iff_eq.mp hf) (wpAny_mono h (fun r s' hr => ?_) fun _ _ y => y))
  cases r <;> first | exact hr.elim | skip
  rename_i n u
  obtain ⟨⟨h0, h1⟩, hq⟩ := hr
  refine wpAny_bind (wpAny_holding (wpAny_pure ?_))
  refine wpAny_bind (wpAny_letGo ?_)
  show wpAny _ _ (if n < 0 then _ else _) _ _ _
  rw [if_neg (by omega)]
  show wpAny _ _ (if n ≥ 2 ^ 63 then _ else _) _ _ _
  rw [if_neg (by omega)]
  exact wpAny_bind (wpAny_mkInt (wpAny_pure (wpAny_pure hq)))
end
end Su
/-! ### DB: bool of an instance with a length -/
namespace Su
open PySem PySem.Spec PyProof.Rows L2 Builtin
section
variable {prog : Program} {w : World} {A : Around} {E : Value → Shared → Prop} {s : Shared} {K : PySem.W.Frag} {x C f : Addr} {ox : Obj} {od : Option Obj}
theorem bool_own {Q : Value → Shared → Prop} (X : K.In s.heap) (I : PySem.W.InstAt s.heap x ox C od) (hb : PySem.W.findIn K (.ref C) "__bool__" = some none) (hl : PySem.W.findIn K (.ref C) "__len__" = some (some (.ref f))) (hf : PySem.W.isFn K (.ref f) = true)
    (h : wpAny (model prog w) A.in1.in1.in1 (call (.ref f) [.ref x]) (LenTru (fun b s' => Q (.bool b) s')) E s) : wpAny (model prog w) A (call (.type "bool") [.ref x]) Q E s := by
  refine callType_codes (T := "bool") (Bi := Builtin.«object.__init__») (Q₁ := fun r s₁ => ∃ b, r = .bool b ∧ Q r s₁) PySem.F.called_bool (PySem.F.typeCall_bool_1 _) PySem.F.entry_object_init ?_ ?_
  · refine codeAny_of_tree ?_
    show wpAny _ A.in1.in1 (do checkBuiltinCall "bool.__new__" ⟨[.type "bool", .ref x], []⟩; again (.builtin "bool.__new__" ⟨[.type "bool", .ref x], []⟩)) _ _ s
    refine wpAny_bind (wpAny_of_eq (PySem.F.newCall_bool_1 _) (wpAny_pure ⟨plainId_quiet (by decide +kernel) _, codeAny_builtin PySem.F.entry_bool_new ?_⟩))
    rw [Around.under_plainId (by decide +kernel) _]
    have f1 := PySem.F.conv_sub_bool
    have tl : ∀ {R : Bool → Shared → Prop}, (∀ b s', Q (.bool b) s' → R b s') → wpAny (model prog w) A.in1.in1 (truthy (.ref x)) R E s := fun {R} hr => truthy_len X I hb hl hf (wpAny_mono h (fun v s' z => by
      cases v <;> first | exact z.elim | exact ⟨z.1, hr _ _ z.2⟩) fun _ _ y => y)
    obtain ⟨hp, g, d, tk, os⟩ := s
    unfold Builtin.«bool.__new__»
    repeat (any_goals (first | assumption | (refine wpAny_bind (tl fun b s' hq => ?_)) | wp_step))
    all_goals first | exact ⟨_, rfl, hq⟩ | skip
  · rintro obj s₁ ⟨b, rfl, hq⟩
    have ty : s₁.TypeIs (.bool b) "bool" := PyProof.Rows.typeIs_bool _ _
    exact ⟨ty, PySem.F.args_object_init_2 _ _, object_init_meets PySem.F.called_bool.init.lookup PySem.F.called_bool.made (by decide) prog w A.in1 _ s₁ ⟨ty, rfl, hq⟩⟩
end
section
variable {X : Cx} {k j : Nat} {C : Addr} {sp : Sp}
/-- bool(x), x an instance without __bool__, by its length -/
def rBoolI (C : Addr) (sp : Sp) : List V → Hp → VK → Prop := fun xs H Q => ∃ (a dx : Addr) (fs : List (Str × V)), xs = [.ref a] ∧ H a = some (.ins C dx fs) ∧ sp [.ref a] H (fun v H' => ∃ n : Int, v = .int n ∧ (0 ≤ n ∧ n < 2 ^ 63) ∧ Q (.bl (n != 0)) H') E0
theorem call_boolI (M : MetD X.prog X.w X.K X.mg X.base k C "__len__" sp) (nb : PySem.W.findIn X.K (.ref C) "__bool__" = some none) (hg : X.A.guards = some []) (hr : Room j X.A) (hk : k + 3 ≤ j) : CallR X (.type "bool") (rBoolI C sp) := by
  intro pins s σ H xs us Q I r h
  obtain ⟨a, dx, fs, rfl, ea, hsp⟩ := h
  obtain ⟨f, fd, hs, hf, F, hb⟩ := M.ex
  rw [Vals.ref1 r]
  obtain ⟨mA, J, _⟩ := ins_get I.hok ea
  obtain ⟨od, J, _⟩ := J.look
  have sb : Sub X (k + 3) X.A := ⟨hr.mono hk, rfl⟩
  refine bool_own I.kIn J nb hs hf ?_
  refine wpAny_mono (run_fnG sb.in1.in1.in1 hg F hb I (vs := [.ref a]) (.cons rfl .nil) hsp) (fun u s' z => ?_) (fun _ _ z => z)
  obtain ⟨v, H', I', rv, n, rfl, h01, q⟩ := z
  obtain ⟨t, rfl⟩ := rv
  exact ⟨h01, .bl (n != 0), H', I'.tok _, rfl, q⟩
end
end Su
/-! ### EQ: == and != by an own __eq__, whatever it answers, and what it is compared with -/
namespace Su
open PySem PySem.Spec PyProof.Rows L2
/-- an own == of the class at C -/
structure MetE (P : Program) (w : World) (K : PySem.W.Frag) (mg : Str → Option Value) (base : Heap) (k : Nat) (C : Addr) (sp : Sp) : Prop where
  ex : ∃ (f : Addr) (fd : FuncData), PySem.W.findIn K (.ref C) "__eq__" = some (some (.ref f)) ∧ PySem.W.isFn K (.ref f) = true ∧ FnOk P w K mg base CX0 k f fd ["self", "other"] sp ∧ Binds K fd ["self", "other"] []
  ne : PySem.W.findIn K (.ref C) "__ne__" = some (some (.builtin "object.__ne__"))
  ob : PySem.W.subIn K (.ref C) (.type "object") = some true
  no : PySem.W.subIn K (.type "NoneType") (.ref C) = some false ∧ PySem.W.subIn K (.type "int") (.ref C) = some false ∧ PySem.W.subIn K (.type "bool") (.ref C) = some false ∧ PySem.W.subIn K (.type "str") (.ref C) = some false ∧ PySem.W.subIn K (.type "tuple") (.ref C) = some false ∧ PySem.W.subIn K (.type "list") (.ref C) = some false ∧ PySem.W.subIn K (.type "dict") (.ref C) = some false
  nb : PySem.W.subIn K (.ref C) (.type "NoneType") = some false ∧ PySem.W.subIn K (.ref C) (.type "int") = some false ∧ PySem.W.subIn K (.ref C) (.type "bool") = some false ∧ PySem.W.subIn K (.ref C) (.type "str") = some false ∧ PySem.W.subIn K (.ref C) (.type "tuple") = some false ∧ PySem.W.subIn K (.ref C) (.type "list") = some false ∧ PySem.W.subIn K (.ref C) (.type "dict") = some false
def isT (T : String) : Prop := T = "NoneType" ∨ T = "int" ∨ T = "bool" ∨ T = "str" ∨ T = "tuple" ∨ T = "list" ∨ T = "dict"
section
variable {X : Cx} {k j : Nat} {f C : Addr} {fd : FuncData} {ps : List Str} {sp : Sp}
theorem run_fnO {A : Around} {pins : List (Addr × Obj)} {σ : L2.St} {H : Hp} {s : Shared} {Q : VK} {us : List Value} {vs : List V} (sb : Sub X k A) (F : FnOk X.prog X.w X.K X.mg X.base CX0 k f fd ps sp) (hb : Binds X.K fd ps [])
    (I : Inv X pins σ H s) (r : Vals vs us) (h : sp vs H Q E0) : wpAny (model X.prog X.w) A (call (.ref f) us) (EP X pins σ Q) X.xe s := by
  have e0 : Env0 X.prog X.w X.K X.mg X.base A X.stack s H := by
    have e := I.env0
    exact ⟨by rw [sb.fr]; exact e.frames, e.mod, e.bs, e.bsz, e.funs, e.frf, e.hok, e.bare⟩
  have hl : us.length = ps.length := by rw [← r.length]; exact F.len _ _ _ _ h
  refine wpAny_call (codeAny_mono (F.run A X.stack s H ⟨us, []⟩ us vs Q E0 sb.room e0 (by
    have := hb s us I.kIn (by simpa using hl)
    simpa using this) r h) fun r s' hq => ?_)
  cases r with
  | error e => exact False.elim hq
  | ok fl =>
    cases fl with
    | ret u => exact I.after hq
    | next => exact False.elim hq
    | brk => exact False.elim hq
    | cont => exact False.elim hq
/-- what an instance of the class at C is compared with -/
def TyN (K : PySem.W.Frag) (H : Hp) (C : Addr) (y : V) : Prop := (∃ b d fs, y = .ref b ∧ H b = some (.ins C d fs)) ∨ ∃ T : String, isT T ∧ TyX K H y (.type T)
theorem MetE.sub {P : Program} {w : World} {K : PySem.W.Frag} {mg : Str → Option Value} {base : Heap} (M : MetE P w K mg base k C sp) {T : String} (h : isT T) : PySem.W.subIn K (.type T) (.ref C) = some false := by
  obtain ⟨n1, n2, n3, n4, n5, n6, n7⟩ := M.no
  rcases h with rfl | rfl | rfl | rfl | rfl | rfl | rfl <;> assumption
theorem MetE.sub' {P : Program} {w : World} {K : PySem.W.Frag} {mg : Str → Option Value} {base : Heap} (M : MetE P w K mg base k C sp) {T : String} (h : isT T) : PySem.W.subIn K (.ref C) (.type T) = some false := by
  obtain ⟨n1, n2, n3, n4, n5, n6, n7⟩ := M.nb
  rcases h with rfl | rfl | rfl | rfl | rfl | rfl | rfl <;> assumption
theorem tyN_looks {pins : List (Addr × Obj)} {σ : L2.St} {H : Hp} {s : Shared} {y : V} {u : Value} (M : MetE X.prog X.w X.K X.mg X.base k C sp) (I : Inv X pins σ H s) (ry : RelV y u) (ty : TyN X.K H C y) :
    ∃ tb, PySem.W.Looks (model X.prog X.w) s.heap (typeOf u) tb ∧ PySem.W.notFirst X.K C tb = true := by
  rcases ty with ⟨b, d, fs, rfl, hb⟩ | ⟨T, hT, ty⟩
  · cases ry
    obtain ⟨mB, J', _⟩ := ins_get I.hok hb
    obtain ⟨od', J', _⟩ := J'.look
    exact ⟨.ref C, J'.type, by simp [PySem.W.notFirst]⟩
  · obtain ⟨Pr, kx, hp, _⟩ := kit_of I ry ty
    refine ⟨.type T, kx.ty _ _ I.kIn hp, ?_⟩
    unfold PySem.W.notFirst
    rw [M.sub hT]
    simp
def rEqO (K : PySem.W.Frag) (C : Addr) (sp : Sp) : R2 := fun x y H Q => ∃ (a dx : Addr) (fs : List (Str × V)), x = .ref a ∧ H a = some (.ins C dx fs) ∧ TyN K H C y ∧ sp [x, y] H (fun v H' => ∃ b, v = .bl b ∧ Q (.bl b) H') E0
/-- the own ==, run inside -/
theorem rc_eqO {A : Around} {pins : List (Addr × Obj)} {σ : L2.St} {H : Hp} {s : Shared} {Q : VK} {x y : V} {v u : Value} (M : MetE X.prog X.w X.K X.mg X.base k C sp) (sb : Sub X k A) (I : Inv X pins σ H s) (rx : RelV x v) (ry : RelV y u) (h : rEqO X.K C sp x y H Q) :
    wpAny (model X.prog X.w) A (richCompare .Eq v u) (fun r s' => ∃ b, r = .bool b ∧ ∃ H', Inv X pins σ H' s' ∧ Q (.bl b) H') X.xe s := by
  obtain ⟨a, dx, fs, rfl, ha, ty, hsp⟩ := h
  obtain ⟨f, fd, hs, hf, F, hb⟩ := M.ex
  cases rx
  obtain ⟨tb, lk, nf⟩ := tyN_looks M I ry ty
  obtain ⟨mA, J, _⟩ := ins_get I.hok ha
  obtain ⟨od, J, _⟩ := J.look
  obtain ⟨m, hF⟩ := I.fr
  refine PySem.W.cmp_K (op := .Eq) (tb := tb) sb.room.units0 hF I.ok.mod.kin J lk nf hs hf ?_
  refine wpAny_mono (run_fnO sb F hb I (vs := [.ref a, y]) (.cons rfl (.cons ry .nil)) hsp) (fun w s' z => ?_) (fun _ _ z => z)
  obtain ⟨z, H', I', rz, b, rfl, q⟩ := z
  cases rz
  exact ⟨b, rfl, H', I', q⟩
theorem op_eqO (M : MetE X.prog X.w X.K X.mg X.base k C sp) (hr : Room j X.A) (hk : k ≤ j) : OpR X (compareOp .Eq) (rEqO X.K C sp) := by
  intro pins s σ H x y v u Q I rx ry h
  show wpAny (model X.prog X.w) X.A (richCompare .Eq v u) (EP X pins σ Q) X.xe s
  refine wpAny_mono (rc_eqO M ⟨hr.mono hk, rfl⟩ I rx ry h) (fun r s' z => ?_) (fun _ _ z => z)
  obtain ⟨b, rfl, H', I', q⟩ := z
  exact ⟨.bl b, H', I', rfl, q⟩
theorem ifBound_B {prog : Program} {w : World} {A : Around} {E : Value → Shared → Prop} {s : Shared} {K : PySem.W.Frag} {x C : Addr} {ox : Obj} {od : Option Obj} {name : Str} {id : String} {args : List Value} {Q : Option Value → Shared → Prop} (X : K.In s.heap) (I : PySem.W.InstAt s.heap x ox C od) (hs : PySem.W.findIn K (.ref C) name = some (some (.builtin id))) (hb : ∀ self, bindSpecial (.builtin id) self = pure (.builtin id, [self]))
    (h : wpAny (model prog w) A (call (.builtin id) (.ref x :: args)) (fun v => Q (some v)) E s) : wpAny (model prog w) A (callSpecialIfBound? (.ref x) name args) Q E s := by
  simp only [callSpecialIfBound?, bindSpecialIfBound?]
  refine wpAny_holding (wpAny_bind (wpAny_bind (wpAny_bind (I.type.here ((PySem.W.looks_findIn X hs).here ?_)))))
  refine wpAny_bind (wpAny_askSetting (wpAny_ite ?_))
  have fin : wpAny (model prog w) A (call (.builtin id) ([.ref x] ++ args) >>= fun v => pure (some v)) Q E s := wpAny_bind (wpAny_mono h (fun v s' h' => wpAny_pure h') fun _ _ h' => h')
  simp only [hb]
  split
  · exact wpAny_bind (wpAny_pure (wpAny_pure fin))
  · exact wpAny_tryCatch (wpAny_bind (wpAny_pure (wpAny_pure fin)))
theorem objNe_K {prog : Program} {w : World} {A : Around} {E : Value → Shared → Prop} {s : Shared} {K : PySem.W.Frag} {x C f : Addr} {ox : Obj} {od : Option Obj} {b : Value} {Q : Fin → Shared → Prop} (X : K.In s.heap) (I : PySem.W.InstAt s.heap x ox C od) (hu : A.units < cLine) (hs : PySem.W.findIn K (.ref C) "__eq__" = some (some (.ref f))) (hf : PySem.W.isFn K (.ref f) = true)
    (hcall : wpAny (model prog w) A (call (.ref f) [.ref x, b]) (fun v s' => ∃ r, v = .bool r ∧ Q (.done (.ret (.bool (!r)))) s') E s) :
    wpAny (model prog w) A (Builtin.«object.__ne__» ⟨[.ref x, b], []⟩) Q E s := by
  unfold Builtin.«object.__ne__»
  repeat (first
    | with_reducible refine wpAny_cRoomFor hu ?_
    | (refine wpAny_bind (m := callSpecialIfBound? (.ref x) (Str.ofString "__eq__") [b])
        (PySem.W.ifBound_K X I hs hf (wpAny_mono hcall (fun r s' hr => by
          obtain ⟨b, rfl, hq⟩ := hr
          repeat (first | exact hq | exact wpAny_pure hq | exact wpAny_truthy_bool hq | (refine wpAny_bind (m := truthy (.bool _)) (wpAny_truthy_bool ?_)) | wp_step)) fun _ _ e => e)))
    | wp_step)
theorem cmp_neK {prog : Program} {w : World} {A : Around} {E : Value → Shared → Prop} {s : Shared} {K : PySem.W.Frag} {x C f : Addr} {ox : Obj} {od : Option Obj} {b tb : Value} {Q : Value → Shared → Prop} (hu : A.units + 1 < cLine) (X : K.In s.heap) (I : PySem.W.InstAt s.heap x ox C od) (hb : PySem.W.Looks (model prog w) s.heap (typeOf b) tb) (hn : PySem.W.notFirst K C tb = true)
    (hs : PySem.W.findIn K (.ref C) "__eq__" = some (some (.ref f))) (hf : PySem.W.isFn K (.ref f) = true) (hne : PySem.W.findIn K (.ref C) "__ne__" = some (some (.builtin "object.__ne__"))) (ho : PySem.W.subIn K (.ref C) (.type "object") = some true)
    (hcall : wpAny (model prog w) A.in1 (call (.ref f) [.ref x, b]) (fun v s' => ∃ r, v = .bool r ∧ Q (.bool (!r)) s') E s) : wpAny (model prog w) A (richCompare .NotEq (.ref x) b) Q E s := by
  have one : wpAny (model prog w) A (tryCompare (.ref x) "__ne__" b) (fun r s' => ∃ v, r = some v ∧ Q v s') E s := by
    unfold tryCompare
    refine wpAny_bind (ifBound_B X I hne (fun self => PySem.F.slot_object_ne.bind self) ?_)
    have t2 : PySem.W.Looks (model prog w) s.heap (isInstance (.ref x) (.type "object")) true := I.type.andThen (PySem.W.looks_subIn X ho)
    refine wpAny_call (codeAny_call_builtin PySem.F.slot_object_ne.plain PySem.F.entry_object_ne (@PySem.W.check_slot (model prog w) _ _ _ "object.__ne__" "object" "__ne__" (.ref x) [b] [] _ PySem.F.cmpKind_ne PySem.F.cmpSplit_ne t2 (PySem.F.cmpArgs_ne _ _) ?_))
    refine objNe_K (A := A.in1) X I hu hs hf (wpAny_mono hcall (fun v s' hv => ?_) fun _ _ e => e)
    obtain ⟨r, rfl, hq⟩ := hv
    exact ⟨r, rfl, wpAny_pure ⟨_, rfl, hq⟩⟩
  unfold richCompare
  simp only [oneThing_ref]
  refine wpAny_holding (wpAny_bind (wpAny_cRoomFor (Nat.lt_of_succ_lt hu) ?_))
  rw [cmpInfo_NotEq]
  dsimp only
  refine wpAny_bind (I.type.here (wpAny_bind (hb.here ?_)))
  split
  · rename_i q
    have e : PySem.W.subIn K tb (.ref C) = some false := by
      rcases Bool.or_eq_true_iff.mp hn with e | e
      · rw [beq_iff_eq.mp e] at q; simp at q
      · exact beq_iff_eq.mp e
    refine wpAny_bind ((PySem.W.looks_subIn X e).here ?_)
    simp only [Bool.false_eq_true, if_false]
    refine wpAny_bind (wpAny_mono one (fun r s' z => ?_) fun _ _ e => e)
    obtain ⟨v, rfl, hq⟩ := z
    exact wpAny_pure hq
  · refine wpAny_bind (wpAny_pure ?_)
    simp only [Bool.false_eq_true, if_false]
    refine wpAny_bind (wpAny_mono one (fun r s' z => ?_) fun _ _ e => e)
    obtain ⟨v, rfl, hq⟩ := z
    exact wpAny_pure hq
def rNeO (K : PySem.W.Frag) (C : Addr) (sp : Sp) : R2 := fun x y H Q => ∃ (a dx : Addr) (fs : List (Str × V)), x = .ref a ∧ H a = some (.ins C dx fs) ∧ TyN K H C y ∧ sp [x, y] H (fun v H' => ∃ b, v = .bl b ∧ Q (.bl (!b)) H') E0
theorem op_neO (M : MetE X.prog X.w X.K X.mg X.base k C sp) (hr : Room j X.A) (hk : k + 1 ≤ j) : OpR X (compareOp .NotEq) (rNeO X.K C sp) := by
  intro pins s σ H x y v u Q I rx ry h
  show wpAny (model X.prog X.w) X.A (richCompare .NotEq v u) (EP X pins σ Q) X.xe s
  obtain ⟨a, dx, fs, rfl, ha, ty, hsp⟩ := h
  obtain ⟨f, fd, hs, hf, F, hb⟩ := M.ex
  cases rx
  obtain ⟨tb, lk, nf⟩ := tyN_looks M I ry ty
  obtain ⟨mA, J, _⟩ := ins_get I.hok ha
  obtain ⟨od, J, _⟩ := J.look
  have sb : Sub X (k + 1) X.A := ⟨hr.mono hk, rfl⟩
  refine cmp_neK (by have := sb.room.units; omega) I.kIn J lk nf hs hf M.ne M.ob ?_
  refine wpAny_mono (run_fnO sb.in1 F hb I (vs := [.ref a, y]) (.cons rfl (.cons ry .nil)) hsp) (fun w s' z => ?_) (fun _ _ z => z)
  obtain ⟨z, H', I', rz, b, rfl, q⟩ := z
  cases rz
  exact ⟨b, rfl, .bl (!b), H', I', rfl, q⟩
end
end Su
/-! ### EQ2: other things compared with an instance: they decline, and its own == is asked -/
namespace Su
open PySem PySem.Spec PyProof.Rows L2
theorem none_eq_ins (x : Addr) : Meets (Builtin.«NoneType.__eq__» ⟨[.none, .ref x], []⟩) (fun _ R s => R (.ok (.ret .notImplemented)) s) :=
  .of_wp fun prog w A R s h => by obtain ⟨hp, g, d, tk, os⟩ := s; wp_walk; exact ⟨_, rfl, h⟩
theorem int_eq_ins (v : Value) (hv : (∃ b, v = .bool b) ∨ ∃ i t, v = .int i t) (x C dx : Addr) : Meets (Builtin.«int.__eq__» ⟨[v, .ref x], []⟩) (fun _ R s => s.heap.get? x = some (PySem.W.instObj C dx) ∧ R (.ok (.ret .notImplemented)) s) :=
  .of_wp fun prog w A R s h => by
    obtain ⟨hp, g, d, tk, os⟩ := s
    obtain ⟨hl, h⟩ := h
    unfold PySem.W.instObj at hl
    rcases hv with ⟨b, rfl⟩ | ⟨i, t, rfl⟩
    · wp_walk using wpAny_loadPart' hl, wpAny_load hl
      exact ⟨_, rfl, h⟩
    · wp_walk using wpAny_loadPart' hl, wpAny_load hl
      exact ⟨_, rfl, h⟩
theorem str_eq_ins (b : Str) (u : Tok) (x C dx : Addr) : Meets (Builtin.«str.__eq__» ⟨[.str b u, .ref x], []⟩) (fun _ R s => s.heap.get? x = some (PySem.W.instObj C dx) ∧ R (.ok (.ret .notImplemented)) s) :=
  .of_wp fun prog w A R s h => by
    obtain ⟨hp, g, d, tk, os⟩ := s
    obtain ⟨hl, h⟩ := h
    unfold PySem.W.instObj at hl
    wp_walk using wpAny_loadPart' hl, wpAny_load hl
    exact ⟨_, rfl, h⟩
section
variable {K : PySem.W.Frag}
theorem list_eq_ins (l x C dx : Addr) (hs : PySem.W.subIn K (.ref C) (.type "list") = some false) : Meets (Builtin.«list.__eq__» ⟨[.ref l, .ref x], []⟩) (fun _ R s => K.In s.heap ∧ s.heap.get? x = some (PySem.W.instObj C dx) ∧ R (.ok (.ret .notImplemented)) s) :=
  .of_wp fun prog w A R s h => by
    obtain ⟨hp, g, d, tk, os⟩ := s
    obtain ⟨X, hl, h⟩ := h
    have lk := PySem.W.looks_subIn (M := model prog w) X hs
    unfold PySem.W.instObj at hl
    wp_walk using wpAny_loadPart' hl, wpAny_load hl, lk.here
    exact ⟨_, rfl, h⟩
theorem tuple_eq_ins (l x C dx : Addr) (hs : PySem.W.subIn K (.ref C) (.type "tuple") = some false) : Meets (Builtin.«tuple.__eq__» ⟨[.ref l, .ref x], []⟩) (fun _ R s => K.In s.heap ∧ s.heap.get? x = some (PySem.W.instObj C dx) ∧ R (.ok (.ret .notImplemented)) s) :=
  .of_wp fun prog w A R s h => by
    obtain ⟨hp, g, d, tk, os⟩ := s
    obtain ⟨X, hl, h⟩ := h
    have lk := PySem.W.looks_subIn (M := model prog w) X hs
    unfold PySem.W.instObj at hl
    wp_walk using wpAny_loadPart' hl, wpAny_load hl, lk.here
    exact ⟨_, rfl, h⟩
theorem dict_eq_ins (l x C dx : Addr) (hs : PySem.W.subIn K (.ref C) (.type "dict") = some false) : Meets (Builtin.«dict.__eq__» ⟨[.ref l, .ref x], []⟩) (fun _ R s => K.In s.heap ∧ s.TypeIs (.ref l) "dict" ∧ s.heap.get? x = some (PySem.W.instObj C dx) ∧ R (.ok (.ret .notImplemented)) s) :=
  .of_wp fun prog w A R s h => by
    obtain ⟨hp, g, d, tk, os⟩ := s
    obtain ⟨X, ⟨o, ho, hc⟩, hl, h⟩ := h
    have lk := PySem.W.looks_subIn (M := model prog w) X hs
    unfold PySem.W.instObj at hl
    wp_walk using wpAny_loadPart' hl, wpAny_load hl, lk.here, wpAny_loadPart' ho
    exact ⟨_, rfl, h⟩
theorem cmp_backK {prog : Program} {w : World} {A : Around} {E : Value → Shared → Prop} {s : Shared} {x C f : Addr} {ox : Obj} {od : Option Obj} {y : Value} {T id : String} {Q : Value → Shared → Prop} (hu : A.units < cLine) (X : K.In s.heap) (I : PySem.W.InstAt s.heap x ox C od) (hT : s.TypeIs y T) (hsub : PySem.W.subIn K (.ref C) (.type T) = some false)
    (slot : Slot T (cmpInfo .Eq).2.1 id) (hc : ∀ Q : Value → Shared → Prop, Q .notImplemented s → wpAny (model prog w) A (call (.builtin id) [y, .ref x]) Q E s) (hs : PySem.W.findIn K (.ref C) "__eq__" = some (some (.ref f))) (hf : PySem.W.isFn K (.ref f) = true)
    (h : wpAny (model prog w) A (call (.ref f) [.ref x, y]) (PySem.W.CmpBack Q) E s) : wpAny (model prog w) A (richCompare .Eq y (.ref x)) Q E s := by
  have one : wpAny (model prog w) A (tryCompare (.ref x) "__eq__" y) (fun r s' => ∃ v, r = some v ∧ Q v s') E s := by
    unfold tryCompare
    refine wpAny_bind (PySem.W.ifBound_K X I hs hf (wpAny_mono h (fun v s' hv => ?_) fun _ _ e => e))
    cases v <;> first | exact hv.elim | exact wpAny_pure ⟨_, rfl, hv⟩
  rcases hi : cmpInfo .Eq with ⟨sym, nf, nr⟩
  rw [hi] at slot
  have e1 : nr = "__eq__" := by
    have := congrArg (fun z => z.2.2) hi
    exact this.symm
  have ne : (Value.type T != Value.ref C) = true := by simp
  simp only [richCompare, hi, hT.oneThing_none]
  refine wpAny_holding ?_
  refine wpAny_bind (wpAny_cRoomFor hu ?_)
  refine wpAny_bind (wpAny_typeOf hT (wpAny_bind (I.type.here ?_)))
  simp only [ne, if_true]
  refine wpAny_bind ((PySem.W.looks_subIn X hsub).here ?_)
  simp only [Bool.false_eq_true, if_false, Bool.not_false, if_true]
  refine wpAny_bind (m := tryCompare y _ (.ref x)) (wpAny_tryCompare_declines hT slot (hc _ ⟨rfl, ?_⟩))
  refine wpAny_bind (m := tryCompare (.ref x) _ y) ?_
  rw [e1]
  refine wpAny_mono one (fun r s' z => ?_) fun _ _ e => e
  obtain ⟨v, rfl, hq⟩ := z
  exact wpAny_pure hq
end
/-- what isn't an instance -/
def OddT (H : Hp) (y : V) : Prop := y = .non ∨ (∃ b, y = .bl b) ∨ (∃ i, y = .int i) ∨ (∃ t, y = .str t) ∨ (∃ c xs, y = .ref c ∧ H c = some (.lst xs)) ∨ (∃ c xs, y = .ref c ∧ PTup H c xs) ∨ ∃ c kvs, y = .ref c ∧ H c = some (.dK kvs)
theorem OddT.ty {K : PySem.W.Frag} {H : Hp} {y : V} (h : OddT H y) : ∃ T, isT T ∧ TyX K H y (.type T) := by
  rcases h with rfl | ⟨b, rfl⟩ | ⟨i, rfl⟩ | ⟨t, rfl⟩ | ⟨c, xs, rfl, e⟩ | ⟨c, xs, rfl, ob, e, _⟩ | ⟨c, kvs, rfl, e⟩
  · exact ⟨_, .inl rfl, .base .non⟩
  · exact ⟨_, .inr (.inr (.inl rfl)), .base (.bl b)⟩
  · exact ⟨_, .inr (.inl rfl), .base (.int i)⟩
  · exact ⟨_, .inr (.inr (.inr (.inl rfl))), .base (.str t)⟩
  · exact ⟨_, .inr (.inr (.inr (.inr (.inr (.inl rfl))))), .base (.lst e)⟩
  · exact ⟨_, .inr (.inr (.inr (.inr (.inl rfl)))), .fTuple e⟩
  · exact ⟨_, .inr (.inr (.inr (.inr (.inr (.inr rfl))))), .base (.dK e)⟩
def rEqB (C : Addr) (sp : Sp) : R2 := fun y x H Q => ∃ (a dx : Addr) (fs : List (Str × V)), x = .ref a ∧ H a = some (.ins C dx fs) ∧ OddT H y ∧ sp [x, y] H (fun v H' => ∃ b, v = .bl b ∧ Q (.bl b) H') E0
theorem op_eqB {X : Cx} {k j : Nat} {C : Addr} {sp : Sp} (M : MetE X.prog X.w X.K X.mg X.base k C sp) (hr : Room j X.A) (hk : k ≤ j) : OpR X (compareOp .Eq) (rEqB C sp) := by
  intro pins s σ H y x u v Q I ry rx h
  show wpAny (model X.prog X.w) X.A (richCompare .Eq u v) (EP X pins σ Q) X.xe s
  obtain ⟨a, dx, fs, rfl, ha, od, hsp⟩ := h
  obtain ⟨f, fd, hs, hf, F, hb⟩ := M.ex
  cases rx
  have hob := (show ObjOk X.prog X.w H s.heap a (.ins C dx fs) from I.hok a _ ha).2.2.2.1
  obtain ⟨mA, J, _⟩ := ins_get I.hok ha
  obtain ⟨od', J, _⟩ := J.look
  have sb : Sub X k X.A := ⟨hr.mono hk, rfl⟩
  have fin : wpAny (model X.prog X.w) X.A (call (.ref f) [.ref a, u]) (PySem.W.CmpBack (EP X pins σ Q)) X.xe s := by
    refine wpAny_mono (run_fnO sb F hb I (vs := [.ref a, y]) (.cons rfl (.cons ry .nil)) hsp) (fun w s' z => ?_) (fun _ _ z => z)
    obtain ⟨z, H', I', rz, b, rfl, q⟩ := z
    cases rz
    exact ⟨.bl b, H', I', rfl, q⟩
  have un := sb.room.units0
  rcases od with rfl | ⟨b, rfl⟩ | ⟨i, rfl⟩ | ⟨t, rfl⟩ | ⟨c, xs, rfl, e⟩ | ⟨c, xs, rfl, ob, e, _⟩ | ⟨c, kvs, rfl, e⟩
  · cases ry
    exact cmp_backK un I.kIn J (T := "NoneType") rfl (M.sub' (.inl rfl)) PySem.F.slot_NoneType_eq (fun Q hq => call_meets PySem.F.slot_NoneType_eq rfl PySem.F.entry_NoneType_eq (PySem.F.args_NoneType_eq_2 _ _) (none_eq_ins a) hq) hs hf fin
  · cases ry
    exact cmp_backK un I.kIn J (T := "bool") rfl (M.sub' (.inr (.inr (.inl rfl)))) PySem.F.slot_bool_eq (fun Q hq => call_meets PySem.F.slot_bool_eq rfl PySem.F.entry_int_eq (PySem.F.args_int_eq_2 _ _) (int_eq_ins _ (.inl ⟨b, rfl⟩) a C dx) ⟨hob, hq⟩) hs hf fin
  · obtain ⟨tk, rfl⟩ := ry
    exact cmp_backK un I.kIn J (T := "int") rfl (M.sub' (.inr (.inl rfl))) PySem.F.slot_int_eq (fun Q hq => call_meets PySem.F.slot_int_eq rfl PySem.F.entry_int_eq (PySem.F.args_int_eq_2 _ _) (int_eq_ins _ (.inr ⟨i, tk, rfl⟩) a C dx) ⟨hob, hq⟩) hs hf fin
  · obtain ⟨tk, rfl⟩ := ry
    exact cmp_backK un I.kIn J (T := "str") rfl (M.sub' (.inr (.inr (.inr (.inl rfl))))) PySem.F.slot_str_eq (fun Q hq => call_meets PySem.F.slot_str_eq rfl PySem.F.entry_str_eq (PySem.F.args_str_eq_2 _ _) (str_eq_ins _ _ a C dx) ⟨hob, hq⟩) hs hf fin
  · cases ry
    obtain ⟨_, its, n, _, h1⟩ := (show ObjOk X.prog X.w H s.heap c (.lst xs) from I.hok c _ e)
    have hT : s.TypeIs (.ref c) "list" := ⟨_, h1, rfl⟩
    exact cmp_backK un I.kIn J hT (M.sub' (.inr (.inr (.inr (.inr (.inr (.inl rfl))))))) PySem.F.slot_list_eq (fun Q hq => call_meets PySem.F.slot_list_eq hT PySem.F.entry_list_eq (PySem.F.args_list_eq_2 _ _) (list_eq_ins (K := X.K) c a C dx (M.sub' (.inr (.inr (.inr (.inr (.inr (.inl rfl)))))))) ⟨I.kIn, hob, hq⟩) hs hf fin
  · cases ry
    obtain ⟨its, r, ⟨o, h1, h2, _⟩, _⟩ := I.tuple (PTup.sq (K := X.K) ⟨ob, e, by assumption⟩)
    have hT : s.TypeIs (.ref c) "tuple" := ⟨_, h1, h2⟩
    exact cmp_backK un I.kIn J hT (M.sub' (.inr (.inr (.inr (.inr (.inl rfl)))))) PySem.F.slot_tuple_eq (fun Q hq => call_meets PySem.F.slot_tuple_eq hT PySem.F.entry_tuple_eq (PySem.F.args_tuple_eq_2 _ _) (tuple_eq_ins (K := X.K) c a C dx (M.sub' (.inr (.inr (.inr (.inr (.inl rfl))))))) ⟨I.kIn, hob, hq⟩) hs hf fin
  · cases ry
    obtain ⟨_, _, vs, _, dd⟩ := dk_of I.hok e
    exact cmp_backK un I.kIn J dd.typeIs (M.sub' (.inr (.inr (.inr (.inr (.inr (.inr rfl))))))) PySem.F.slot_dict_eq (fun Q hq => call_meets PySem.F.slot_dict_eq dd.typeIs PySem.F.entry_dict_eq (PySem.F.args_dict_eq_2 _ _) (dict_eq_ins (K := X.K) c a C dx (M.sub' (.inr (.inr (.inr (.inr (.inr (.inr rfl)))))))) ⟨I.kIn, dd.typeIs, hob, hq⟩) hs hf fin
end Su
/-! ### EQ3: [x] == [y], by an own == of x -/
namespace Su
open PySem PySem.Spec PyProof.Rows L2
section
open PySem.SeqAt MeetsSeq MeetsSeq2 MeetsSeq3 SeqRoads2
variable {prog : Program} {w : World} {A : Around} {R : Result → Shared → Prop}
def ListOne (s : Shared) (l : Addr) (x : Value) : Prop := ∃ n : Nat, s.heap.get? l = some { cls := .type "list", data := .seq #[x] n }
theorem loop1_end (l b : Addr) {x y : Value} {s : Shared} (hl : ListOne s l x) (hb : ListOne s b y) (fin : R (.ok (.ret (.bool true))) s) :
    wpAny (model prog w) A.in1 (Builtin.«list.__eq__.loop» ⟨[.ref l, .ref b, rawInt ((1 : Nat) : Int), rawInt 2], []⟩) (GQ.FinOf prog w A R) (fun e s' => R (.error e) s') s := by
  obtain ⟨n, hl1⟩ := hl
  obtain ⟨n2, hb1⟩ := hb
  generalize hI : (#[x] : Array Value) = its at hl1
  generalize hI2 : (#[y] : Array Value) = its2 at hb1
  obtain ⟨hp, g, d, tk, os⟩ := s
  wp_walk using AutoSeq1.wpAny_loadPart' hl1, AutoSeq1.wpAny_loadPart' hb1
  have hi1 : its[((1 : Nat) : Int).toNat]? = none := by rw [← hI]; simp
  have hi2 : its2[((1 : Nat) : Int).toNat]? = none := by rw [← hI2]; simp
  rw [hi1, hi2]
  wp_walk using AutoSeq1.wpAny_loadPart' hl1, AutoSeq1.wpAny_loadPart' hb1
  show R (.ok (.ret (.bool (its.size == its2.size)))) _
  rw [← hI, ← hI2]
  exact fin
theorem loop1 (l b : Addr) {x y : Value} {s : Shared} (hl : ListOne s l x) (hb : ListOne s b y)
    (turn : wpAny (model prog w) A.in1 (eqBool x y) (fun r s' => ListOne s' l x ∧ ListOne s' b y ∧ R (.ok (.ret (.bool r))) s') (fun e s' => R (.error e) s') s) :
    wpAny (model prog w) A.in1 (Builtin.«list.__eq__.loop» ⟨[.ref l, .ref b, rawInt ((0 : Nat) : Int), rawInt 2], []⟩) (GQ.FinOf prog w A R) (fun e s' => R (.error e) s') s := by
  obtain ⟨n, hl1⟩ := hl
  obtain ⟨n2, hb1⟩ := hb
  generalize hI : (#[x] : Array Value) = its at hl1
  generalize hI2 : (#[y] : Array Value) = its2 at hb1
  obtain ⟨hp, g, d, tk, os⟩ := s
  wp_walk using AutoSeq1.wpAny_loadPart' hl1, AutoSeq1.wpAny_loadPart' hb1
  have hi1 : its[((0 : Nat) : Int).toNat]? = some x := by rw [← hI]; simp
  have hi2 : its2[((0 : Nat) : Int).toNat]? = some y := by rw [← hI2]; simp
  have hc : (((0 : Nat) : Int) + 1) = ((1 : Nat) : Int) := by omega
  rw [hi1, hi2]
  refine wpAny_bind (wpAny_mono turn (fun r s2 h2 => ?_) fun _ _ x => x)
  obtain ⟨hl2, hb2, fin⟩ := h2
  cases r with
  | true =>
    have hrec := loop1_end (prog := prog) (w := w) (A := A) l b hl2 hb2 fin
    obtain ⟨hp2, g2, d2, tk2, os2⟩ := s2
    wp_walk
    exact ⟨plainId_quiet plain_eq_loop _, codeAny_builtin entry_eq_loop (by
      rw [Around.under_plainId plain_eq_loop _]
      exact hrec)⟩
  | false =>
    obtain ⟨n, hl3⟩ := hl2
    obtain ⟨n2, hb3⟩ := hb2
    rw [hI] at hl3
    rw [hI2] at hb3
    obtain ⟨hp2, g2, d2, tk2, os2⟩ := s2
    wp_walk using AutoSeq1.wpAny_loadPart' hl3, AutoSeq1.wpAny_loadPart' hb3
    rw [hi1, hi2]
    wp_walk
    exact fin
theorem list1_eq (l b : Addr) {x y : Value} {s : Shared} (hl : ListOne s l x) (hb : ListOne s b y)
    (turn : wpAny (model prog w) A.in1 (eqBool x y) (fun r s' => ListOne s' l x ∧ ListOne s' b y ∧ R (.ok (.ret (.bool r))) s') (fun e s' => R (.error e) s') s) :
    wpAny (model prog w) A.in1 (Builtin.«list.__eq__» ⟨[.ref l, .ref b], []⟩) (GQ.FinOf prog w A R) (fun e s' => R (.error e) s') s := by
  have hrec := loop1 (prog := prog) (w := w) (A := A) l b hl hb turn
  obtain ⟨n, hl1⟩ := hl
  obtain ⟨n2, hb1⟩ := hb
  generalize hI : (#[x] : Array Value) = its at hl1
  generalize hI2 : (#[y] : Array Value) = its2 at hb1
  have hne : ¬ (its.size != its2.size) = true := by rw [← hI, ← hI2]; simp
  obtain ⟨hp, g, d, tk, os⟩ := s
  have f3 := AutoSeq1.sub_list_list
  wp_walk using AutoSeq1.wpAny_loadPart' hl1, AutoSeq1.wpAny_loadPart' hb1
  exact ⟨plainId_quiet plain_eq_loop _, codeAny_builtin entry_eq_loop (by
    rw [Around.under_plainId plain_eq_loop _]
    exact hrec)⟩
end
def rEqL1 (K : PySem.W.Frag) (C : Addr) (sp : Sp) : R2 := fun x y H Q => ∃ (l b p q dp dq : Addr) (fs gs : List (Str × V)), x = .ref l ∧ y = .ref b ∧ H l = some (.lst [.ref p]) ∧ H b = some (.lst [.ref q]) ∧ H p = some (.ins C dp fs) ∧ H q = some (.ins C dq gs) ∧ (p = q → Q (.bl true) H) ∧
  (p ≠ q → sp [.ref p, .ref q] H (fun v H' => ∃ r, v = .bl r ∧ H' l = some (.lst [.ref p]) ∧ H' b = some (.lst [.ref q]) ∧ Q (.bl r) H') E0)
theorem lone_of {X : Cx} {pins : List (Addr × Obj)} {σ : L2.St} {H : Hp} {s : Shared} (I : Inv X pins σ H s) {l p : Addr} (h : H l = some (.lst [.ref p])) : ListOne s l (.ref p) := by
  obtain ⟨_, its, n, r, h1⟩ := (show ObjOk X.prog X.w H s.heap l (.lst [.ref p]) from I.hok l _ h)
  rw [Vals.ref1 r] at h1
  exact ⟨n, h1⟩
theorem op_eqL1 {X : Cx} {k j : Nat} {C : Addr} {sp : Sp} (M : MetE X.prog X.w X.K X.mg X.base k C sp) (hr : Room j X.A) (hk : k + 1 ≤ j) : OpR X (compareOp .Eq) (rEqL1 X.K C sp) := by
  intro pins s σ H x y v u Q I rx ry h
  show wpAny (model X.prog X.w) X.A (richCompare .Eq v u) (EP X pins σ Q) X.xe s
  obtain ⟨l, b, p, q, dp, dq, fs, gs, rfl, rfl, hl, hb, hp, hq, same, other⟩ := h
  cases rx
  cases ry
  have sb : Sub X (k + 1) X.A := ⟨hr.mono hk, rfl⟩
  have hl1 := lone_of I hl
  have hb1 := lone_of I hb
  obtain ⟨n, gl⟩ := hl1
  obtain ⟨n2, gb⟩ := hb1
  refine wpAny_richCompare_same_room (op := .Eq) ⟨_, gl, rfl⟩ ⟨_, gb, rfl⟩ PySem.F.slot_list_eq (GQ.call_here PySem.F.slot_list_eq ⟨_, gl, rfl⟩ PySem.F.entry_list_eq (PySem.F.args_list_eq_2 _ _) ?_) sb.room.units0
  refine list1_eq (R := wants (fun v s' => v ≠ .notImplemented ∧ EP X pins σ Q v s') X.xe) l b ⟨n, gl⟩ ⟨n2, gb⟩ ?_
  by_cases e : p = q
  · subst e
    exact SeqAt.EqAt.same (A := X.A.in1) (s := s) (.ref p) X.prog X.w _ _ ⟨⟨n, gl⟩, ⟨n2, gb⟩, (fun x => nomatch x), .bl true, H, I, rfl, same rfl⟩
  · refine GQ.eqBool_refG e ?_
    refine wpAny_mono (rc_eqO (Q := fun v H' => H' l = some (.lst [.ref p]) ∧ H' b = some (.lst [.ref q]) ∧ Q v H') M sb.in1 I (x := .ref p) (y := .ref q) rfl rfl ⟨p, dp, fs, rfl, hp, .inl ⟨q, dq, gs, rfl, hq⟩, ?_⟩) (fun r s' z => ?_) (fun _ _ z => z)
    · have := other e
      exact this
    · obtain ⟨rb, rfl, H', I', g1, g2, qq⟩ := z
      exact ⟨rb, rfl, lone_of I' g1, lone_of I' g2, (fun x => nomatch x), .bl rb, H', I', rfl, qq⟩
end Su
/-! ### TX2: repr of a text, and texts joined, are texts of code points -/
namespace Su
open PySem PySem.Spec PyProof.Rows L2
theorem cp_lt (c : Char) : c.toNat < 0x110000 := by
  have := c.valid
  unfold UInt32.isValidChar Nat.isValidChar at this
  show c.val.toNat < _
  omega
theorem rc_ok {q c : Nat} (hq : q < 0x110000) (hc : c < 0x110000) : ∀ x ∈ Builtin.Str.reprChar q c, x < 0x110000 := by
  have dg : ∀ (w : Nat), ∀ x ∈ (List.replicate (w - ((Nat.toDigits 16 c).map Char.toNat).length) 48 ++ (Nat.toDigits 16 c).map Char.toNat), x < 0x110000 := by
    intro w x hx
    rcases List.mem_append.mp hx with h | h
    · rw [(List.mem_replicate.mp h).2]
      decide
    · obtain ⟨d, _, rfl⟩ := List.mem_map.mp h
      exact cp_lt d
  intro x hx
  unfold Builtin.Str.reprChar at hx
  simp only at hx
  repeat' split at hx
  all_goals first
    | (simp only [List.mem_cons, List.not_mem_nil, or_false] at hx; rcases hx with rfl | rfl <;> first | assumption | decide)
    | (simp only [List.mem_cons, List.not_mem_nil, or_false] at hx; subst hx; assumption)
    | (rcases List.mem_append.mp hx with h | h
       · simp only [List.mem_cons, List.not_mem_nil, or_false] at h
         rcases h with rfl | rfl <;> decide
       · exact dg _ x h)
theorem fold_ok {f : Nat → List Nat} (hf : ∀ c, c < 0x110000 → ∀ x ∈ f c, x < 0x110000) : ∀ (l : List Nat) (acc : Array Nat), (∀ c ∈ l, c < 0x110000) → (acc.all (· < 0x110000)) = true → ((l.foldl (fun out c => out ++ (f c).toArray) acc).all (· < 0x110000)) = true
  | [], acc, _, h => h
  | c :: l, acc, hl, h => by
    rw [List.foldl_cons]
    refine fold_ok hf l _ (fun x hx => hl x (List.mem_cons_of_mem _ hx)) ?_
    rw [Array.all_append, Bool.and_eq_true]
    refine ⟨h, ?_⟩
    rw [List.all_toArray, List.all_eq_true]
    intro x hx
    exact decide_eq_true (hf c (hl c List.mem_cons_self) x hx)
theorem sok_repr {x : Str} (h : PyData.strOk x = true) : PyData.strOk (reprText x) = true := by
  have hq : reprQuote x < 0x110000 := by
    unfold reprQuote
    split <;> decide
  have hx : ∀ c ∈ x.cps.toList, c < 0x110000 := by
    intro c hc
    have h2 : x.cps.all (· < 0x110000) = true := h
    rw [← Array.all_toList, List.all_eq_true] at h2
    exact of_decide_eq_true (h2 c hc)
  show (((x.cps.foldl (fun out c => out ++ (Builtin.Str.reprChar (reprQuote x) c).toArray) #[reprQuote x]).push (reprQuote x)).all (· < 0x110000)) = true
  rw [Array.all_push, Bool.and_eq_true, ← Array.foldl_toList]
  refine ⟨fold_ok (fun c hc => rc_ok hq hc) _ _ hx ?_, decide_eq_true hq⟩
  rw [List.all_toArray, List.all_eq_true]
  intro c hc
  rw [List.mem_singleton.mp hc]
  exact decide_eq_true hq
theorem sok_glued {sep : Str} (hs : PyData.strOk sep = true) {ts : List Str} (h : ∀ t ∈ ts, PyData.strOk t = true) : PyData.strOk (Txt.join sep ts) = true := by
  have go : ∀ (l : List Str) (acc : Array Nat), (∀ t ∈ l, PyData.strOk t = true) → acc.all (· < 0x110000) = true → (l.foldl (fun acc p => acc ++ sep.cps ++ p.cps) acc).all (· < 0x110000) = true := by
    intro l
    induction l with
    | nil => exact fun acc _ h => h
    | cons t l ih =>
      intro acc hl ha
      rw [List.foldl_cons]
      refine ih _ (fun x hx => hl x (List.mem_cons_of_mem _ hx)) ?_
      rw [Array.all_append, Array.all_append, Bool.and_eq_true, Bool.and_eq_true]
      exact ⟨⟨ha, hs⟩, hl t List.mem_cons_self⟩
  show ((ts.drop 1).foldl (fun acc p => acc ++ sep.cps ++ p.cps) (ts.headD Str.empty).cps).all (· < 0x110000) = true
  refine go _ _ (fun t ht => h t (List.mem_of_mem_drop ht)) ?_
  cases ts with
  | nil => decide +kernel
  | cons t ts => exact h t List.mem_cons_self
mutual
/-- all texts in it are of code points, no dict -/
def okStr : PyData → Bool
  | .str x => PyData.strOk x
  | .dict _ => false
  | .list xs => okStrs xs
  | .tuple xs => okStrs xs
  | _ => true
def okStrs : List PyData → Bool
  | [] => true
  | d :: ds => okStr d && okStrs ds
end
mutual
theorem sok_shownS : ∀ d : PyData, okStr d = true → PyData.strOk d.shown = true
  | .none, _ => by simp only [PyData.shown]; exact sok_of _
  | .bool b, _ => by cases b <;> simp only [PyData.shown] <;> exact sok_of _
  | .int i, _ => by simp only [PyData.shown]; exact sok_of _
  | .list xs, h => by simp only [PyData.shown]; exact sok_list (sok_allS xs (by simpa only [okStr] using h))
  | .tuple xs, h => by simp only [PyData.shown]; exact sok_tuple (sok_allS xs (by simpa only [okStr] using h))
  | .str x, h => by simp only [PyData.shown]; exact sok_repr (by simpa only [okStr] using h)
  | .dict _, h => by simp [okStr] at h
theorem sok_allS : ∀ ds : List PyData, okStrs ds = true → ∀ t ∈ PyData.shownAll ds, PyData.strOk t = true
  | [], _, t, ht => by simp [PyData.shownAll] at ht
  | d :: ds, h, t, ht => by
    simp only [okStrs, Bool.and_eq_true] at h
    simp only [PyData.shownAll, List.mem_cons] at ht
    rcases ht with rfl | ht
    · exact sok_shownS d h.1
    · exact sok_allS ds h.2 t ht
end
theorem Fine.str {x : Str} {m : Nat} (h : PyData.strOk x = true) (hl : x.length ≤ m) : Fine (.str x) 0 m := by
  refine ⟨by simp [PyData.showable], by simp [PyData.hasDict], by simp [PyData.depth], ?_, ?_, ?_⟩
  · simp only [PyData.leavesShort]
    have h2 : x.cps.all (· < 0x110000) = true := h
    rw [← Array.all_toList, List.all_eq_true] at h2
    rw [List.all_eq_true]
    intro c hc
    have := of_decide_eq_true (h2 c hc)
    exact decide_eq_true (Nat.lt_of_lt_of_le this (by decide))
  · simp only [PyData.weight]
    exact hl
  · simp only [PyData.canLay0]
    exact h
theorem eqv_ints : ∀ xs ys : List Int, PyData.eqvAll (xs.map PyData.int) (ys.map PyData.int) = decide (xs = ys)
  | [], [] => by simp [PyData.eqvAll]
  | [], y :: ys => by simp [PyData.eqvAll]
  | x :: xs, [] => by simp [PyData.eqvAll]
  | x :: xs, y :: ys => by
    rw [List.map_cons, List.map_cons, PyData.eqvAll, eqv_ints xs ys, PyData.eqv]
    by_cases e : x = y
    · subst e
      simp
    · rw [show (x == y) = false from beq_eq_false_iff_ne.mpr e, Bool.false_and]
      exact (decide_eq_false fun z => e (List.cons.inj z).1).symm
end Su
namespace Su
open PySem PySem.Spec PyProof.Rows L2
def topS (i : Nat) : Stmt := PySem.Challenge.pw_surehand_k20_walks_made.main.body.getD i (.Pass ⟨0, 0, 0, 0⟩)
abbrev s_wall : Stmt := topS 0
abbrev s_HandError : Stmt := topS 2
abbrev s_NoShelf : Stmt := topS 3
abbrev s_NoWeb : Stmt := topS 4
abbrev s_NoBack : Stmt := topS 5
abbrev s_NoRoom : Stmt := topS 6
abbrev s_NoStep : Stmt := topS 7
abbrev s_is_whole : Stmt := topS 14
abbrev sIsWhole : Stmt := topS 14
abbrev s_is_room : Stmt := topS 15
abbrev sIsRoom : Stmt := topS 15
abbrev s_are_rising : Stmt := topS 16
abbrev s_are_rooms : Stmt := topS 17
abbrev s_is_way : Stmt := topS 18
abbrev sIsWay : Stmt := topS 18
abbrev s_is_size : Stmt := topS 19
abbrev sIsSize : Stmt := topS 19
abbrev s_how_many_bits : Stmt := topS 20
abbrev sHowMany : Stmt := topS 20
abbrev s_is_slot : Stmt := topS 21
abbrev sIsSlot : Stmt := topS 21
abbrev s_is_bit : Stmt := topS 22
abbrev sIsBit : Stmt := topS 22
abbrev s_are_slots : Stmt := topS 23
abbrev sAreSlots : Stmt := topS 23
abbrev s_are_bits : Stmt := topS 24
abbrev sAreBits : Stmt := topS 24
abbrev s_put_first : Stmt := topS 25
abbrev sPutFirst : Stmt := topS 25
abbrev s_slot_led_to : Stmt := topS 26
abbrev sLed : Stmt := topS 26
abbrev s_led_away : Stmt := topS 27
abbrev sAway : Stmt := topS 27
abbrev s_asked_by_tree : Stmt := topS 28
abbrev sByTree : Stmt := topS 28
abbrev s_asked : Stmt := topS 29
abbrev sAsked : Stmt := topS 29
abbrev s_are_tos : Stmt := topS 33
abbrev s_is_row : Stmt := topS 34
abbrev s_rooms_in : Stmt := topS 35
abbrev s_look_at_web : Stmt := topS 36
abbrev s_is_ask_of : Stmt := topS 38
abbrev s_wrong_part : Stmt := topS 40
abbrev s_look_at_room : Stmt := topS 41
abbrev s_Shelf : Stmt := topS 42
abbrev s_is_way_on : Stmt := topS 44
abbrev s_Walk : Stmt := topS 45
abbrev s_law_pool : Stmt := topS 47
abbrev sPool : Stmt := topS 47
abbrev s_law_take : Stmt := topS 48
abbrev sTake : Stmt := topS 48
abbrev s_law_picked : Stmt := topS 49
abbrev sPicked : Stmt := topS 49
abbrev s_law_tos : Stmt := topS 50
abbrev s_law_web : Stmt := topS 51
abbrev s_law_made : Stmt := topS 52
abbrev s_law_over : Stmt := topS 53
abbrev s_law_no_room : Stmt := topS 54
abbrev s_law_long : Stmt := topS 55
abbrev s_law : Stmt := topS 56
abbrev sLaw : Stmt := topS 56
def bodyOf (s : Stmt) : List Stmt := match s with
  | .ClassDef (body := b) .. => b
  | _ => []
def cSB (i : Nat) : Stmt := (bodyOf (topS 42)).getD i (.Pass ⟨0, 0, 0, 0⟩)
abbrev sS_init : Stmt := cSB 0
abbrev sS_ask : Stmt := cSB 1
abbrev sS_size : Stmt := cSB 2
abbrev sS_way : Stmt := cSB 3
abbrev sS_lay : Stmt := cSB 4
abbrev sS_holds : Stmt := cSB 5
abbrev sS_counts : Stmt := cSB 6
abbrev sS_twin : Stmt := cSB 7
abbrev sS_eq : Stmt := cSB 8
abbrev sS_len : Stmt := cSB 9
abbrev sS_str : Stmt := cSB 10
abbrev sS_repr : Stmt := cSB 11
def cWB (i : Nat) : Stmt := (bodyOf (topS 45)).getD i (.Pass ⟨0, 0, 0, 0⟩)
abbrev sW_init : Stmt := cWB 0
abbrev sW_step : Stmt := cWB 1
abbrev sW_undo : Stmt := cWB 2
abbrev sW_at : Stmt := cWB 3
abbrev sW_run : Stmt := cWB 4
abbrev sW_counts : Stmt := cWB 5
abbrev sW_shelf : Stmt := cWB 6
abbrev sW_twin : Stmt := cWB 7
abbrev sW_eq : Stmt := cWB 8
abbrev sW_len : Stmt := cWB 9
end Su
namespace Su
open PySem PySem.Spec PyProof.Rows L2
theorem sc_law_take : FnScope ["_law_pool_here", "_law_many", "_law_found"] ["_law_pool_here", "_law_many"] (defScope s_law_take) := ⟨rfl, rfl, rfl, by decide +kernel, rfl, by decide +kernel, by decide +kernel⟩
theorem sc_law_pool : FnScope ["_law_script", "_law_k", "_law_cell", "_law_great", "_law_mixed"] ["_law_script", "_law_k"] (defScope s_law_pool) := ⟨rfl, rfl, rfl, by decide +kernel, rfl, by decide +kernel, by decide +kernel⟩
section
variable {P : Program} {w : World} {K : PySem.W.Frag} {mg : Str → Option Value} {base : Heap}
theorem ok_take (T : At K mg "_law_take" s_law_take ["_law_pool_here", "_law_many"]) : Cal P w K mg base 1 "_law_take" ["_law_pool_here", "_law_many"] spTake := by
  refine cal_of T sc_law_take (fun vs H Q E h => ?_) (fun f cdv A outer s H vs Q E hr h => ?_)
  · obtain ⟨p, many, rfl, _⟩ := h
    rfl
  · obtain ⟨p, many, rfl, ⟨o, hp, g, m, rfl, g0, m0, m1⟩, n1, n2, q⟩ := h
    refine ⟨_, (pss_cons (ps_if (pt_cmpR op_gt (pe_ix ix_list (pv 0) pe_int (fun _ _ => rfl)) pe_int (nomark _)) (pss_cons (ps_set (i := 2) sc_law_take.nd rfl (Or.inl rfl) (pe_op op_mod (pe_ix ix_list (pv 0) pe_int (fun _ _ => rfl)) (pv 1)))
      (pss_cons (ps_asg (pe_op op_fdiv (pe_ix ix_list (pv 0) pe_int (fun _ _ => rfl)) (pv 1)) (pg_sub (pv 0) pe_int set_list))
      (pss_one (ps_ret (pv 2))))) pss_nil)
      (pss_cons (ps_asg (pe_op op_mod (pe_op op_add (pe_op op_mul (pe_ix ix_list (pv 0) pe_int (fun _ _ => rfl)) pe_int) pe_int) pe_int) (pg_sub (pv 0) pe_int set_list))
      (pss_one (ps_ret (pe_op op_mod (pe_op op_fdiv (pe_op op_mod (pe_op op_mul (pe_ix ix_list (pv 0) pe_int (fun _ _ => rfl)) (pe_ix ix_list (pv 0) pe_int (fun _ _ => rfl))) pe_int) pe_int) (pv 1)))))), ?_⟩
    refine ⟨_, rfl, p, _, _, _, rfl, rfl, SqL.of hp, atI_nat (j := 0) rfl, _, _, rfl, rfl, _, rfl, ite2 (fun e => ?_) (fun e => ?_)⟩
    · refine ⟨_, rfl, p, _, _, _, rfl, rfl, SqL.of hp, atI_nat (j := 0) rfl, _, rfl, _, _, rfl, rfl, (by omega), ?_⟩
      refine ⟨_, rfl, p, _, _, _, rfl, rfl, SqL.of hp, atI_nat (j := 0) rfl, _, rfl, _, _, rfl, rfl, ⟨by omega, by omega⟩, ?_⟩
      refine ⟨_, rfl, p, _, _, 0, rfl, rfl, hp, rfl, ?_⟩
      refine ⟨_, rfl, q _ _ (Int.emod_nonneg _ (by omega)) (Int.emod_lt_of_pos _ (by omega)) ⟨_, _, rfl, Int.ediv_nonneg g0 (by omega), m0, m1⟩⟩
    · refine ⟨_, rfl, p, _, _, _, rfl, rfl, SqL.of hp, atI_nat (j := 1) rfl, _, _, rfl, rfl, .inl ⟨by omega, by omega⟩, _, _, rfl, rfl, _, _, rfl, rfl, (by show (0 : Int) < 2147483647; decide), ?_⟩
      refine ⟨_, rfl, p, _, _, 1, rfl, rfl, hp, rfl, ?_⟩
      have e0 : 0 ≤ (m * 48271 + 11) % 2147483647 := Int.emod_nonneg _ (by decide)
      have e1 : (m * 48271 + 11) % 2147483647 < 2147483647 := Int.emod_lt_of_pos _ (by decide)
      refine ⟨_, rfl, p, _, _, _, rfl, rfl, SqL.of upd_same, atI_nat (j := 1) rfl, _, rfl, p, _, _, _, rfl, rfl, SqL.of upd_same, atI_nat (j := 1) rfl, _, _, rfl, rfl, .inl ⟨by omega, by omega⟩, _, _, rfl, rfl, (by show (0 : Int) < 2147483629; decide), _, _, rfl, rfl, ⟨by decide, by decide⟩, _, rfl, _, _, rfl, rfl, (by omega), ?_⟩
      exact q _ _ (Int.emod_nonneg _ (by omega)) (Int.emod_lt_of_pos _ (by omega)) ⟨_, _, rfl, g0, e0, e1⟩
theorem ok_pool (T : At K mg "_law_pool" s_law_pool ["_law_script", "_law_k"]) (B : Bt mg) : Cal P w K mg base 1 "_law_pool" ["_law_script", "_law_k"] (spPool K) := by
  refine cal_of T sc_law_pool (fun vs H Q E h => ?_) (fun f cdv A outer s H vs Q E hr h => ?_)
  · obtain ⟨a, ns, k, rfl, _⟩ := h
    rfl
  · obtain ⟨a, ns, k, rfl, hS, k0, k1, q⟩ := h
    refine ⟨_, (pss_cons (ps_set (i := 2) sc_law_pool.nd rfl (Or.inl rfl) (pe_op op_add (pe_op op_mul pe_int (pe_callB (cr_sum rfl) (by rfl) B.sum (by decide +kernel) (pa_cons (pe_slice sl_list (pv 0) po_none (po_some pe_int)) pa_nil))) (pv 1)))
      (pss_cons (ps_if (pt_cmpR op_lt (pv 1) (pe_callB call_len_seq (by rfl) B.len PySem.boot_len (pa_cons (pv 0) pa_nil)) (nomark _)) (pss_one (ps_set (i := 2) sc_law_pool.nd rfl (Or.inl rfl) (pe_ix ix_list (pv 0) (pv 1) (fun _ _ => rfl)))) pss_nil)
      (pss_cons (ps_set (i := 3) sc_law_pool.nd rfl (Or.inl rfl) (pe_callB call_abs (by rfl) B.abs (by decide +kernel) (pa_cons (pv 2) pa_nil)))
      (pss_cons (ps_set (i := 4) sc_law_pool.nd rfl (Or.inl rfl) (pe_op op_mod (pe_op op_mul (pe_op op_add (pe_op op_add (pe_op op_add (pe_op op_mod (pv 3) pe_int) (pe_op op_mul (pe_op op_mul pe_int (pv 1)) (pv 1))) (pe_op op_mul pe_int (pv 1))) pe_int) pe_int) pe_int))
      (pss_one (ps_ret (pe_lst (pa_cons (pe_op op_mul (pv 3) (pe_callTy call_int1 (by rfl) B.int (by decide +kernel) (pa_cons (pe_cmpR op_ge (pv 3) (pe_op op_pow pe_int pe_int) (nomark _)) pa_nil))) (pa_cons (pe_op op_mod (pe_op op_mul (pv 4) (pv 4)) pe_int) pa_nil))))))))), ?_⟩
    obtain ⟨ms, ems⟩ := cutV_ints ns none (some 63)
    refine ⟨_, rfl, 63, rfl, a, _, rfl, hS, fun c nc => ?_⟩
    rw [ems]
    have s1 : Same H (upd H c (.lst (ms.map V.int))) := same_upd nc
    refine ⟨c, ms, rfl, SqL.of upd_same, _, _, rfl, rfl, .inl ⟨by decide, by decide⟩, _, rfl, _, _, rfl, rfl, ?_⟩
    refine ⟨_, rfl, _, rfl, a, _, rfl, .inl (s1.seq hS), _, _, rfl, rfl, _, rfl, ite2 (fun e => ?_) (fun e => ?_)⟩
    rw [decide_eq_true_eq, List.length_map] at e
    obtain ⟨z, g⟩ : ∃ z : Int, atI (ns.map V.int) k = some (V.int z) := by
      have hk : k.toNat < ns.length := by omega
      exact ⟨_, atI_int (v := V.int ns[k.toNat]) k0 (by rw [List.getElem?_map, List.getElem?_eq_getElem hk]; rfl)⟩
    refine ⟨_, rfl, _, rfl, a, _, k, .int z, rfl, rfl, s1.seq hS, g, ?_⟩
    all_goals
      refine ⟨_, rfl, _, rfl, ?_⟩
      refine ⟨_, rfl, _, _, rfl, rfl, (by show (0 : Int) < 2147483629; decide), _, rfl, _, _, rfl, rfl, .inl ⟨by decide, by decide⟩, _, rfl, _, _, rfl, rfl, .inr ⟨by omega, by omega⟩, _, _, rfl, rfl, _, rfl, _, _, rfl, rfl, .inl ⟨by decide, by decide⟩, _, _, rfl, rfl, _, _, rfl, rfl, _, _, rfl, rfl, .inr ⟨by decide, by decide⟩, _, _, rfl, rfl, (by show (0 : Int) < 2147483647; decide), ?_⟩
      refine ⟨_, rfl, _, rfl, _, _, rfl, rfl, ⟨by decide, by decide, by decide⟩, _, _, rfl, rfl, .inr ⟨_, rfl, _, _, rfl, rfl, .inr ?_, ?_⟩⟩
      · exact b01 _
      refine ⟨_, rfl, _, rfl, _, _, rfl, rfl, .inl ?_, _, _, rfl, rfl, (by show (0 : Int) < 2147483629; decide), (by show 2 ≤ sizeLine; decide), fun p np => ?_⟩
      · refine ⟨Int.lt_of_lt_of_le (by decide) (Int.emod_nonneg _ (by decide)), Int.lt_trans (Int.emod_lt_of_pos _ (by decide)) (by decide)⟩
      refine q p _ (s1.trans (same_upd np)) (s1.free np) ⟨_, upd_same, _, _, rfl, ?_, Int.emod_nonneg _ (by decide), Int.lt_trans (Int.emod_lt_of_pos _ (by decide)) (by decide)⟩
      refine Int.mul_nonneg ?_ ?_ <;> split <;> omega
end
theorem sc_law_picked : FnScope ["_law_pool_here", "_law_some", "_law_many", "_law_left", "_law_k"] ["_law_pool_here", "_law_some", "_law_many"] (defScope s_law_picked) := ⟨rfl, rfl, rfl, by decide +kernel, rfl, by decide +kernel, by decide +kernel⟩
section
variable {P : Program} {w : World} {K : PySem.W.Frag} {mg : Str → Option Value} {base : Heap}
theorem ok_picked (T : At K mg "_law_picked" s_law_picked ["_law_pool_here", "_law_some", "_law_many"]) (B : Bt mg) (c_take : Cal P w K mg base 1 "_law_take" ["_law_pool_here", "_law_many"] spTake) :
    Cal P w K mg base 2 "_law_picked" ["_law_pool_here", "_law_some", "_law_many"] (spPicked K) := by
  refine cal_of T sc_law_picked (fun vs H Q E h => ?_) (fun f cdv A outer s H vs Q E hr h => ?_)
  · obtain ⟨p, b, ns, many, rfl, _⟩ := h
    rfl
  · obtain ⟨p, b, ns, many, rfl, hp, hS, hbp, nd, hl, m0, q⟩ := h
    refine ⟨_, (pss_cons (ps_set (i := 3) sc_law_picked.nd rfl (Or.inr rfl) (pe_callTy call_list_of (by rfl) B.list (by decide +kernel) (pa_cons (pv 1) pa_nil)))
      (pss_one (ps_ret (pe_callB cr_sortedI (by rfl) B.sorted (by decide +kernel) (pa_cons (pe_lc (own := [("_law_k", 4)]) (g := (gName 4)) (tt := tYes) (te := (tBM K "list" rPopAt (tVar 3) (tCons (tCall spTake [] E0 (tCons (tVar 0) (tCons (tCB (rLenK K) (tCons (tVar 3) tNil)) tNil))) tNil))) (by rfl) sc_law_picked.nd (pi_range1 (by rfl) B.range (pa_cons (pe_callB (call_min2 rfl) (by rfl) B.min (by decide +kernel) (pa_cons (pv 2) (pa_cons (pe_callB call_len_seq (by rfl) B.len PySem.boot_len (pa_cons (pv 3) pa_nil)) pa_nil))) pa_nil)) (blkOk_by (own := [("_law_k", 4)]) (N := ["_law_pool_here", "_law_some", "_law_many", "_law_left", "_law_k"]) (sc := defScope s_law_picked) (by decide +kernel)) (fun _ _ _ _ _ => (pg_name (i := 4) sc_law_picked.nd rfl (Or.inl rfl))) (fun _ _ _ _ _ => pts_nil) (fun _ _ _ _ _ => (pe_bm PySem.F.plainAttrs_list PySem.F.slot_list_pop PySem.F.type_list_pop mt_popAt (pv 3) (pa_cons (pe_own c_take hr (by decide) (by rfl) (pa_cons (pv 0) (pa_cons (pe_callB call_len_seq (by rfl) B.len PySem.boot_len (pa_cons (pv 3) pa_nil)) pa_nil))) pa_nil)))) pa_nil))))), ?_⟩
    refine ⟨_, rfl, b, _, rfl, .inl hS, fun l nl => ?_⟩
    have elp : l ≠ p := pool_ne hp nl
    have hl0 : (if ((ns.map V.int).length : Int) < many then ((ns.map V.int).length : Int) else many) = ((min many.toNat ns.length : Nat) : Int) := by
      rw [List.length_map]
      split <;> omega
    refine ⟨_, rfl, _, rfl, l, _, rfl, .inl (SqL.of upd_same), _, _, rfl, _, rfl, (by omega), (by omega), fun D nD => ?_⟩
    rw [hl0]
    refine lc_range (lo := 0) (n := min many.toNat ns.length) (fun i H2 => ∃ lf acc : List Int, H2 l = some (.lst (lf.map V.int)) ∧ H2 D = some (.lst (acc.map V.int)) ∧ acc.length = i ∧ (acc ++ lf).Perm ns ∧ PoolAt H2 p ∧ Kept p H H2) ?_ ?_ ?_
    · obtain ⟨eDl, nD0⟩ := free_upd nD
      refine ⟨ns, [], (by rw [upd_ne eDl.symm, upd_same]), upd_same, rfl, List.Perm.refl _, (hp.upd elp.symm).upd (pool_ne hp nD0).symm, ((Kept.refl p H).set nl).set nD0⟩
    · rintro i H2 hi ⟨lf, acc, h1, h2, hlen, hpm, hpo, hk⟩
      obtain ⟨eDl, nD0⟩ := free_upd nD
      have eDp : D ≠ p := pool_ne hp nD0
      have hll : acc.length + lf.length = ns.length := by
        have := hpm.length_eq
        rw [List.length_append] at this
        exact this
      refine ⟨rfl, tyes ?_⟩
      refine ⟨_, rfl, .inl ⟨rfl, _, SqL.of h1⟩, _, rfl, _, rfl, l, _, rfl, .inl (SqL.of h1), p, _, rfl, hpo, ?_, ?_, fun r o r0 r1 po => ?_⟩
      · rw [List.length_map]
        omega
      · rw [List.length_map]
        omega
      · rw [List.length_map] at r1
        have hr1 : r.toNat < lf.length := by omega
        refine ⟨l, lf.map V.int, r, r.toNat, V.int lf[r.toNat], rfl, rfl, (by rw [upd_ne elp]; exact h1), by omega, by omega, seqIx r0 (by rw [List.length_map]; exact r1), (by rw [List.getElem?_map, List.getElem?_eq_getElem hr1]; rfl), ?_⟩
        have hg : lf[r.toNat]? = some lf[r.toNat] := List.getElem?_eq_getElem hr1
        generalize lf[r.toNat] = y at *
        refine ⟨acc.map V.int, (by rw [upd_ne eDl, upd_ne eDp]; exact h2), ?_, lf.eraseIdx r.toNat, acc ++ [y], ?_, ?_, ?_, ?_, ?_, ?_⟩
        · rw [List.length_map]
          exact small1000 (by omega)
        · rw [upd_ne eDl.symm, upd_same, erase_map]
        · rw [upd_same, List.map_append]
          rfl
        · rw [List.length_append, hlen]
          rfl
        · rw [List.append_assoc]
          exact ((erase_perm lf r.toNat y hg).append_left acc).trans hpm
        · refine PoolAt.upd (PoolAt.upd ⟨o, upd_same, po⟩ elp.symm) eDp.symm
        · exact (((hk.trans (Kept.upd p H2 o)).set nl).set nD0)
    · rintro H2 ⟨lf, acc, h1, h2, hlen, hpm, hpo, hk⟩
      obtain ⟨eDl, nD0⟩ := free_upd nD
      refine ⟨D, acc, rfl, SqL.of h2, fun ms c pm so nc => ?_⟩
      have ecp : c ≠ p := pool_ne hpo nc
      have hsub : ∀ x ∈ ms, x ∈ ns := fun x hx => hpm.subset (List.mem_append_left _ (pm.subset hx))
      have hnd : (acc ++ lf).Nodup := hpm.nodup_iff.mpr nd
      exact q c _ ms (hk.free ecp nc) (hk.trans (Kept.same (same_upd nc))) (hpo.upd ecp.symm) upd_same (pm.nodup_iff.mpr (List.nodup_append.mp hnd).1) hsub (by rw [pm.length_eq, hlen]) so
end
end Su
namespace Su
open PySem PySem.Spec PyProof.Rows L2
/-- what stands in slots: -1, or rooms, none twice -/
structure Slots (n : Nat) (xs : List Int) : Prop where
  len : xs.length = n
  rng : ∀ x ∈ xs, -1 ≤ x ∧ x < 100
  one : ∀ v, v ≠ -1 → xs.count v ≤ 1
structure Bits (n : Nat) (xs : List Int) : Prop where
  len : xs.length = n
  rng : ∀ x ∈ xs, x = 0 ∨ x = 1
theorem dp_ints {K : PySem.W.Frag} {H : Hp} : ∀ ns : List Int, DpAll K H (ns.map V.int) (ns.map PyData.int)
  | [] => .nil
  | n :: ns => .cons (.int n) (dp_ints ns)
theorem fine_ints {ns : List Int} (h : ∀ x ∈ ns, -1 ≤ x ∧ x < 100) : FineL (ns.map PyData.int) 0 (41 * ns.length) := FineL.ints ns fun z hz => by
  have := h z hz
  omega
theorem set_nil_count (acc : List Int) (y v : Int) : ((acc ++ [-1]).set acc.length y).count v = acc.count v + (if y = v then 1 else 0) := by
  have e : (acc ++ [-1]).set acc.length y = acc ++ [y] := by
    rw [List.set_append_right _ _ (Nat.le_refl _), Nat.sub_self]
    rfl
  rw [e, List.count_append]
  by_cases h : y = v
  · subst h
    simp
  · simp [h, List.count_cons, List.count_nil]
end Su
namespace Su
open PySem PySem.Spec PyProof.Rows L2
theorem same_T {K : PySem.W.Frag} {H H' : Hp} {a : Addr} {xs : List V} (e : Same H H') (h : SqT K H a xs) : SqT K H' a xs := by
  rcases h with (h | ⟨o, h⟩) | h
  · exact .inl (.inl (e _ _ h))
  · exact .inl (.inr ⟨o, e _ _ h⟩)
  · exact .inr h
theorem cut_toI (xs : List Int) (g : Nat) (h : g ≤ xs.length) : cutV (xs.map V.int) none (some (g : Int)) = (xs.take g).map V.int := by
  unfold cutV
  rw [HT.sIx_nat, HT.sIx_none, List.length_map, Nat.min_eq_left h, Nat.sub_zero, List.drop_zero, List.map_take]
theorem cut_fromI (xs : List Int) (g : Nat) (h : g ≤ xs.length) : cutV (xs.map V.int) (some (g : Int)) none = (xs.drop g).map V.int := by
  unfold cutV
  rw [HT.sIx_nat, HT.sIx_none, List.length_map, Nat.min_eq_left h, List.map_drop, List.take_of_length_le]
  rw [List.length_drop, List.length_map]
  exact Nat.le_refl _
theorem flat_ints : ∀ xs : List Int, (xs.map V.int).all flatV = true
  | [] => rfl
  | _ :: xs => flat_ints xs
theorem in_ints (x : Int) : ∀ xs : List Int, inV (.int x) (xs.map V.int) = decide (x ∈ xs)
  | [] => rfl
  | y :: xs => by
    have ih := in_ints x xs
    unfold inV at ih ⊢
    rw [List.map_cons, List.any_cons, ih]
    show ((y == x) || decide (x ∈ xs)) = decide (x ∈ y :: xs)
    by_cases e : y = x
    · subst e
      simp
    · have e2 : ¬ x = y := fun z => e z.symm
      simp [e, e2]
/-! what a shelf's asks do, in numbers -/
def goneAt (xs : List Int) (r : Int) : Nat := if r ∈ xs then xs.idxOf r else xs.length - 1
def putF (xs : List Int) (r : Int) : List Int := r :: (xs.take (goneAt xs r) ++ xs.drop (goneAt xs r + 1))
theorem gone_lt {xs : List Int} {r : Int} (h : 0 < xs.length) : goneAt xs r < xs.length := by
  unfold goneAt
  split
  · rename_i e
    exact List.idxOf_lt_length_of_mem e
  · omega
def spPut : Sp := fun vs H Q _ => ∃ (a : Addr) (xs : List Int) (r : Int), vs = [.ref a, .int r] ∧ PTup H a (xs.map V.int) ∧ 0 < xs.length ∧ xs.length ≤ 100 ∧ ∀ (v : Addr) (H' : Hp), Same H H' → PTup H' v ((putF xs r).map V.int) → Q (.ref v) H'
theorem scPutFirst : FnScope ["slots", "room", "gone"] ["slots", "room"] (defScope sPutFirst) := ⟨rfl, rfl, rfl, by decide +kernel, rfl, by decide +kernel, by decide +kernel⟩
section
variable {P : Program} {w : World} {K : PySem.W.Frag} {mg : Str → Option Value} {base : Heap}
theorem ok_put (T : At K mg "put_first" sPutFirst ["slots", "room"]) (B : Bt mg) : Cal P w K mg base 1 "put_first" ["slots", "room"] spPut := by
  refine cal_of T scPutFirst (fun vs H Q E h => ?_) (fun f cdv A outer s H vs Q E hr h => ?_)
  · obtain ⟨a, xs, r, rfl, _⟩ := h
    rfl
  · obtain ⟨a, xs, r, rfl, hx, h0, hl, q⟩ := h
    refine ⟨_, (pss_cons (ps_set (i := 2) scPutFirst.nd rfl (Or.inl rfl) (pe_ifExp (pt_cmpR op_in_seq (pv 1) (pv 0) (by rfl)) (pe_mT PySem.F.slot_tuple_index PySem.F.type_tuple_index mt_tindex (pv 0) (pa_cons (pv 1) pa_nil)) (pe_op op_sub (pe_callB call_len_seq (by rfl) B.len PySem.boot_len (pa_cons (pv 0) pa_nil)) pe_int)))
      (pss_one (ps_ret (pe_op op_catF (pe_op op_catF (pe_tupF (pa_cons (pv 1) pa_nil)) (pe_slice sl_tupF (pv 0) po_none (po_some (pv 2)))) (pe_slice sl_tupF (pv 0) (po_some (pe_op op_add (pv 2) pe_int)) po_none))))), ?_⟩
    have hg : goneAt xs r < xs.length := gone_lt h0
    refine ⟨_, rfl, _, rfl, a, _, rfl, .inr hx.sq, rfl, flat_ints xs, _, rfl, ?_⟩
    rw [show (if false = true then !inV (V.int r) (xs.map V.int) else inV (V.int r) (xs.map V.int)) = decide (r ∈ xs) from in_ints r xs]
    refine ite2 (fun e => ?_) (fun e => ?_)
    rw [decide_eq_true_eq] at e
    refine ⟨_, rfl, ⟨a, _, rfl, hx⟩, _, rfl, a, xs, r, rfl, rfl, hx.sq, e, ?_⟩
    rw [show xs.idxOf r = goneAt xs r by unfold goneAt; rw [if_pos e]]
    rotate_left
    refine ⟨_, rfl, a, _, rfl, .inr hx.sq, _, _, rfl, rfl, ?_⟩
    rw [decide_eq_true_eq] at e
    rw [show (fun i j : Int => V.int (i - j)) ((xs.map V.int).length : Int) 1 = V.int ((goneAt xs r : Nat) : Int) from congrArg V.int (by
      unfold goneAt
      rw [if_neg e, List.length_map]
      omega)]
    all_goals
      refine ⟨_, rfl, (by show 1 ≤ sizeLine; decide), fun v1 H1 s1 n1 p1 => ?_⟩
      refine ⟨_, rfl, _, rfl, _, rfl, a, _, rfl, hx.same s1, fun v2 H2 s2 p2 => ?_⟩
      rw [cut_toI xs (goneAt xs r) (by omega)] at p2
      refine ⟨v1, v2, _, _, rfl, rfl, p1.same s2, p2, ?_, fun v3 H3 s3 p3 => ?_⟩
      · rw [List.length_map, List.length_take]
        exact Nat.le_of_lt (small1000 (by show 1 + _ ≤ 1000; omega))
      refine ⟨_, rfl, _, rfl, _, _, rfl, rfl, _, rfl, a, _, rfl, ((hx.same s1).same s2).same s3, fun v4 H4 s4 p4 => ?_⟩
      rw [show ((goneAt xs r : Nat) : Int) + 1 = ((goneAt xs r + 1 : Nat) : Int) by omega, cut_fromI xs (goneAt xs r + 1) (by omega)] at p4
      refine ⟨v3, v4, _, _, rfl, rfl, p3.same s4, p4, ?_, fun v5 H5 s5 p5 => ?_⟩
      · rw [List.length_append, List.length_map, List.length_map, List.length_take, List.length_drop]
        exact Nat.le_of_lt (small1000 (by show 1 + _ + _ ≤ 1000; omega))
      refine q v5 H5 ((((s1.trans s2).trans s3).trans s4).trans s5) ?_
      unfold putF
      rw [List.map_cons, List.map_append]
      exact p5
end
end Su
namespace Su
open PySem PySem.Spec PyProof.Rows L2
/-- where the bits lead -/
def ledF : Nat → List Int → Int → Int → Int → Int
  | 0, _, slot, _, _ => slot
  | f + 1, bs, slot, bit, half => if 0 < half then ledF f bs (slot + bs.getD bit.toNat 0 * half) (2 * bit + 1 + bs.getD bit.toNat 0) (half / 2) else slot
/-- .. by places that are there -/
def ledOk : Nat → List Int → Int → Int → Int → Bool
  | 0, _, _, _, half => decide (half ≤ 0)
  | f + 1, bs, slot, bit, half => if 0 < half then decide (0 ≤ bit) && decide (bit.toNat < bs.length) && decide (half ≤ 8) && ledOk f bs (slot + bs.getD bit.toNat 0 * half) (2 * bit + 1 + bs.getD bit.toNat 0) (half / 2) else true
/-- the bits turned away from a slot -/
def awayF : Nat → List Int → Int → Int → Int → List Int
  | 0, led, _, _, _ => led
  | f + 1, led, bit, half, wi => if 0 < half then awayF f (led.set bit.toNat (1 - (if half ≤ wi then 1 else 0))) (2 * bit + 1 + (if half ≤ wi then 1 else 0)) (half / 2) (wi - (if half ≤ wi then 1 else 0) * half) else led
def awayOk : Nat → Nat → Int → Int → Int → Bool
  | 0, _, _, half, _ => decide (half ≤ 0)
  | f + 1, m, bit, half, wi => if 0 < half then decide (0 ≤ bit) && decide (bit.toNat < m) && decide (half ≤ 8) && awayOk f m (2 * bit + 1 + (if half ≤ wi then 1 else 0)) (half / 2) (wi - (if half ≤ wi then 1 else 0) * half) else true
theorem awayF_len : ∀ (f : Nat) (led : List Int) (bit half wi : Int), (awayF f led bit half wi).length = led.length
  | 0, _, _, _, _ => rfl
  | f + 1, led, bit, half, wi => by
    unfold awayF
    split
    · rw [awayF_len, List.length_set]
    · rfl
def spLed : Sp := fun vs H Q _ => ∃ (b : Addr) (n : Int) (bs : List Int), vs = [.ref b, .int n] ∧ PTup H b (bs.map V.int) ∧ ledOk 4 bs 0 0 (n / 2) = true ∧ Q (.int (ledF 4 bs 0 0 (n / 2))) H
def spAway : Sp := fun vs H Q _ => ∃ (b : Addr) (sl n : Int) (bs : List Int), vs = [.ref b, .int sl, .int n] ∧ PTup H b (bs.map V.int) ∧ awayOk 4 bs.length 0 (n / 2) sl = true ∧ ∀ v H', Same H H' → PTup H' v ((awayF 4 bs 0 (n / 2) sl).map V.int) → Q (.ref v) H'
theorem scLed : FnScope ["bits", "size", "slot", "bit", "half", "turn"] ["bits", "size"] (defScope sLed) := ⟨rfl, rfl, rfl, by decide +kernel, rfl, by decide +kernel, by decide +kernel⟩
theorem scAway : FnScope ["bits", "slot", "size", "led", "bit", "half", "within", "turn"] ["bits", "slot", "size"] (defScope sAway) := ⟨rfl, rfl, rfl, by decide +kernel, rfl, by decide +kernel, by decide +kernel⟩
def num (σ : L2.St) (i : Nat) : Nat := match σ[i]? with
  | some (some (.int h)) => h.toNat
  | _ => 0
theorem ite3 {c A B : Prop} [Decidable c] (h1 : c → A) (h2 : ¬ c → B) : if decide c = true then A else B := by
  by_cases h : c
  · rw [if_pos (decide_eq_true h)]
    exact h1 h
  · rw [if_neg (by simp [h])]
    exact h2 h
section
variable {P : Program} {w : World} {K : PySem.W.Frag} {mg : Str → Option Value} {base : Heap}
theorem ok_led (T : At K mg "slot_led_to" sLed ["bits", "size"]) : Cal P w K mg base 1 "slot_led_to" ["bits", "size"] spLed := by
  refine cal_of T scLed (fun vs H Q E h => ?_) (fun f cdv A outer s H vs Q E hr h => ?_)
  · obtain ⟨b, n, bs, rfl, _⟩ := h
    rfl
  · obtain ⟨b, n, bs, rfl, hb, hok, q⟩ := h
    refine ⟨_, (pss_cons (ps_set (i := 2) scLed.nd rfl (Or.inl rfl) pe_int)
      (pss_cons (ps_set (i := 3) scLed.nd rfl (Or.inl rfl) pe_int)
      (pss_cons (ps_set (i := 4) scLed.nd rfl (Or.inl rfl) (pe_op op_fdiv (pv 1) pe_int))
      (pss_cons (ps_while PassesOwn.never (pt_cmpR op_gt (pv 4) pe_int (nomark _)) (pss_cons (ps_set (i := 5) scLed.nd rfl (Or.inl rfl) (pe_ix ix_tup (pv 0) (pv 3) (fun _ _ => rfl)))
      (pss_cons (ps_aug (i := 2) scLed.nd rfl (Or.inl rfl) (pe_op op_mul (pv 5) (pv 4)) ip_add)
      (pss_cons (ps_set (i := 3) scLed.nd rfl (Or.inl rfl) (pe_op op_add (pe_op op_add (pe_op op_mul pe_int (pv 3)) pe_int) (pv 5)))
      (pss_one (ps_set (i := 4) scLed.nd rfl (Or.inl rfl) (pe_op op_fdiv (pv 4) pe_int)))))))
      (pss_one (ps_ret (pv 2))))))), ?_⟩
    refine ⟨_, rfl, _, _, rfl, rfl, ⟨by decide, by decide⟩, ?_⟩
    refine while_by (fun σ H' => ∃ (f : Nat) (slot bit half : Int) (y : Option V), σ = [some (.ref b), some (.int n), some (.int slot), some (.int bit), some (.int half), y] ∧ H' = H ∧ ledOk f bs slot bit half = true ∧ ledF f bs slot bit half = ledF 4 bs 0 0 (n / 2)) (fun σ _ => num σ 4) ?_ ?_ ?_
    · exact ⟨4, 0, 0, n / 2, none, rfl, rfl, hok, rfl⟩
    · rintro σ H' ⟨f, slot, bit, half, y, rfl, rfl, h1, h2⟩
      refine ⟨_, rfl, _, _, rfl, rfl, _, rfl, ite3 (fun e => ?_) (fun e => ?_)⟩
      · cases f with
        | zero =>
          unfold ledOk at h1
          rw [decide_eq_true_eq] at h1
          exact absurd e (by omega)
        | succ f =>
          unfold ledOk at h1
          unfold ledF at h2
          rw [if_pos e] at h1 h2
          simp only [Bool.and_eq_true, decide_eq_true_eq] at h1
          obtain ⟨⟨⟨b0, b1⟩, b2⟩, b3⟩ := h1
          have g : atI (bs.map V.int) bit = some (V.int (bs.getD bit.toNat 0)) := atI_int b0 (by
            rw [List.getElem?_map, List.getElem?_eq_getElem b1, List.getD_eq_getElem?_getD, List.getElem?_eq_getElem b1]
            rfl)
          refine ⟨_, rfl, _, rfl, b, _, bit, _, rfl, rfl, hb.sq, g, ?_⟩
          refine ⟨_, rfl, _, rfl, _, rfl, _, _, rfl, rfl, .inr ⟨by omega, by omega⟩, _, _, rfl, rfl, ?_⟩
          refine ⟨_, rfl, _, _, rfl, rfl, .inl ⟨by decide, by decide⟩, _, _, rfl, rfl, _, rfl, _, _, rfl, rfl, ?_⟩
          refine ⟨_, rfl, _, _, rfl, rfl, ⟨by decide, by decide⟩, ?_⟩
          refine ⟨⟨f, _, _, _, _, rfl, rfl, b3, h2⟩, ?_⟩
          show (half / 2).toNat < half.toNat
          omega
      · refine ⟨_, rfl, ?_⟩
        have e2 : slot = ledF 4 bs 0 0 (n / 2) := by
          rw [← h2]
          cases f with
          | zero => rfl
          | succ f =>
            unfold ledF
            rw [if_neg e]
        rw [e2]
        exact q
    · rintro σ H' Q1 Q2 hq ⟨v, hv, i, j, e1, e2, k, e3, z⟩
      exact ⟨v, hv, i, j, e1, e2, k, e3, hq _ _ z⟩
theorem ok_away (T : At K mg "led_away" sAway ["bits", "slot", "size"]) (B : Bt mg) : Cal P w K mg base 1 "led_away" ["bits", "slot", "size"] spAway := by
  refine cal_of T scAway (fun vs H Q E h => ?_) (fun f cdv A outer s H vs Q E hr h => ?_)
  · obtain ⟨b, sl, n, bs, rfl, _⟩ := h
    rfl
  · obtain ⟨b, sl, n, bs, rfl, hb, hok, q⟩ := h
    refine ⟨_, (pss_cons (ps_set (i := 3) scAway.nd rfl (Or.inl rfl) (pe_callTy call_list_of (by rfl) B.list (by decide +kernel) (pa_cons (pv 0) pa_nil)))
      (pss_cons (ps_set (i := 4) scAway.nd rfl (Or.inl rfl) pe_int)
      (pss_cons (ps_set (i := 5) scAway.nd rfl (Or.inl rfl) (pe_op op_fdiv (pv 2) pe_int))
      (pss_cons (ps_set (i := 6) scAway.nd rfl (Or.inl rfl) (pv 1))
      (pss_cons (ps_while PassesOwn.never (pt_cmpR op_gt (pv 5) pe_int (nomark _)) (pss_cons (ps_set (i := 7) scAway.nd rfl (Or.inl rfl) (pe_ifExp (pt_cmpR op_ge (pv 6) (pv 5) (nomark _)) pe_int pe_int))
      (pss_cons (ps_asg (pe_op op_sub pe_int (pv 7)) (pg_sub (pv 3) (pv 4) set_list))
      (pss_cons (ps_aug (i := 6) scAway.nd rfl (Or.inl rfl) (pe_op op_mul (pv 7) (pv 5)) ip_sub)
      (pss_cons (ps_set (i := 4) scAway.nd rfl (Or.inl rfl) (pe_op op_add (pe_op op_add (pe_op op_mul pe_int (pv 4)) pe_int) (pv 7)))
      (pss_one (ps_set (i := 5) scAway.nd rfl (Or.inl rfl) (pe_op op_fdiv (pv 5) pe_int))))))))
      (pss_one (ps_ret (pe_callTy call_tupleF (by rfl) B.tuple (by decide +kernel) (pa_cons (pv 3) pa_nil))))))))), ?_⟩
    refine ⟨_, rfl, b, _, rfl, .inr hb.sq, fun l nl => ?_⟩
    refine ⟨_, rfl, _, _, rfl, rfl, ⟨by decide, by decide⟩, ?_⟩
    refine ⟨_, rfl, ?_⟩
    refine while_by (fun σ H' => ∃ (f : Nat) (led : List Int) (bit half wi : Int) (y : Option V), σ = [some (.ref b), some (.int sl), some (.int n), some (.ref l), some (.int bit), some (.int half), some (.int wi), y] ∧ H' = upd H l (.lst (led.map V.int)) ∧ awayOk f led.length bit half wi = true ∧ awayF f led bit half wi = awayF 4 bs 0 (n / 2) sl) (fun σ _ => num σ 5) ?_ ?_ ?_
    · exact ⟨4, bs, 0, n / 2, sl, none, rfl, rfl, hok, rfl⟩
    · rintro σ H' ⟨f, led, bit, half, wi, y, rfl, rfl, h1, h2⟩
      refine ⟨_, rfl, _, _, rfl, rfl, _, rfl, ite3 (fun e => ?_) (fun e => ?_)⟩
      · cases f with
        | zero =>
          unfold awayOk at h1
          rw [decide_eq_true_eq] at h1
          exact absurd e (by omega)
        | succ f =>
          unfold awayOk at h1
          unfold awayF at h2
          rw [if_pos e] at h1 h2
          simp only [Bool.and_eq_true, decide_eq_true_eq] at h1
          obtain ⟨⟨⟨b0, b1⟩, b2⟩, b3⟩ := h1
          refine ⟨_, rfl, _, rfl, _, _, rfl, rfl, _, rfl, ite3 (fun e1 => ?_) (fun e1 => ?_)⟩
          all_goals
            first
              | rw [if_pos e1] at h2 b3
              | rw [if_neg e1] at h2 b3
            refine ⟨_, rfl, _, _, rfl, rfl, ?_⟩
            refine ⟨_, rfl, _, rfl, l, led.map V.int, bit, bit.toNat, rfl, rfl, upd_same, ?_, ?_⟩
            · unfold ixN
              rw [if_pos b0, if_pos (by rw [List.length_map]; omega)]
            rw [upd_upd]
            refine ⟨_, rfl, _, rfl, _, rfl, _, _, rfl, rfl, .inl ⟨by decide, by decide⟩, _, _, rfl, rfl, ?_⟩
            refine ⟨_, rfl, _, _, rfl, rfl, .inl ⟨by decide, by decide⟩, _, _, rfl, rfl, _, rfl, _, _, rfl, rfl, ?_⟩
            refine ⟨_, rfl, _, _, rfl, rfl, ⟨by decide, by decide⟩, ?_⟩
            refine ⟨⟨f, led.set bit.toNat _, _, _, _, _, rfl, ?_, ?_, h2⟩, ?_⟩
            · rw [List.map_set]
            · rw [List.length_set]
              exact b3
            · show (half / 2).toNat < half.toNat
              omega
      · refine ⟨_, rfl, l, _, rfl, SqL.of upd_same, fun v H2 sm nv pt => ?_⟩
        have e2 : led = awayF 4 bs 0 (n / 2) sl := by
          rw [← h2]
          cases f with
          | zero => rfl
          | succ f =>
            unfold awayF
            rw [if_neg e]
        rw [e2] at pt
        exact q v H2 ((same_upd nl).trans sm) pt
    · rintro σ H' Q1 Q2 hq ⟨v, hv, i, j, e1, e2, k, e3, z⟩
      exact ⟨v, hv, i, j, e1, e2, k, e3, hq _ _ z⟩
end
end Su
namespace Su
open PySem PySem.Spec PyProof.Rows L2
def allBits : Nat → List (List Int)
  | 0 => [[]]
  | k + 1 => (allBits k).flatMap fun l => [0 :: l, 1 :: l]
theorem mem_allBits : ∀ (k : Nat) (bs : List Int), Bits k bs → bs ∈ allBits k
  | 0, bs, h => by
    have e := List.length_eq_zero_iff.mp h.len
    rw [e]
    exact List.mem_singleton.mpr rfl
  | k + 1, [], h => by
    have := h.len
    cases this
  | k + 1, b :: bs, h => by
    have ih := mem_allBits k bs ⟨by have := h.len; rw [List.length_cons] at this; omega, fun x hx => h.rng x (List.mem_cons_of_mem _ hx)⟩
    refine List.mem_flatMap.mpr ⟨bs, ih, ?_⟩
    rcases h.rng b List.mem_cons_self with e | e
    · rw [e]
      exact List.mem_cons_self
    · rw [e]
      exact List.mem_cons_of_mem _ List.mem_cons_self
structure TreeOk (n : Nat) (bs : List Int) : Prop where
  sz : n = 1 ∨ n = 2 ∨ n = 4 ∨ n = 8
  bt : Bits (n - 1) bs
/-- a look at all bits of a tree -/
def lookT (n : Nat) (bs : List Int) : Bool := ledOk 4 bs 0 0 ((n : Int) / 2) && decide (0 ≤ ledF 4 bs 0 0 ((n : Int) / 2)) && decide (ledF 4 bs 0 0 ((n : Int) / 2) < n)
theorem look1 : ∀ bs ∈ allBits 0, lookT 1 bs = true := by decide +kernel
theorem look2 : ∀ bs ∈ allBits 1, lookT 2 bs = true := by decide +kernel
theorem look4 : ∀ bs ∈ allBits 3, lookT 4 bs = true := by decide +kernel
theorem look8 : ∀ bs ∈ allBits 7, lookT 8 bs = true := by decide +kernel
theorem led_ok {n : Nat} {bs : List Int} (h : TreeOk n bs) : ledOk 4 bs 0 0 ((n : Int) / 2) = true ∧ 0 ≤ ledF 4 bs 0 0 ((n : Int) / 2) ∧ ledF 4 bs 0 0 ((n : Int) / 2) < n := by
  have z : lookT n bs = true := by
    obtain ⟨s, b⟩ := h
    rcases s with rfl | rfl | rfl | rfl
    · exact look1 bs (mem_allBits _ _ b)
    · exact look2 bs (mem_allBits _ _ b)
    · exact look4 bs (mem_allBits _ _ b)
    · exact look8 bs (mem_allBits _ _ b)
  unfold lookT at z
  simp only [Bool.and_eq_true, decide_eq_true_eq] at z
  exact ⟨z.1.1, z.1.2, z.2⟩
theorem aw1 : ∀ s ∈ List.range 1, awayOk 4 0 0 ((1 : Nat) / 2 : Int) (s : Nat) = true := by decide +kernel
theorem aw2 : ∀ s ∈ List.range 2, awayOk 4 1 0 ((2 : Nat) / 2 : Int) (s : Nat) = true := by decide +kernel
theorem aw4 : ∀ s ∈ List.range 4, awayOk 4 3 0 ((4 : Nat) / 2 : Int) (s : Nat) = true := by decide +kernel
theorem aw8 : ∀ s ∈ List.range 8, awayOk 4 7 0 ((8 : Nat) / 2 : Int) (s : Nat) = true := by decide +kernel
theorem away_ok {n : Nat} {bs : List Int} (h : TreeOk n bs) {s : Nat} (hs : s < n) : awayOk 4 bs.length 0 ((n : Int) / 2) (s : Nat) = true := by
  obtain ⟨z, b⟩ := h
  rw [b.len]
  have hm := List.mem_range.mpr hs
  rcases z with rfl | rfl | rfl | rfl
  · exact aw1 s hm
  · exact aw2 s hm
  · exact aw4 s hm
  · exact aw8 s hm
/-- the slot to which an ask by tree goes -/
def treeAt (xs bs : List Int) (r : Int) : Nat := if r ∈ xs then xs.idxOf r else (ledF 4 bs 0 0 ((xs.length : Int) / 2)).toNat
theorem treeAt_lt {xs bs : List Int} {r : Int} (h : TreeOk xs.length bs) : treeAt xs bs r < xs.length := by
  unfold treeAt
  split
  · rename_i e
    exact List.idxOf_lt_length_of_mem e
  · have := led_ok h
    omega
def putAt (xs : List Int) (s : Nat) (r : Int) : List Int := xs.take s ++ [r] ++ xs.drop (s + 1)
def askF (way : Str) (xs bs : List Int) (r : Int) : List Int × List Int :=
  if way = "tree" then (putAt xs (treeAt xs bs r) r, awayF 4 bs 0 ((xs.length : Int) / 2) (treeAt xs bs r : Nat))
  else if way = "first" ∧ r ∈ xs then (xs, bs) else (putF xs r, bs)
def LayAt (H : Hp) (v : Addr) (xs bs : List Int) : Prop := ∃ a b : Addr, PTup H v [.ref a, .ref b] ∧ PTup H a (xs.map V.int) ∧ PTup H b (bs.map V.int)
def AnsAt (H : Hp) (v : Addr) (xs bs : List Int) (near : Bool) : Prop := ∃ l : Addr, PTup H v [.ref l, .bl near] ∧ LayAt H l xs bs
theorem LayAt.same {H H' : Hp} {v : Addr} {xs bs : List Int} (h : LayAt H v xs bs) (s : Same H H') : LayAt H' v xs bs := by
  obtain ⟨a, b, h1, h2, h3⟩ := h
  exact ⟨a, b, h1.same s, h2.same s, h3.same s⟩
theorem AnsAt.same {H H' : Hp} {v : Addr} {xs bs : List Int} {k : Bool} (h : AnsAt H v xs bs k) (s : Same H H') : AnsAt H' v xs bs k := by
  obtain ⟨l, h1, h2⟩ := h
  exact ⟨l, h1.same s, h2.same s⟩
def spTree : Sp := fun vs H Q _ => ∃ (a b : Addr) (xs bs : List Int) (r : Int), vs = [.ref a, .ref b, .int r] ∧ PTup H a (xs.map V.int) ∧ PTup H b (bs.map V.int) ∧ TreeOk xs.length bs ∧
  ∀ v H', Same H H' → LayAt H' v (putAt xs (treeAt xs bs r) r) (awayF 4 bs 0 ((xs.length : Int) / 2) (treeAt xs bs r : Nat)) → Q (.ref v) H'
def spAsked : Sp := fun vs H Q _ => ∃ (t : Addr) (xs bs : List Int) (r : Int) (way : Str), vs = [.ref t, .int r, .str way] ∧ LayAt H t xs bs ∧ (way = "tree" → TreeOk xs.length bs) ∧ 0 < xs.length ∧ xs.length ≤ 8 ∧
  ∀ v H', Same H H' → AnsAt H' v (askF way xs bs r).1 (askF way xs bs r).2 (decide (r ∈ xs)) → Q (.ref v) H'
theorem scByTree : FnScope ["slots", "bits", "room", "size", "slot"] ["slots", "bits", "room"] (defScope sByTree) := ⟨rfl, rfl, rfl, by decide +kernel, rfl, by decide +kernel, by decide +kernel⟩
theorem scAsked : FnScope ["lay", "room", "way", "slots", "bits", "near"] ["lay", "room", "way"] (defScope sAsked) := ⟨rfl, rfl, rfl, by decide +kernel, rfl, by decide +kernel, by decide +kernel⟩
section
variable {P : Program} {w : World} {K : PySem.W.Frag} {mg : Str → Option Value} {base : Heap}
theorem ok_tree (T : At K mg "asked_by_tree" sByTree ["slots", "bits", "room"]) (B : Bt mg) (c_slot_led_to : Cal P w K mg base 1 "slot_led_to" ["bits", "size"] spLed) (c_led_away : Cal P w K mg base 1 "led_away" ["bits", "slot", "size"] spAway) :
    Cal P w K mg base 2 "asked_by_tree" ["slots", "bits", "room"] spTree := by
  refine cal_of T scByTree (fun vs H Q E h => ?_) (fun f cdv A outer s H vs Q E hr h => ?_)
  · obtain ⟨a, b, xs, bs, r, rfl, _⟩ := h
    rfl
  · obtain ⟨a, b, xs, bs, r, rfl, hx, hb, ht, q⟩ := h
    have hn : xs.length ≤ 8 := by
      have := ht.sz
      omega
    have hs := treeAt_lt (r := r) ht
    refine ⟨_, (pss_cons (ps_set (i := 3) scByTree.nd rfl (Or.inl rfl) (pe_callB call_len_seq (by rfl) B.len PySem.boot_len (pa_cons (pv 0) pa_nil)))
      (pss_cons (ps_set (i := 4) scByTree.nd rfl (Or.inl rfl) (pe_ifExp (pt_cmpR op_in_seq (pv 2) (pv 0) (by rfl)) (pe_mT PySem.F.slot_tuple_index PySem.F.type_tuple_index mt_tindex (pv 0) (pa_cons (pv 2) pa_nil)) (pe_own c_slot_led_to hr (by decide) (by rfl) (pa_cons (pv 1) (pa_cons (pv 3) pa_nil)))))
      (pss_one (ps_ret (pe_tupF (pa_cons (pe_op op_catF (pe_op op_catF (pe_slice sl_tupF (pv 0) po_none (po_some (pv 4))) (pe_tupF (pa_cons (pv 2) pa_nil))) (pe_slice sl_tupF (pv 0) (po_some (pe_op op_add (pv 4) pe_int)) po_none)) (pa_cons (pe_own c_led_away hr (by decide) (by rfl) (pa_cons (pv 1) (pa_cons (pv 4) (pa_cons (pv 3) pa_nil)))) pa_nil))))))), ?_⟩
    refine ⟨_, rfl, a, _, rfl, .inr hx.sq, ?_⟩
    rw [List.length_map]
    refine ⟨_, rfl, _, rfl, a, _, rfl, .inr hx.sq, rfl, flat_ints xs, _, rfl, ?_⟩
    rw [show (if false = true then !inV (V.int r) (xs.map V.int) else inV (V.int r) (xs.map V.int)) = decide (r ∈ xs) from in_ints r xs]
    refine ite3 (fun e => ?_) (fun e => ?_)
    refine ⟨_, rfl, ⟨a, _, rfl, hx⟩, _, rfl, a, xs, r, rfl, rfl, hx.sq, e, ?_⟩
    rw [show xs.idxOf r = treeAt xs bs r by unfold treeAt; rw [if_pos e]]
    rotate_left
    refine ⟨_, rfl, _, rfl, b, _, bs, rfl, hb, (led_ok ht).1, ?_⟩
    rw [show ledF 4 bs 0 0 ((xs.length : Int) / 2) = ((treeAt xs bs r : Nat) : Int) by
      unfold treeAt
      rw [if_neg e]
      have := led_ok ht
      omega]
    all_goals
      refine ⟨_, rfl, _, rfl, _, rfl, a, _, rfl, hx, fun v1 H1 s1 p1 => ?_⟩
      rw [cut_toI xs (treeAt xs bs r) (by omega)] at p1
      refine ⟨_, rfl, (by show 1 ≤ sizeLine; decide), fun v2 H2 s2 n2 p2 => ?_⟩
      refine ⟨v1, v2, _, _, rfl, rfl, p1.same s2, p2, ?_, fun v3 H3 s3 p3 => ?_⟩
      · rw [List.length_map, List.length_take]
        exact Nat.le_of_lt (small1000 (by show _ + 1 ≤ 1000; omega))
      refine ⟨_, rfl, _, rfl, _, _, rfl, rfl, _, rfl, a, _, rfl, ((hx.same s1).same s2).same s3, fun v4 H4 s4 p4 => ?_⟩
      rw [show ((treeAt xs bs r : Nat) : Int) + 1 = ((treeAt xs bs r + 1 : Nat) : Int) by omega, cut_fromI xs (treeAt xs bs r + 1) (by omega)] at p4
      refine ⟨v3, v4, _, _, rfl, rfl, p3.same s4, p4, ?_, fun v5 H5 s5 p5 => ?_⟩
      · rw [List.length_append, List.length_map, List.length_map, List.length_take, List.length_drop]
        exact Nat.le_of_lt (small1000 (by show _ + 1 + _ ≤ 1000; omega))
      have s15 : Same H H5 := (((s1.trans s2).trans s3).trans s4).trans s5
      refine ⟨_, rfl, _, rfl, _, rfl, b, _, _, bs, rfl, hb.same s15, away_ok ht hs, fun v6 H6 s6 p6 => ?_⟩
      refine ⟨(by show 2 ≤ sizeLine; decide), fun v7 H7 s7 n7 p7 => q v7 H7 ((s15.trans s6).trans s7) ⟨v5, v6, p7, ?_, p6.same s7⟩⟩
      have e5 : List.map V.int (xs.take (treeAt xs bs r)) ++ [V.int r] ++ List.map V.int (xs.drop (treeAt xs bs r + 1)) = (putAt xs (treeAt xs bs r) r).map V.int := by
        unfold putAt
        rw [List.map_append, List.map_append]
        rfl
      rw [← e5]
      exact (p5.same s6).same s7
theorem ok_asked (T : At K mg "asked" sAsked ["lay", "room", "way"]) (c_asked_by_tree : Cal P w K mg base 2 "asked_by_tree" ["slots", "bits", "room"] spTree) (c_put_first : Cal P w K mg base 1 "put_first" ["slots", "room"] spPut) :
    Cal P w K mg base 3 "asked" ["lay", "room", "way"] spAsked := by
  refine cal_of T scAsked (fun vs H Q E h => ?_) (fun f cdv A outer s H vs Q E hr h => ?_)
  · obtain ⟨t, xs, bs, r, way, rfl, _⟩ := h
    rfl
  · obtain ⟨t, xs, bs, r, way, rfl, ⟨a, b, ht, hx, hb⟩, hok, h0, hn, q⟩ := h
    refine ⟨_, (pss_cons (ps_asg (pv 0) (pg_tup (by rfl) (pgs_cons (pg_name (i := 3) scAsked.nd rfl (Or.inl rfl)) (pgs_cons (pg_name (i := 4) scAsked.nd rfl (Or.inl rfl)) pgs_nil))))
      (pss_cons (ps_set (i := 5) scAsked.nd rfl (Or.inl rfl) (pe_cmpR op_in_seq (pv 1) (pv 3) (by rfl)))
      (pss_cons (ps_if (pt_cmpR op_eq (pv 2) pe_str (nomark _)) (pss_one (ps_ret (pe_tupF (pa_cons (pe_own c_asked_by_tree hr (by decide) (by rfl) (pa_cons (pv 3) (pa_cons (pv 4) (pa_cons (pv 1) pa_nil)))) (pa_cons (pv 5) pa_nil))))) pss_nil)
      (pss_cons (ps_if (PW.pt (pw_and (pt_cmpR op_eq (pv 2) pe_str (nomark _)) (pw_and1 (pt_val (pv 5))))) (pss_one (ps_ret (pe_tupF (pa_cons (pe_tupF (pa_cons (pv 3) (pa_cons (pv 4) pa_nil))) (pa_cons (pv 5) pa_nil))))) pss_nil)
      (pss_one (ps_ret (pe_tupF (pa_cons (pe_tupF (pa_cons (pe_own c_put_first hr (by decide) (by rfl) (pa_cons (pv 3) (pa_cons (pv 1) pa_nil))) (pa_cons (pv 4) pa_nil))) (pa_cons (pv 5) pa_nil))))))))), ?_⟩
    refine ⟨_, rfl, t, _, rfl, ht.sq, rfl, _, _, rfl, _, _, rfl, rfl, ?_⟩
    refine ⟨_, rfl, _, rfl, a, _, rfl, .inr hx.sq, rfl, flat_ints xs, ?_⟩
    rw [show (if false = true then !inV (V.int r) (xs.map V.int) else inV (V.int r) (xs.map V.int)) = decide (r ∈ xs) from in_ints r xs]
    refine ⟨_, rfl, rfl, _, rfl, ite3 (fun e => ?_) (fun e => ?_)⟩
    · have e1 : way = "tree" := V.str.inj e
      refine ⟨_, rfl, _, rfl, _, rfl, a, b, xs, bs, r, rfl, hx, hb, hok e1, fun v H1 s1 la => ?_⟩
      refine ⟨_, rfl, (by show 2 ≤ sizeLine; decide), fun v2 H2 s2 n2 p2 => q v2 H2 (s1.trans s2) ⟨v, p2, ?_⟩⟩
      unfold askF
      rw [if_pos e1]
      exact la.same s2
    · have e1 : ¬ way = "tree" := fun z => e (by rw [z])
      refine ⟨_, rfl, rfl, _, rfl, ite3 (fun e2 => ?_) (fun e2 => ?_)⟩
      · have e3 : way = "first" := V.str.inj e2
        refine ⟨_, rfl, _, rfl, ite3 (fun e4 => ?_) (fun e4 => ?_)⟩
        · refine ⟨_, rfl, _, rfl, (by show 2 ≤ sizeLine; decide), fun v1 H1 s1 n1 p1 => ?_⟩
          refine ⟨_, rfl, (by show 2 ≤ sizeLine; decide), fun v2 H2 s2 n2 p2 => q v2 H2 (s1.trans s2) ⟨v1, p2, ?_⟩⟩
          unfold askF
          rw [if_neg e1, if_pos ⟨e3, e4⟩]
          exact ⟨a, b, p1.same s2, (hx.same s1).same s2, (hb.same s1).same s2⟩
        · refine ⟨_, rfl, _, rfl, a, xs, r, rfl, hx, h0, by omega, fun v1 H1 s1 p1 => ?_⟩
          refine ⟨_, rfl, (by show 2 ≤ sizeLine; decide), fun v2 H2 s2 n2 p2 => ?_⟩
          refine ⟨_, rfl, (by show 2 ≤ sizeLine; decide), fun v3 H3 s3 n3 p3 => q v3 H3 ((s1.trans s2).trans s3) ⟨v2, p3, ?_⟩⟩
          unfold askF
          rw [if_neg e1, if_neg (fun z => e4 z.2)]
          exact ⟨v1, b, p2.same s3, (p1.same s2).same s3, ((hb.same s1).same s2).same s3⟩
      · have e3 : ¬ way = "first" := fun z => e2 (by rw [z])
        refine ⟨_, rfl, _, rfl, a, xs, r, rfl, hx, h0, by omega, fun v1 H1 s1 p1 => ?_⟩
        refine ⟨_, rfl, (by show 2 ≤ sizeLine; decide), fun v2 H2 s2 n2 p2 => ?_⟩
        refine ⟨_, rfl, (by show 2 ≤ sizeLine; decide), fun v3 H3 s3 n3 p3 => q v3 H3 ((s1.trans s2).trans s3) ⟨v2, p3, ?_⟩⟩
        unfold askF
        rw [if_neg e1, if_neg (fun z => e3 z.1)]
        exact ⟨v1, b, p2.same s3, (p1.same s2).same s3, ((hb.same s1).same s2).same s3⟩
end
end Su
namespace Su
open PySem PySem.Spec PyProof.Rows L2
theorem iteNT {c A B : Prop} [Decidable c] (hc : ¬ c) (h : A) : if (!decide c) = true then A else B := by
  rw [if_pos (by simp [hc])]
  exact h
theorem filter_len (r : Int) : ∀ xs : List Int, xs.length = xs.count r + (xs.filter fun x => !decide (x = r)).length
  | [] => rfl
  | x :: xs => by
    have ih := filter_len r xs
    by_cases e : x = r
    · subst e
      rw [List.length_cons, List.count_cons_self, List.filter_cons_of_neg (by simp)]
      omega
    · rw [List.length_cons, List.count_cons_of_ne e, List.filter_cons_of_pos (by simp [e]), List.length_cons]
      omega
theorem filter_none {r : Int} : ∀ {xs : List Int}, r ∉ xs → (xs.filter fun x => !decide (x = r)) = xs := fun {xs} h =>
  List.filter_eq_self.mpr fun x hx => by
    have : ¬ x = r := fun z => h (z ▸ hx)
    simp [this]
theorem filter_once {r : Int} : ∀ {xs : List Int}, r ∈ xs → xs.count r ≤ 1 → (xs.filter fun x => !decide (x = r)) = xs.take (xs.idxOf r) ++ xs.drop (xs.idxOf r + 1)
  | [], h, _ => (List.not_mem_nil h).elim
  | x :: xs, h, hc => by
    by_cases e : x = r
    · subst e
      rw [List.count_cons_self] at hc
      have hn : x ∉ xs := List.count_eq_zero.mp (by omega)
      rw [List.idxOf_cons_self, List.filter_cons_of_neg (by simp), filter_none hn]
      rfl
    · have hm : r ∈ xs := by
        rcases List.mem_cons.mp h with z | z
        · exact absurd z.symm e
        · exact z
      rw [List.count_cons_of_ne e] at hc
      have ei : (x :: xs).idxOf r = xs.idxOf r + 1 := by
        have z : (x == r) = false := by simpa using e
        rw [List.idxOf_cons, z]
        rfl
      rw [ei, List.filter_cons_of_pos (by simp [e]), filter_once hm hc]
      rfl
theorem put_filter {r : Int} {xs : List Int} (hc : xs.count r ≤ 1) (h0 : 0 < xs.length) : (r :: xs.filter fun x => !decide (x = r)).take xs.length = putF xs r := by
  have hl := filter_len r xs
  unfold putF goneAt
  by_cases h : r ∈ xs
  · rw [if_pos h, ← filter_once h hc]
    refine List.take_of_length_le ?_
    rw [List.length_cons]
    have := List.count_pos_iff.mpr h
    omega
  · rw [if_neg h, filter_none h]
    obtain ⟨m, hm⟩ : ∃ m, xs.length = m + 1 := ⟨xs.length - 1, by omega⟩
    rw [hm, List.take_succ_cons, Nat.add_sub_cancel, List.drop_of_length_le (by omega), List.append_nil]
end Su
namespace Su
open PySem PySem.Spec PyProof.Rows L2
/-! the mathematics of one ask: slots stay slots, bits stay bits -/
theorem putF_len {xs : List Int} {r : Int} (h : 0 < xs.length) : (putF xs r).length = xs.length := by
  have := gone_lt (r := r) h
  unfold putF
  rw [List.length_cons, List.length_append, List.length_take, List.length_drop]
  omega
theorem putF_ok {n : Nat} {xs : List Int} {r : Int} (h : Slots n xs) (h0 : 0 < xs.length) (r0 : 0 ≤ r) (r1 : r < 100) : Slots n (putF xs r) := by
  have hc := h.one r (by omega)
  refine ⟨by rw [putF_len h0, h.len], fun x hx => ?_, fun v hv => ?_⟩
  · unfold putF at hx
    rcases List.mem_cons.mp hx with z | z
    · omega
    · rcases List.mem_append.mp z with y | y
      · exact h.rng x (List.mem_of_mem_take y)
      · exact h.rng x (List.mem_of_mem_drop y)
  · rw [← put_filter hc h0]
    refine Nat.le_trans (List.Sublist.count_le v (List.take_sublist _ _)) ?_
    by_cases e : r = v
    · subst e
      have hz : r ∉ xs.filter fun x => !decide (x = r) := fun z => by
        have := (List.mem_filter.mp z).2
        simp at this
      rw [List.count_cons_self, List.count_eq_zero.mpr hz]
      exact Nat.le_refl _
    · rw [List.count_cons_of_ne e]
      exact Nat.le_trans (List.Sublist.count_le v List.filter_sublist) (h.one v hv)
theorem putAt_len {xs : List Int} {s : Nat} {r : Int} (h : s < xs.length) : (putAt xs s r).length = xs.length := by
  unfold putAt
  rw [List.length_append, List.length_append, List.length_take, List.length_drop]
  show min s xs.length + 1 + (xs.length - (s + 1)) = xs.length
  omega
theorem putAt_ok {n : Nat} {xs bs : List Int} {r : Int} (h : Slots n xs) (hs : treeAt xs bs r < xs.length) (r0 : 0 ≤ r) (r1 : r < 100) : Slots n (putAt xs (treeAt xs bs r) r) := by
  refine ⟨by rw [putAt_len hs, h.len], fun x hx => ?_, fun v hv => ?_⟩
  · unfold putAt at hx
    rcases List.mem_append.mp hx with z | z
    · rcases List.mem_append.mp z with y | y
      · exact h.rng x (List.mem_of_mem_take y)
      · rw [List.mem_singleton.mp y]
        omega
    · exact h.rng x (List.mem_of_mem_drop z)
  · have hx : xs = xs.take (treeAt xs bs r) ++ [xs[treeAt xs bs r]] ++ xs.drop (treeAt xs bs r + 1) := by
      rw [List.append_assoc, List.singleton_append, List.getElem_cons_drop, List.take_append_drop]
    have h1 := h.one v hv
    rw [hx, List.count_append, List.count_append] at h1
    unfold putAt
    rw [List.count_append, List.count_append]
    by_cases e : r ∈ xs
    · have e2 : xs[treeAt xs bs r] = r := by
        have e3 : treeAt xs bs r = xs.idxOf r := by
          unfold treeAt
          rw [if_pos e]
        simp only [e3]
        exact List.getElem_idxOf (List.idxOf_lt_length_of_mem e)
      rw [e2] at h1
      exact h1
    · by_cases ev : r = v
      · subst ev
        have a1 : (xs.take (treeAt xs bs r)).count r = 0 := List.count_eq_zero.mpr fun z => e (List.mem_of_mem_take z)
        have a2 : (xs.drop (treeAt xs bs r + 1)).count r = 0 := List.count_eq_zero.mpr fun z => e (List.mem_of_mem_drop z)
        rw [a1, a2, List.count_singleton_self]
        exact Nat.le_refl _
      · have a3 : [r].count v = 0 := by
          rw [List.count_cons_of_ne ev, List.count_nil]
        rw [a3]
        omega
theorem awayF_ok : ∀ (f : Nat) (led : List Int) (bit half wi : Int), (∀ x ∈ led, x = 0 ∨ x = 1) → ∀ x ∈ awayF f led bit half wi, x = 0 ∨ x = 1
  | 0, _, _, _, _, h => h
  | f + 1, led, bit, half, wi, h => by
    unfold awayF
    split
    · refine awayF_ok f _ _ _ _ fun x hx => ?_
      rcases List.mem_or_eq_of_mem_set hx with z | z
      · exact h x z
      · rw [z]
        split <;> omega
    · exact h
/-- what holds of a lay between two asks -/
structure LayOk (way : Str) (n : Nat) (xs bs : List Int) : Prop where
  sl : Slots n xs
  pos : 0 < n
  few : n ≤ 8
  tr : way = "tree" → TreeOk n bs
  no : way ≠ "tree" → bs = []
theorem LayOk.ask {way : Str} {n : Nat} {xs bs : List Int} {r : Int} (h : LayOk way n xs bs) (r0 : 0 ≤ r) (r1 : r < 100) : LayOk way n (askF way xs bs r).1 (askF way xs bs r).2 := by
  have hl := h.sl.len
  have h0 : 0 < xs.length := by
    rw [hl]
    exact h.pos
  unfold askF
  by_cases e : way = "tree"
  · rw [if_pos e]
    have ht := h.tr e
    have ht' : TreeOk xs.length bs := by
      rw [hl]
      exact ht
    refine ⟨putAt_ok h.sl (treeAt_lt ht') r0 r1, h.pos, h.few, fun _ => ⟨ht.sz, ?_, ?_⟩, fun z => absurd e z⟩
    · show (awayF 4 bs 0 _ _).length = n - 1
      rw [awayF_len]
      exact ht.bt.len
    · exact awayF_ok 4 bs 0 _ _ ht.bt.rng
  · rw [if_neg e]
    split
    · exact ⟨h.sl, h.pos, h.few, fun z => absurd z e, h.no⟩
    · exact ⟨putF_ok h.sl h0 r0 r1, h.pos, h.few, fun z => absurd z e, h.no⟩
/-! lays and answers as data -/
def layD (xs bs : List Int) : PyData := .tuple [.tuple (xs.map .int), .tuple (bs.map .int)]
def ansD (xs bs : List Int) (k : Bool) : PyData := .tuple [layD xs bs, .bool k]
theorem LayAt.dp {K : PySem.W.Frag} {H : Hp} {v : Addr} {xs bs : List Int} (h : LayAt H v xs bs) : Dp K H (.ref v) (layD xs bs) := by
  obtain ⟨a, b, h1, h2, h3⟩ := h
  exact .tup h1.sq (.cons (.tup h2.sq (dp_ints xs)) (.cons (.tup h3.sq (dp_ints bs)) .nil))
theorem AnsAt.dp {K : PySem.W.Frag} {H : Hp} {v : Addr} {xs bs : List Int} {k : Bool} (h : AnsAt H v xs bs k) : Dp K H (.ref v) (ansD xs bs k) := by
  obtain ⟨l, h1, h2⟩ := h
  exact .tup h1.sq (.cons h2.dp (.cons (.bl k) .nil))
theorem LayOk.fine {way : Str} {n : Nat} {xs bs : List Int} (h : LayOk way n xs bs) : Fine (layD xs bs) 2 1000 := by
  have l1 := h.sl.len
  have hf := h.few
  have l2 : bs.length ≤ 8 ∧ ∀ x ∈ bs, -1 ≤ x ∧ x < 100 := by
    by_cases e : way = "tree"
    · have b := (h.tr e).bt
      refine ⟨by rw [b.len]; omega, fun x hx => ?_⟩
      have := b.rng x hx
      omega
    · rw [h.no e]
      exact ⟨Nat.zero_le _, fun x hx => (List.not_mem_nil hx).elim⟩
  refine (Fine.tuple (FineL.cons (Fine.tuple (fine_ints h.sl.rng)) (FineL.cons (Fine.tuple (fine_ints l2.2)) FineL.nil))).up (Nat.le_refl _) ?_
  omega
theorem LayOk.fineA {way : Str} {n : Nat} {xs bs : List Int} (h : LayOk way n xs bs) (k : Bool) : Fine (ansD xs bs k) 3 2000 :=
  (Fine.tuple (FineL.cons h.fine (FineL.cons ((Fine.bool k).up (Nat.zero_le _) (Nat.le_refl _)) FineL.nil))).up (Nat.le_refl _) (by decide)
end Su
/-! ### C0: things of any kind -/
namespace Su
open PySem PySem.Spec PyProof.Rows L2
section
variable {X : Cx}
/-- len(set(l)), l a list of ints -/
def dd (ns : List Int) : List Int := PyProof.Rows.firstMet (fun i => ns.getD i 0) ns.length
def tLenSet (K : PySem.W.Frag) (ta : TE) : TE := fun σ H Q => ta σ H fun x H1 => ∃ (l : Addr) (ns : List Int), x = .ref l ∧ SqL K H1 l (ns.map V.int) ∧ ns.length ≤ 1000 ∧ Q (.int ((dd ns).length : Nat)) H1
theorem pe_lenSet {a : Expr} {ta : TE} {p p2 q pos : Pos} (hg : Gl X "len") (hm : X.mg "len" = none) (hg2 : Gl X "set") (hm2 : X.mg "set" = none) (ha : PE X a ta) (hc : X.calm = true := by rfl)
    (na : starEach [a] X.env = (false, eval a X.env) :: starEach [] X.env := by rfl) : PE X (.Call (.Name "len" p) [.Call (.Name "set" p2) [a] [] q] [] pos) (tLenSet X.K ta) := by
  refine ⟨fun pins s σ H Q I h => ?_⟩
  refine Call_ (ld_blt I hg hm boot_len ?_)
  refine PyProof.Rows.callWith_builtin1 (PyProof.Rows.args_cons ?_ rfl) rfl rfl
  refine Call_ (ld_blt I hg2 hm2 boot_set ?_)
  refine PyProof.Rows.callWith_type1 (PyProof.Rows.args_cons (thn (ha.run pins s σ H _ I h) fun v s1 ⟨x, H1, I1, r1, q1⟩ => PyProof.Rows.args_nil ?_) na) na rfl
  obtain ⟨l, ns, rfl, hq, hl, q1⟩ := q1
  cases r1
  obtain ⟨its, r, pl, hz⟩ := I1.list hq
  have hlen : its.toArray.size = ns.length := by rw [List.size_toArray, ← r.length, List.length_map]
  refine call_set_list (I1.ok.hd hc) pl.isList (by simpa using ints_of r) (by rw [hlen]; unfold scanBound; omega) fun h' tk hS hk => ?_
  refine PyProof.Rows.args_nil ?_
  rw [hlen] at hS
  have hle := PyProof.Rows.firstMet_length_le (fun i => ns.getD i 0) ns.length
  obtain ⟨o, es, ep, t, ho, hex, hd, _, _, _, hf, hn⟩ := hS
  have I2 : Inv X pins σ H1 { s1 with heap := h', toks := tk } := I1.kept fun b o e => hk b o (Heap.lt_size e) e
  exact call_len_set ho hex hd hf (by rw [hn]; omega) ⟨.int ((dd ns).length : Nat), H1, I2.tok _, ⟨_, by rw [hn]; rfl⟩, q1⟩
end
end Su
namespace Su
open PySem PySem.Spec PyProof.Rows L2
abbrev wayVs : List V := [.str "last", .str "first", .str "tree"]
abbrev sizeVs : List V := [.int 1, .int 2, .int 4, .int 8]
structure Gb (K : PySem.W.Frag) (mg : Str → Option Value) : Prop where
  last : ∃ t, mg "LAST_ROOM" = some (.int 99 t)
  most : ∃ t, mg "MOST_SLOTS" = some (.int 8 t)
  empty : ∃ t, mg "EMPTY" = some (.int (-1) t)
  ways : ∃ a, mg "WAYS" = some (.ref a) ∧ ∀ H, SqT K H a wayVs
  sizes : ∃ a, mg "TREE_SIZES" = some (.ref a) ∧ ∀ H, SqT K H a sizeVs
def wholeG : G → Bool
  | .int _ => true
  | _ => false
def roomG : G → Bool
  | .int i => decide (0 ≤ i) && decide (i ≤ 99)
  | _ => false
def slotG : G → Bool
  | .int i => (decide (0 ≤ i) && decide (i ≤ 99)) || decide (i = -1)
  | _ => false
def bitG : G → Bool
  | .int i => decide (0 ≤ i) && decide (i ≤ 1)
  | _ => false
def wayG : G → Bool
  | .str s => inV (.str s) wayVs
  | _ => false
def sizeG : G → Str → Bool
  | .int n, s => (decide (1 ≤ n) && decide (n ≤ 8)) && (!decide (s = "tree") || inV (.int n) sizeVs)
  | _, _ => false
def bitsN (n : Int) (s : Str) : Int := if s = "tree" then n - 1 else 0
def spWhole : Sp := fun vs H Q _ => ∃ (p : Addr) (v : V) (g : G), vs = [v] ∧ Tg p H v g ∧ Q (.bl (wholeG g)) H
def spRoom : Sp := fun vs H Q _ => ∃ (p : Addr) (v : V) (g : G), vs = [v] ∧ Tg p H v g ∧ Q (.bl (roomG g)) H
def spSlot : Sp := fun vs H Q _ => ∃ (p : Addr) (v : V) (g : G), vs = [v] ∧ Tg p H v g ∧ Q (.bl (slotG g)) H
def spBit : Sp := fun vs H Q _ => ∃ (p : Addr) (v : V) (g : G), vs = [v] ∧ Tg p H v g ∧ Q (.bl (bitG g)) H
def spWay : Sp := fun vs H Q _ => ∃ (p : Addr) (v : V) (g : G), vs = [v] ∧ Tg p H v g ∧ Q (.bl (wayG g)) H
def spSize : Sp := fun vs H Q _ => ∃ (p : Addr) (v : V) (g : G) (s : Str), vs = [v, .str s] ∧ Tg p H v g ∧ Q (.bl (sizeG g s)) H
def spHow : Sp := fun vs H Q _ => ∃ (n : Int) (s : Str), vs = [.int n, .str s] ∧ Q (.int (bitsN n s)) H
theorem scIsWhole : FnScope ["thing"] ["thing"] (defScope sIsWhole) := ⟨rfl, rfl, rfl, by decide +kernel, rfl, by decide +kernel, by decide +kernel⟩
theorem scIsRoom : FnScope ["thing"] ["thing"] (defScope sIsRoom) := ⟨rfl, rfl, rfl, by decide +kernel, rfl, by decide +kernel, by decide +kernel⟩
theorem scIsWay : FnScope ["thing"] ["thing"] (defScope sIsWay) := ⟨rfl, rfl, rfl, by decide +kernel, rfl, by decide +kernel, by decide +kernel⟩
theorem scIsSize : FnScope ["thing", "way"] ["thing", "way"] (defScope sIsSize) := ⟨rfl, rfl, rfl, by decide +kernel, rfl, by decide +kernel, by decide +kernel⟩
theorem scHowMany : FnScope ["size", "way"] ["size", "way"] (defScope sHowMany) := ⟨rfl, rfl, rfl, by decide +kernel, rfl, by decide +kernel, by decide +kernel⟩
theorem scIsSlot : FnScope ["thing"] ["thing"] (defScope sIsSlot) := ⟨rfl, rfl, rfl, by decide +kernel, rfl, by decide +kernel, by decide +kernel⟩
theorem scIsBit : FnScope ["thing"] ["thing"] (defScope sIsBit) := ⟨rfl, rfl, rfl, by decide +kernel, rfl, by decide +kernel, by decide +kernel⟩
section
variable {P : Program} {w : World} {K : PySem.W.Frag} {mg : Str → Option Value} {base : Heap}
theorem ok_whole (T : At K mg "is_whole" sIsWhole ["thing"]) (B : Bt mg) : Cal P w K mg base 1 "is_whole" ["thing"] spWhole := by
  refine cal_of T scIsWhole (fun vs H Q E h => ?_) (fun f cdv A outer s H vs Q E hr h => ?_)
  · obtain ⟨p, v, g, rfl, _⟩ := h
    rfl
  · obtain ⟨p, v, g, rfl, hv, q⟩ := h
    refine ⟨_, (pss_one (ps_ret (pe_and (pe_callB call_isi (by rfl) B.isinstance (by decide +kernel) (pa_cons (pv 0) (pa_cons (pe_bltn (v := .ty "int") (u := .type "int") (by rfl) B.int (by decide +kernel) rfl) pa_nil))) (pe_one (pe_not (pe_callB call_isi (by rfl) B.isinstance (by decide +kernel) (pa_cons (pv 0) (pa_cons (pe_bltn (v := .ty "bool") (u := .type "bool") (by rfl) B.bool (by decide +kernel) rfl) pa_nil)))))))), ?_⟩
    refine ⟨_, rfl, v, .ty "int", _, _, _, rfl, .ty "int", hv.ty, kit_int g, _, rfl, iteB (fun e => ?_) (fun e => ?_)⟩
    · refine ⟨_, rfl, v, .ty "bool", _, _, _, rfl, .ty "bool", hv.ty, kit_bool g, _, rfl, ?_⟩
      have z : (!isBool g) = wholeG g := by
        cases g <;> first | rfl | cases e
      rw [z]
      exact q
    · have z : false = wholeG g := by
        cases g <;> first | rfl | cases e
      rw [z]
      exact q
theorem whole_int {p : Addr} {H : Hp} {v : V} {g : G} (h : Tg p H v g) (e : wholeG g = true) : ∃ i, v = .int i ∧ g = .int i := by
  cases h with
  | int i => exact ⟨i, rfl, rfl⟩
  | _ => cases e
theorem ok_room (T : At K mg "is_room" sIsRoom ["thing"]) (D : Gb K mg) (c_is_whole : Cal P w K mg base 1 "is_whole" ["thing"] spWhole) : Cal P w K mg base 2 "is_room" ["thing"] spRoom := by
  obtain ⟨tl, mLast⟩ := D.last
  refine cal_of T scIsRoom (fun vs H Q E h => ?_) (fun f cdv A outer s H vs Q E hr h => ?_)
  · obtain ⟨p, v, g, rfl, _⟩ := h
    rfl
  · obtain ⟨p, v, g, rfl, hv, q⟩ := h
    refine ⟨_, (pss_one (ps_ret (pe_and (pe_own c_is_whole hr (by decide) (by rfl) (pa_cons (pv 0) pa_nil)) (pe_one (pe_chain op_le op_le pe_int (pv 0) (pe_glob (v := .int 99) rfl mLast ⟨_, rfl⟩)))))), ?_⟩
    refine ⟨_, rfl, p, v, g, rfl, hv, _, rfl, iteB (fun e => ?_) (fun e => ?_)⟩
    · obtain ⟨i, rfl, rfl⟩ := whole_int hv e
      refine ⟨_, rfl, _, _, rfl, rfl, _, rfl, iteB (fun e1 => ?_) (fun e1 => ?_)⟩
      · refine ⟨_, _, rfl, rfl, ?_⟩
        have z : decide (i ≤ 99) = roomG (.int i) := by
          show decide (i ≤ 99) = (decide (0 ≤ i) && decide (i ≤ 99))
          rw [e1, Bool.true_and]
        rw [← z] at q
        exact q
      · have z : false = roomG (.int i) := by
          show false = (decide (0 ≤ i) && decide (i ≤ 99))
          rw [e1, Bool.false_and]
        rw [z]
        exact q
    · have z : false = roomG g := by
        cases g <;> first | rfl | cases e
      rw [z]
      exact q
theorem ok_bit (T : At K mg "is_bit" sIsBit ["thing"]) (c_is_whole : Cal P w K mg base 1 "is_whole" ["thing"] spWhole) : Cal P w K mg base 2 "is_bit" ["thing"] spBit := by
  refine cal_of T scIsBit (fun vs H Q E h => ?_) (fun f cdv A outer s H vs Q E hr h => ?_)
  · obtain ⟨p, v, g, rfl, _⟩ := h
    rfl
  · obtain ⟨p, v, g, rfl, hv, q⟩ := h
    refine ⟨_, (pss_one (ps_ret (pe_and (pe_own c_is_whole hr (by decide) (by rfl) (pa_cons (pv 0) pa_nil)) (pe_one (pe_chain op_le op_le pe_int (pv 0) pe_int))))), ?_⟩
    refine ⟨_, rfl, p, v, g, rfl, hv, _, rfl, iteB (fun e => ?_) (fun e => ?_)⟩
    · obtain ⟨i, rfl, rfl⟩ := whole_int hv e
      refine ⟨_, rfl, _, _, rfl, rfl, _, rfl, iteB (fun e1 => ?_) (fun e1 => ?_)⟩
      · refine ⟨_, _, rfl, rfl, ?_⟩
        have z : decide (i ≤ 1) = bitG (.int i) := by
          show decide (i ≤ 1) = (decide (0 ≤ i) && decide (i ≤ 1))
          rw [e1, Bool.true_and]
        rw [← z] at q
        exact q
      · have z : false = bitG (.int i) := by
          show false = (decide (0 ≤ i) && decide (i ≤ 1))
          rw [e1, Bool.false_and]
        rw [z]
        exact q
    · have z : false = bitG g := by
        cases g <;> first | rfl | cases e
      rw [z]
      exact q
theorem ok_slot (T : At K mg "is_slot" sIsSlot ["thing"]) (D : Gb K mg) (c_is_whole : Cal P w K mg base 1 "is_whole" ["thing"] spWhole) (c_is_room : Cal P w K mg base 2 "is_room" ["thing"] spRoom) : Cal P w K mg base 3 "is_slot" ["thing"] spSlot := by
  obtain ⟨te, mEmpty⟩ := D.empty
  refine cal_of T scIsSlot (fun vs H Q E h => ?_) (fun f cdv A outer s H vs Q E hr h => ?_)
  · obtain ⟨p, v, g, rfl, _⟩ := h
    rfl
  · obtain ⟨p, v, g, rfl, hv, q⟩ := h
    refine ⟨_, (pss_one (ps_ret (pe_or (pe_own c_is_room hr (by decide) (by rfl) (pa_cons (pv 0) pa_nil)) (pe_one (pe_and (pe_own c_is_whole hr (by decide) (by rfl) (pa_cons (pv 0) pa_nil)) (pe_one (pe_cmpR op_eq (pv 0) (pe_glob (v := .int (-1)) rfl mEmpty ⟨_, rfl⟩) (nomark _)))))))), ?_⟩
    refine ⟨_, rfl, p, v, g, rfl, hv, _, rfl, iteB (fun e => ?_) (fun e => ?_)⟩
    · have z : true = slotG g := by
        cases g with
        | int i =>
          show true = ((decide (0 ≤ i) && decide (i ≤ 99)) || decide (i = -1))
          rw [show (decide (0 ≤ i) && decide (i ≤ 99)) = true from e, Bool.true_or]
        | _ => cases e
      rw [z]
      exact q
    · refine ⟨_, rfl, p, v, g, rfl, hv, _, rfl, iteB (fun e1 => ?_) (fun e1 => ?_)⟩
      · obtain ⟨i, rfl, rfl⟩ := whole_int hv e1
        refine ⟨_, rfl, rfl, ?_⟩
        have z : decide (V.int i = V.int (-1)) = slotG (.int i) := by
          show decide (V.int i = V.int (-1)) = ((decide (0 ≤ i) && decide (i ≤ 99)) || decide (i = -1))
          rw [show (decide (0 ≤ i) && decide (i ≤ 99)) = false from e, Bool.false_or]
          by_cases y : i = -1
          · subst y
            rfl
          · rw [decide_eq_false y, decide_eq_false (fun h => y (V.int.inj h))]
        rw [z]
        exact q
      · have z : false = slotG g := by
          cases g <;> first | rfl | cases e1
        rw [z]
        exact q
theorem ok_way (T : At K mg "is_way" sIsWay ["thing"]) (B : Bt mg) (D : Gb K mg) : Cal P w K mg base 1 "is_way" ["thing"] spWay := by
  obtain ⟨aWays, mWays, hW⟩ := D.ways
  refine cal_of T scIsWay (fun vs H Q E h => ?_) (fun f cdv A outer s H vs Q E hr h => ?_)
  · obtain ⟨p, v, g, rfl, _⟩ := h
    rfl
  · obtain ⟨p, v, g, rfl, hv, q⟩ := h
    refine ⟨_, (pss_one (ps_ret (pe_and (pe_callB call_isi (by rfl) B.isinstance (by decide +kernel) (pa_cons (pv 0) (pa_cons (pe_bltn (v := .ty "str") (u := .type "str") (by rfl) B.str (by decide +kernel) rfl) pa_nil))) (pe_one (pe_cmpR op_in_seq (pv 0) (pe_glob (v := .ref aWays) rfl mWays rfl) (by rfl)))))), ?_⟩
    refine ⟨_, rfl, v, .ty "str", _, _, _, rfl, .ty "str", hv.ty, kit_str g, _, rfl, iteB (fun e => ?_) (fun e => ?_)⟩
    · cases hv with
      | str s =>
        refine ⟨_, rfl, aWays, wayVs, rfl, .inr (hW H), rfl, rfl, ?_⟩
        exact q
      | _ => cases e
    · have z : false = wayG g := by
        cases g <;> first | rfl | cases e
      rw [z]
      exact q
theorem ok_size (T : At K mg "is_size" sIsSize ["thing", "way"]) (D : Gb K mg) (c_is_whole : Cal P w K mg base 1 "is_whole" ["thing"] spWhole) : Cal P w K mg base 2 "is_size" ["thing", "way"] spSize := by
  obtain ⟨tm, mMost⟩ := D.most
  obtain ⟨aSizes, mSizes, hZ⟩ := D.sizes
  refine cal_of T scIsSize (fun vs H Q E h => ?_) (fun f cdv A outer s H vs Q E hr h => ?_)
  · obtain ⟨p, v, g, s, rfl, _⟩ := h
    rfl
  · obtain ⟨p, v, g, s, rfl, hv, q⟩ := h
    refine ⟨_, (pss_cons (ps_if (PW.pt (pw_or (pt_not (pt_val (pe_own c_is_whole hr (by decide) (by rfl) (pa_cons (pv 0) pa_nil)))) (pw_or1 (pt_not (pt_chain op_le op_le pe_int (pv 0) (pe_glob (v := .int 8) rfl mMost ⟨_, rfl⟩)))))) (pss_one (ps_ret pe_bl)) pss_nil)
      (pss_one (ps_ret (pe_or (pe_cmpR op_ne (pv 1) pe_str (nomark _)) (pe_one (pe_cmpR op_in_seq (pv 0) (pe_glob (v := .ref aSizes) rfl mSizes rfl) (by rfl))))))), ?_⟩
    refine ⟨_, rfl, p, v, g, rfl, hv, _, rfl, iteB (fun e => ?_) (fun e => ?_)⟩
    · have z : false = sizeG g s := by
        cases g <;> first | rfl | cases e
      rw [z]
      exact q
    · have e' : wholeG g = true := by
        cases y : wholeG g with
        | true => rfl
        | false =>
          rw [y] at e
          cases e
      obtain ⟨i, rfl, rfl⟩ := whole_int hv e'
      have q : Q (.bl ((decide (1 ≤ i) && decide (i ≤ 8)) && (!decide (s = "tree") || inV (.int i) sizeVs))) H := q
      refine ⟨_, rfl, _, _, rfl, rfl, _, rfl, iteB (fun e1 => ?_) (fun e1 => ?_)⟩
      · rw [e1, Bool.true_and] at q
        refine ⟨_, _, rfl, rfl, _, rfl, iteB (fun e2 => ?_) (fun e2 => ?_)⟩
        · have e3 : decide (i ≤ 8) = false := by simpa using e2
          rw [e3, Bool.false_and] at q
          exact q
        · have e3 : decide (i ≤ 8) = true := by simpa using e2
          rw [e3, Bool.true_and] at q
          refine ⟨_, rfl, rfl, _, rfl, iteB (fun e4 => ?_) (fun e4 => ?_)⟩
          · have e5 : decide (s = "tree") = false := by
              cases y : decide (s = ("tree" : Str)) with
              | false => rfl
              | true =>
                rw [of_decide_eq_true y] at e4
                exact absurd e4 (by decide)
            rw [e5] at q
            exact q
          · have e5 : decide (s = "tree") = true := by
              cases y : decide (V.str s = V.str "tree") with
              | false =>
                rw [y] at e4
                cases e4
              | true => exact decide_eq_true (V.str.inj (of_decide_eq_true y))
            rw [e5] at q
            exact ⟨_, rfl, aSizes, sizeVs, rfl, .inr (hZ H), rfl, rfl, q⟩
      · rw [e1, Bool.false_and, Bool.false_and] at q
        exact ⟨_, rfl, iteT q⟩
theorem ok_how (T : At K mg "how_many_bits" sHowMany ["size", "way"]) : Cal P w K mg base 1 "how_many_bits" ["size", "way"] spHow := by
  refine cal_of T scHowMany (fun vs H Q E h => ?_) (fun f cdv A outer s H vs Q E hr h => ?_)
  · obtain ⟨n, s, rfl, _⟩ := h
    rfl
  · obtain ⟨n, s, rfl, q⟩ := h
    refine ⟨_, (pss_one (ps_ret (pe_ifExp (pt_cmpR op_eq (pv 1) pe_str (nomark _)) (pe_op op_sub (pv 0) pe_int) pe_int))), ?_⟩
    unfold bitsN at q
    refine ⟨_, rfl, rfl, _, rfl, iteB (fun e => ?_) (fun e => ?_)⟩
    · rw [if_pos (V.str.inj (of_decide_eq_true e))] at q
      exact ⟨_, rfl, _, _, rfl, rfl, q⟩
    · rw [if_neg (fun z => by rw [z] at e; exact absurd e (by decide))] at q
      exact q
end
end Su
namespace Su
open PySem PySem.Spec PyProof.Rows L2
def numG : G → Int
  | .int i => i
  | _ => 0
/-- the rooms among slots -/
def roomsOf (ds : List G) : List Int := (ds.map numG).filter fun i => !decide (i = -1)
def areSlotsG : G → Int → Bool
  | .tup ds, n => decide ((ds.length : Int) = n) && (ds.all slotG && decide ((dd (roomsOf ds)).length = (roomsOf ds).length))
  | _, _ => false
def areBitsG : G → Int → Str → Bool
  | .tup ds, n, s => decide ((ds.length : Int) = bitsN n s) && ds.all bitG
  | _, _, _ => false
/-- its tuples are not long -/
def few : G → Prop
  | .tup ds => ds.length ≤ 100
  | _ => True
def few2 : G → Prop
  | .tup ds => ∀ d ∈ ds, few d
  | _ => True
def layG (g gs gw : G) : Bool := match gs, gw, g with
  | .int n, .str s, .tup [d1, d2] => wayG (.str s) && (sizeG (.int n) s && (areSlotsG d1 n && areBitsG d2 n s))
  | _, _, _ => false
def spSlots : Sp := fun vs H Q _ => ∃ (p : Addr) (v : V) (g : G) (n : Int), vs = [v, .int n] ∧ Tg p H v g ∧ few g ∧ ∀ H', Same H H' → Q (.bl (areSlotsG g n)) H'
def spBits : Sp := fun vs H Q _ => ∃ (p : Addr) (v : V) (g : G) (n : Int) (s : Str), vs = [v, .int n, .str s] ∧ Tg p H v g ∧ few g ∧ ∀ H', Same H H' → Q (.bl (areBitsG g n s)) H'
def spLay : Sp := fun vs H Q _ => ∃ (p : Addr) (v vs' vw : V) (g gs gw : G), vs = [v, vs', vw] ∧ Tg p H v g ∧ Tg p H vs' gs ∧ Tg p H vw gw ∧ few2 g ∧ ∀ H', Same H H' → Q (.bl (layG g gs gw)) H'
theorem tg_tup {p : Addr} {H : Hp} {v : V} {g : G} (h : Tg p H v g) (e : isTuple g = true) : ∃ a vs ds, v = .ref a ∧ g = .tup ds ∧ T2 H a vs ∧ TgL p H vs ds := by
  cases h with
  | tup e2 t => exact ⟨_, _, _, rfl, rfl, e2, t⟩
  | _ => cases e
theorem all_map (f : G → Bool) (ds : List G) : ((ds.map f).all id) = ds.all f := by
  rw [List.all_map]
  rfl
theorem bTrue {b : Bool} (h : (!b) = false) : b = true := by
  cases b
  · cases h
  · rfl
theorem bFalse {b : Bool} (h : (!b) = true) : b = false := by
  cases b
  · rfl
  · cases h
theorem dec_int' (a b : Int) : decide (V.int a = V.int b) = decide (a = b) := by
  by_cases h : a = b
  · subst h
    rw [decide_eq_true rfl, decide_eq_true rfl]
  · rw [decide_eq_false h, decide_eq_false (fun z => h (V.int.inj z))]
theorem scAreSlots : FnScope ["thing", "size", "rooms", "slot"] ["thing", "size"] (defScope sAreSlots) := ⟨rfl, rfl, rfl, by decide +kernel, rfl, by decide +kernel, by decide +kernel⟩
theorem scAreBits : FnScope ["thing", "size", "way", "bit"] ["thing", "size", "way"] (defScope sAreBits) := ⟨rfl, rfl, rfl, by decide +kernel, rfl, by decide +kernel, by decide +kernel⟩
section
variable {P : Program} {w : World} {K : PySem.W.Frag} {mg : Str → Option Value} {base : Heap}
theorem ok_slots (T : At K mg "are_slots" sAreSlots ["thing", "size"]) (B : Bt mg) (D : Gb K mg) (c_is_slot : Cal P w K mg base 3 "is_slot" ["thing"] spSlot) : Cal P w K mg base 4 "are_slots" ["thing", "size"] spSlots := by
  obtain ⟨te, mEmpty⟩ := D.empty
  refine cal_of T scAreSlots (fun vs H Q E h => ?_) (fun f cdv A outer s H vs Q E hr h => ?_)
  · obtain ⟨p, v, g, n, rfl, _⟩ := h
    rfl
  · obtain ⟨p, v, g, n, rfl, hv, hf, q⟩ := h
    refine ⟨_, (pss_cons (ps_if (PW.pt (pw_or (pt_not (pt_val (pe_callB call_isi (by rfl) B.isinstance (by decide +kernel) (pa_cons (pv 0) (pa_cons (pe_bltn (v := .ty "tuple") (u := .type "tuple") (by rfl) B.tuple (by decide +kernel) rfl) pa_nil))))) (pw_or1 (pt_cmpR op_ne (pe_callB call_len_seq (by rfl) B.len PySem.boot_len (pa_cons (pv 0) pa_nil)) (pv 1) (nomark _))))) (pss_one (ps_ret pe_bl)) pss_nil)
      (pss_cons (ps_if (pt_not (pt_val (pe_callB (cr_all rfl) (by rfl) B.all (by decide +kernel) (pa_cons (pe_lc (own := [("slot", 3)]) (g := (gName 3)) (tt := tYes) (te := (tCall spSlot [] E0 (tCons (tVar 3) tNil))) (by rfl) scAreSlots.nd (pi_tup (pv 0)) (blkOk_by (own := [("slot", 3)]) (N := ["thing", "size", "rooms", "slot"]) (sc := defScope sAreSlots) (by decide +kernel)) (fun _ _ _ _ _ => (pg_name (i := 3) scAreSlots.nd rfl (Or.inl rfl))) (fun _ _ _ _ _ => pts_nil) (fun _ _ _ _ _ => (pe_own c_is_slot hr (by decide) (by rfl) (pa_cons (pv 3) pa_nil)))) pa_nil)))) (pss_one (ps_ret pe_bl)) pss_nil)
      (pss_cons (ps_setLc (i := 2) (own := [("slot", 3)]) (g := (gName 3)) (tt := (tTest (tOp rNe (tVar 3) (tC (.int (-1)))))) (te := (tVar 3)) (by rfl) scAreSlots.nd rfl rfl (sw_true rfl rfl rfl (by decide +kernel)) (pi_tup (pv 0)) (blkOk_by (own := [("slot", 3)]) (N := ["thing", "size", "rooms", "slot"]) (sc := defScope sAreSlots) (by decide +kernel)) (fun _ _ _ _ _ => (pg_name (i := 3) scAreSlots.nd rfl (Or.inl rfl))) (fun _ _ _ _ _ => pts_one (pt_cmpR op_ne (pv 3) (pe_glob (v := .int (-1)) rfl mEmpty ⟨_, rfl⟩) (nomark _))) (fun _ _ _ _ _ => (pv 3)))
      (pss_one (ps_ret (pe_cmpR op_eq (pe_lenSet (by rfl) B.len (by rfl) B.set (pv 2)) (pe_callB call_len_seq (by rfl) B.len PySem.boot_len (pa_cons (pv 2) pa_nil)) (nomark _))))))), ?_⟩
    refine ⟨_, rfl, v, .ty "tuple", _, _, _, rfl, .ty "tuple", hv.ty, kit_tuple g, _, rfl, iteB (fun e => ?_) (fun e => ?_)⟩
    · have z : false = areSlotsG g n := by
        have e' := bFalse e
        cases g <;> first | rfl | cases e'
      have q' := q H (Same.refl H)
      rw [← z] at q'
      exact q'
    obtain ⟨a, ws, ds, rfl, rfl, tw, tl⟩ := tg_tup hv (bTrue e)
    have q : ∀ H', Same H H' → Q (.bl (decide ((ds.length : Int) = n) && (ds.all slotG && decide ((dd (roomsOf ds)).length = (roomsOf ds).length)))) H' := q
    have hf : ds.length ≤ 100 := hf
    have hwl : ws.length = ds.length := tl.len
    refine ⟨_, rfl, a, _, rfl, .inr tw.sq, _, rfl, rfl, _, rfl, iteB (fun e1 => ?_) (fun e1 => ?_)⟩
    · have z : decide ((ds.length : Int) = n) = false := by
        have y := bFalse e1
        rw [dec_int', hwl] at y
        exact y
      have q' := q H (Same.refl H)
      rw [z, Bool.false_and] at q'
      exact q'
    have z1 : decide ((ds.length : Int) = n) = true := by
      have y := bTrue e1
      rw [dec_int', hwl] at y
      exact y
    rw [z1] at q
    -- all([is_slot(slot) for slot in thing])
    refine ⟨_, rfl, a, rfl, ⟨_, tw.sq⟩, fun D nD => ?_⟩
    refine lc_tup (K := K) (a := a) (xs := ws) (fun i H2 => Same H H2 ∧ H2 D = some (.lst (((ds.take i).map slotG).map V.bl))) ?_ ?_ ?_ ?_
    · exact ⟨same_upd nD, upd_same⟩
    · rintro i H2 _ ⟨s2, _⟩
      exact ((Keeps.same (p := p) s2).tw _ _ tw).sq
    · rintro i x H2 hx ⟨s2, hD⟩
      obtain ⟨g0, eg, hg0⟩ := tl.get hx
      refine ⟨rfl, tyes ?_⟩
      refine ⟨_, rfl, p, x, g0, rfl, hg0.keep (Keeps.same s2), _, hD, ?_, ?_, ?_⟩
      · rw [List.length_map, List.length_map, List.length_take]
        exact small1000 (by omega)
      · intro c o ec
        rw [upd_ne (ne_of_none ec nD)]
        exact s2 _ _ ec
      · rw [upd_same, List.take_add_one, eg, List.map_append, List.map_append]
        rfl
    · rintro H2 ⟨s2, hD⟩
      rw [hwl, List.take_length] at hD
      refine ⟨D, ds.map slotG, rfl, SqL.of hD, _, rfl, ?_⟩
      rw [all_map]
      refine iteB (fun e2 => ?_) (fun e2 => ?_)
      · have q' := q H2 s2
        rw [bFalse e2] at q'
        exact q'
      have e3 := bTrue e2
      rw [e3] at q
      -- rooms
      have tw2 := (Keeps.same (p := p) s2).tw _ _ tw
      refine ⟨_, rfl, a, rfl, ⟨_, tw2.sq⟩, fun D2 nD2 => ?_⟩
      refine lc_tup (K := K) (a := a) (xs := ws) (fun i H3 => Same H2 H3 ∧ H3 D2 = some (.lst ((roomsOf (ds.take i)).map V.int))) ?_ ?_ ?_ ?_
      · exact ⟨same_upd nD2, upd_same⟩
      · rintro i H3 _ ⟨s3, _⟩
        exact ((Keeps.same (p := p) s3).tw _ _ tw2).sq
      · rintro i x H3 hx ⟨s3, hD3⟩
        obtain ⟨g0, eg, hg0⟩ := tl.get hx
        have hsg : slotG g0 = true := List.all_eq_true.mp e3 g0 (List.mem_of_getElem? eg)
        obtain ⟨j, rfl, rfl⟩ : ∃ j, x = .int j ∧ g0 = .int j := by
          cases hg0 with
          | int j => exact ⟨j, rfl, rfl⟩
          | _ => cases hsg
        have et : roomsOf (ds.take (i + 1)) = roomsOf (ds.take i) ++ ([j].filter fun i => !decide (i = -1)) := by
          unfold roomsOf
          rw [List.take_add_one, eg, List.map_append, List.filter_append]
          rfl
        refine ⟨rfl, _, rfl, rfl, _, rfl, ?_⟩
        by_cases ee : j = -1
        · refine iteNS (congrArg V.int ee) ⟨s3, ?_⟩
          rw [et, List.filter_cons_of_neg (by simpa using ee), List.filter_nil, List.append_nil]
          exact hD3
        · refine iteNT (fun y => ee (V.int.inj y)) ?_
          refine ⟨_, rfl, _, hD3, ?_, ?_, ?_⟩
          · rw [List.length_map]
            have h1 := List.length_filter_le (fun i : Int => !decide (i = -1)) ((ds.take i).map numG)
            rw [List.length_map, List.length_take] at h1
            exact small1000 (show (roomsOf (ds.take i)).length ≤ 1000 by unfold roomsOf; omega)
          · intro c o ec
            rw [upd_ne (ne_of_none ec nD2)]
            exact s3 _ _ ec
          · rw [upd_same, et, List.filter_cons_of_pos (by simpa using ee), List.filter_nil, List.map_append]
            rfl
      · rintro H3 ⟨s3, hD3⟩
        rw [hwl, List.take_length] at hD3
        have hrl : (roomsOf ds).length ≤ 1000 := by
          have h1 := List.length_filter_le (fun i : Int => !decide (i = -1)) (ds.map numG)
          rw [List.length_map] at h1
          unfold roomsOf
          omega
        refine ⟨_, rfl, D2, roomsOf ds, rfl, SqL.of hD3, hrl, _, rfl, D2, _, rfl, .inl (SqL.of hD3), rfl, ?_⟩
        rw [dec_int', List.length_map]
        have q' := q H3 (s2.trans s3)
        rw [show decide (((dd (roomsOf ds)).length : Int) = ((roomsOf ds).length : Int)) = decide ((dd (roomsOf ds)).length = (roomsOf ds).length) by
          by_cases y : (dd (roomsOf ds)).length = (roomsOf ds).length
          · rw [decide_eq_true y, decide_eq_true (by omega)]
          · rw [decide_eq_false y, decide_eq_false (by omega)]]
        exact q'
theorem ok_bits (T : At K mg "are_bits" sAreBits ["thing", "size", "way"]) (B : Bt mg) (c_is_bit : Cal P w K mg base 2 "is_bit" ["thing"] spBit) (c_how_many_bits : Cal P w K mg base 1 "how_many_bits" ["size", "way"] spHow) : Cal P w K mg base 3 "are_bits" ["thing", "size", "way"] spBits := by
  refine cal_of T scAreBits (fun vs H Q E h => ?_) (fun f cdv A outer s H vs Q E hr h => ?_)
  · obtain ⟨p, v, g, n, z, rfl, _⟩ := h
    rfl
  · obtain ⟨p, v, g, n, y, rfl, hv, hf, q⟩ := h
    refine ⟨_, (pss_cons (ps_if (PW.pt (pw_or (pt_not (pt_val (pe_callB call_isi (by rfl) B.isinstance (by decide +kernel) (pa_cons (pv 0) (pa_cons (pe_bltn (v := .ty "tuple") (u := .type "tuple") (by rfl) B.tuple (by decide +kernel) rfl) pa_nil))))) (pw_or1 (pt_cmpR op_ne (pe_callB call_len_seq (by rfl) B.len PySem.boot_len (pa_cons (pv 0) pa_nil)) (pe_own c_how_many_bits hr (by decide) (by rfl) (pa_cons (pv 1) (pa_cons (pv 2) pa_nil))) (nomark _))))) (pss_one (ps_ret pe_bl)) pss_nil)
      (pss_one (ps_ret (pe_callB (cr_all rfl) (by rfl) B.all (by decide +kernel) (pa_cons (pe_lc (own := [("bit", 3)]) (g := (gName 3)) (tt := tYes) (te := (tCall spBit [] E0 (tCons (tVar 3) tNil))) (by rfl) scAreBits.nd (pi_tup (pv 0)) (blkOk_by (own := [("bit", 3)]) (N := ["thing", "size", "way", "bit"]) (sc := defScope sAreBits) (by decide +kernel)) (fun _ _ _ _ _ => (pg_name (i := 3) scAreBits.nd rfl (Or.inl rfl))) (fun _ _ _ _ _ => pts_nil) (fun _ _ _ _ _ => (pe_own c_is_bit hr (by decide) (by rfl) (pa_cons (pv 3) pa_nil)))) pa_nil))))), ?_⟩
    refine ⟨_, rfl, v, .ty "tuple", _, _, _, rfl, .ty "tuple", hv.ty, kit_tuple g, _, rfl, iteB (fun e => ?_) (fun e => ?_)⟩
    · have z : false = areBitsG g n y := by
        have e' := bFalse e
        cases g <;> first | rfl | cases e'
      have q' := q H (Same.refl H)
      rw [← z] at q'
      exact q'
    obtain ⟨a, ws, ds, rfl, rfl, tw, tl⟩ := tg_tup hv (bTrue e)
    have q : ∀ H', Same H H' → Q (.bl (decide ((ds.length : Int) = bitsN n y) && ds.all bitG)) H' := q
    have hf : ds.length ≤ 100 := hf
    have hwl : ws.length = ds.length := tl.len
    refine ⟨_, rfl, a, _, rfl, .inr tw.sq, _, rfl, _, rfl, n, y, rfl, rfl, _, rfl, iteB (fun e1 => ?_) (fun e1 => ?_)⟩
    · have z : decide ((ds.length : Int) = bitsN n y) = false := by
        have y := bFalse e1
        rw [dec_int', hwl] at y
        exact y
      have q' := q H (Same.refl H)
      rw [z, Bool.false_and] at q'
      exact q'
    have z1 : decide ((ds.length : Int) = bitsN n y) = true := by
      have y := bTrue e1
      rw [dec_int', hwl] at y
      exact y
    rw [z1] at q
    refine ⟨_, rfl, a, rfl, ⟨_, tw.sq⟩, fun D nD => ?_⟩
    refine lc_tup (K := K) (a := a) (xs := ws) (fun i H2 => Same H H2 ∧ H2 D = some (.lst (((ds.take i).map bitG).map V.bl))) ?_ ?_ ?_ ?_
    · exact ⟨same_upd nD, upd_same⟩
    · rintro i H2 _ ⟨s2, _⟩
      exact ((Keeps.same (p := p) s2).tw _ _ tw).sq
    · rintro i x H2 hx ⟨s2, hD⟩
      obtain ⟨g0, eg, hg0⟩ := tl.get hx
      refine ⟨rfl, tyes ?_⟩
      refine ⟨_, rfl, p, x, g0, rfl, hg0.keep (Keeps.same s2), _, hD, ?_, ?_, ?_⟩
      · rw [List.length_map, List.length_map, List.length_take]
        exact small1000 (by omega)
      · intro c o ec
        rw [upd_ne (ne_of_none ec nD)]
        exact s2 _ _ ec
      · rw [upd_same, List.take_add_one, eg, List.map_append, List.map_append]
        rfl
    · rintro H2 ⟨s2, hD⟩
      rw [hwl, List.take_length] at hD
      refine ⟨D, ds.map bitG, rfl, SqL.of hD, ?_⟩
      rw [all_map]
      exact q H2 s2
theorem tg_str {p : Addr} {H : Hp} {v : V} {g : G} (h : Tg p H v g) (e : wayG g = true) : ∃ s, v = .str s ∧ g = .str s := by
  cases h with
  | str s => exact ⟨s, rfl, rfl⟩
  | _ => cases e
theorem tg_size {p : Addr} {H : Hp} {v : V} {g : G} {s : Str} (h : Tg p H v g) (e : sizeG g s = true) : ∃ i, v = .int i ∧ g = .int i := by
  cases h with
  | int i => exact ⟨i, rfl, rfl⟩
  | _ => cases e
theorem layG_way {g gs gw : G} (e : wayG gw = false) : layG g gs gw = false := by
  unfold layG
  split
  · rw [e, Bool.false_and]
  · rfl
theorem layG_size {g gs : G} {s : Str} (e : sizeG gs s = false) : layG g gs (.str s) = false := by
  cases gs with
  | int n =>
    cases g with
    | tup ds =>
      match ds with
      | [] => rfl
      | [_] => rfl
      | [d1, d2] =>
        show (wayG (.str s) && (sizeG (.int n) s && (areSlotsG d1 n && areBitsG d2 n s))) = false
        rw [e, Bool.false_and, Bool.and_false]
      | _ :: _ :: _ :: _ => rfl
    | _ => rfl
  | _ => rfl
end
end Su
/-! ### S1: a shelf made, of things of any kind -/
namespace Su
open PySem PySem.Spec PyProof.Rows L2
def strG : G → Str
  | .str s => s
  | _ => ""
def isNon : G → Bool
  | .non => true
  | _ => false
/-- the part that isn't so -/
def partG (gz gw gc gm : G) : Option Str :=
  if wayG gw = true then (if sizeG gz (strG gw) = true then (if (!isNon gc && !areSlotsG gc (numG gz)) = true then some "slots" else if (!isNon gm && !areBitsG gm (numG gz) (strG gw)) = true then some "bits" else none) else some "size") else some "way"
def optV : Option Str → V
  | none => .non
  | some s => .str s
def spPart : Sp := fun vs H Q _ => ∃ (p : Addr) (vz vw vc vm : V) (gz gw gc gm : G), vs = [vz, vw, vc, vm] ∧ Tg p H vz gz ∧ Tg p H vw gw ∧ Tg p H vc gc ∧ Tg p H vm gm ∧ few gc ∧ few gm ∧ ∀ H', Same H H' → Q (optV (partG gz gw gc gm)) H'
theorem way_str {p : Addr} {H : Hp} {v : V} {g : G} (h : Tg p H v g) (e : wayG g = true) : ∃ s, v = .str s ∧ g = .str s := by
  cases h with
  | str s => exact ⟨s, rfl, rfl⟩
  | _ => cases e
theorem size_int {p : Addr} {H : Hp} {v : V} {g : G} {s : Str} (h : Tg p H v g) (e : sizeG g s = true) : ∃ n, v = .int n ∧ g = .int n := by
  cases h with
  | int n => exact ⟨n, rfl, rfl⟩
  | _ => cases e
theorem non_dec {p : Addr} {H : Hp} {v : V} {g : G} (h : Tg p H v g) : decide (v = .non) = isNon g := by
  cases h <;> rfl
theorem mid {R M : L2.St → Hp → Prop} {G : Prop} (hR : ∀ σ H, M σ H → R σ H) (h : (∀ σ H, M σ H → R σ H) → G) : G := h hR
theorem sc_wrong_part : FnScope ["size", "way", "slots", "bits"] ["size", "way", "slots", "bits"] (defScope s_wrong_part) := ⟨rfl, rfl, rfl, by decide +kernel, rfl, by decide +kernel, by decide +kernel⟩
section
variable {P : Program} {w : World} {K : PySem.W.Frag} {mg : Str → Option Value} {base : Heap}
theorem ok_part (T : At K mg "wrong_part" s_wrong_part ["size", "way", "slots", "bits"]) (c_is_way : Cal P w K mg base 1 "is_way" ["thing"] spWay) (c_is_size : Cal P w K mg base 2 "is_size" ["thing", "way"] spSize) (c_are_slots : Cal P w K mg base 4 "are_slots" ["thing", "size"] spSlots)
    (c_are_bits : Cal P w K mg base 3 "are_bits" ["thing", "size", "way"] spBits) : Cal P w K mg base 5 "wrong_part" ["size", "way", "slots", "bits"] spPart := by
  refine cal_of T sc_wrong_part (fun vs H Q E h => ?_) (fun f cdv A outer s H vs Q E hr h => ?_)
  · obtain ⟨p, vz, vw, vc, vm, gz, gw, gc, gm, rfl, _⟩ := h
    rfl
  · obtain ⟨p, vz, vw, vc, vm, gz, gw, gc, gm, rfl, hz, hw, hc, hm, fc, fm, q⟩ := h
    refine ⟨_, (pss_cons (ps_if (pt_not (pt_val (pe_own c_is_way hr (by decide) (by rfl) (pa_cons (pv 1) pa_nil)))) (pss_one (ps_ret pe_str)) pss_nil)
      (pss_cons (ps_if (pt_not (pt_val (pe_own c_is_size hr (by decide) (by rfl) (pa_cons (pv 0) (pa_cons (pv 1) pa_nil))))) (pss_one (ps_ret pe_str)) pss_nil)
      (pss_cons (ps_if (PW.pt (pw_and (pt_cmpR op_notN (pv 2) pe_non (nomark _)) (pw_and1 (pt_not (pt_val (pe_own c_are_slots hr (by decide) (by rfl) (pa_cons (pv 2) (pa_cons (pv 0) pa_nil)))))))) (pss_one (ps_ret pe_str)) pss_nil)
      (pss_cons (ps_if (PW.pt (pw_and (pt_cmpR op_notN (pv 3) pe_non (nomark _)) (pw_and1 (pt_not (pt_val (pe_own c_are_bits hr (by decide) (by rfl) (pa_cons (pv 3) (pa_cons (pv 0) (pa_cons (pv 1) pa_nil))))))))) (pss_one (ps_ret pe_str)) pss_nil)
      (pss_one (ps_ret pe_non)))))), ?_⟩
    refine ⟨_, rfl, p, vw, gw, rfl, hw, _, rfl, iteB (fun e => ?_) (fun e => ?_)⟩
    · have z := q H (Same.refl H)
      unfold partG at z
      rw [if_neg (by rw [bFalse e]; exact Bool.false_ne_true)] at z
      exact z
    have e1 := bTrue e
    obtain ⟨st, rfl, rfl⟩ := way_str hw e1
    unfold partG at q
    rw [if_pos e1] at q
    refine ⟨_, rfl, _, rfl, p, vz, gz, st, rfl, hz, _, rfl, iteB (fun e => ?_) (fun e => ?_)⟩
    · have z := q H (Same.refl H)
      rw [if_neg (by rw [show sizeG gz (strG (.str st)) = false from bFalse e]; exact Bool.false_ne_true)] at z
      exact z
    have e2 := bTrue e
    obtain ⟨n, rfl, rfl⟩ := size_int hz e2
    rw [if_pos (show sizeG (.int n) (strG (.str st)) = true from e2)] at q
    apply mid (M := fun σ H1 => σ = [some (.int n), some (.str st), some vc, some vm] ∧ Same H H1 ∧ (!isNon gc && !areSlotsG gc n) = false)
    case h =>
      intro rest
      refine ⟨_, rfl, rfl, _, rfl, ?_⟩
      rw [non_dec hc]
      refine iteB (fun z => ?_) (fun z => ?_)
      rotate_left
      · exact iteF (rest _ _ ⟨rfl, Same.refl H, by rw [z, Bool.false_and]⟩)
      refine ⟨_, rfl, _, rfl, p, vc, gc, n, rfl, hc, fc, fun H1 s1 => ⟨_, rfl, iteB (fun z2 => ?_) (fun z2 => ?_)⟩⟩
      · have y := q H1 s1
        rw [if_pos (show (!isNon gc && !areSlotsG gc (numG (.int n))) = true by rw [z, show (!areSlotsG gc (numG (.int n))) = true from z2]; rfl)] at y
        exact y
      · exact rest _ _ ⟨rfl, s1, by rw [z2, Bool.and_false]⟩
    case hR =>
      rintro _ H1 ⟨rfl, s1, e3⟩
      rw [if_neg (show ¬ (!isNon gc && !areSlotsG gc (numG (.int n))) = true by rw [show (!isNon gc && !areSlotsG gc (numG (.int n))) = false from e3]; exact Bool.false_ne_true)] at q
      have hm1 := hm.keep (Keeps.same s1)
      refine ⟨_, rfl, rfl, _, rfl, ?_⟩
      rw [non_dec hm]
      refine iteB (fun z => ?_) (fun z => ?_)
      rotate_left
      · refine iteF ?_
        have y := q H1 s1
        rw [if_neg (by rw [z, Bool.false_and]; exact Bool.false_ne_true)] at y
        exact y
      refine ⟨_, rfl, _, rfl, _, rfl, p, vm, gm, n, st, rfl, hm1, fm, fun H2 s2 => ⟨_, rfl, iteB (fun z2 => ?_) (fun z2 => ?_)⟩⟩
      · have y := q H2 (s1.trans s2)
        rw [if_pos (show (!isNon gm && !areBitsG gm (numG (.int n)) (strG (.str st))) = true by rw [z, show (!areBitsG gm (numG (.int n)) (strG (.str st))) = true from z2]; rfl)] at y
        exact y
      · have y := q H2 (s1.trans s2)
        rw [if_neg (show ¬ (!isNon gm && !areBitsG gm (numG (.int n)) (strG (.str st))) = true by rw [show (!areBitsG gm (numG (.int n)) (strG (.str st))) = false from z2, Bool.and_false]; exact Bool.false_ne_true)] at y
        exact y
end
end Su
/-! ### W1: how a row of a web is looked at, of a row that is one -/
namespace Su
open PySem PySem.Spec PyProof.Rows L2
structure GbW (mg : Str → Option Value) : Prop where
  last : ∃ t, mg "LAST_ROOM" = some (.int 99 t)
  rows : ∃ t, mg "MOST_ROWS" = some (.int 80 t)
  rooms : ∃ t, mg "MOST_ROOMS" = some (.int 12 t)
def spWholeI : Sp := fun vs H Q _ => ∃ (i : Int), vs = [.int i] ∧ Q (.bl true) H
def spRoomI : Sp := fun vs H Q _ => ∃ (i : Int), vs = [.int i] ∧ 0 ≤ i ∧ i ≤ 99 ∧ Q (.bl true) H
def spRising (K : PySem.W.Frag) : Sp := fun vs H Q _ => ∃ (a : Addr) (ns : List Int), vs = [.ref a] ∧ T2 H a (ns.map V.int) ∧ ns.Pairwise (· < ·) ∧ ns.length ≤ 1000 ∧ ∀ H', Same H H' → Q (.bl true) H'
def spRooms (K : PySem.W.Frag) : Sp := fun vs H Q _ => ∃ (a : Addr) (ns : List Int) (lo hi : Int), vs = [.ref a, .int lo, .int hi] ∧ T2 H a (ns.map V.int) ∧ Ris 0 99 ns ∧ lo ≤ ns.length ∧ ns.length ≤ hi ∧ ns.length ≤ 1000 ∧ ∀ H', Same H H' → Q (.bl true) H'
def spTos (K : PySem.W.Frag) : Sp := fun vs H Q _ => ∃ (a : Addr) (ns : List Int) (n : Nat), vs = [.ref a, .int n] ∧ T2 H a (ns.map V.int) ∧ Ris 0 ((n : Int) - 1) ns ∧ n ≤ 80 ∧ ∀ H', Same H H' → Q (.bl true) H'
def spRow (K : PySem.W.Frag) : Sp := fun vs H Q _ => ∃ (v : V) (r : Rw) (n : Nat), vs = [v, .int n] ∧ RowAt H v r ∧ RowOk n r ∧ n ≤ 80 ∧ ∀ H', Same H H' → Q (.bl true) H'
theorem sc_is_whole : FnScope ["thing"] ["thing"] (defScope s_is_whole) := ⟨rfl, rfl, rfl, by decide +kernel, rfl, by decide +kernel, by decide +kernel⟩
theorem sc_is_room : FnScope ["thing"] ["thing"] (defScope s_is_room) := ⟨rfl, rfl, rfl, by decide +kernel, rfl, by decide +kernel, by decide +kernel⟩
theorem sc_are_rising : FnScope ["numbers", "one", "other"] ["numbers"] (defScope s_are_rising) := ⟨rfl, rfl, rfl, by decide +kernel, rfl, by decide +kernel, by decide +kernel⟩
theorem sc_are_rooms : FnScope ["thing", "least", "most", "room"] ["thing", "least", "most"] (defScope s_are_rooms) := ⟨rfl, rfl, rfl, by decide +kernel, rfl, by decide +kernel, by decide +kernel⟩
theorem sc_are_tos : FnScope ["thing", "rows", "to"] ["thing", "rows"] (defScope s_are_tos) := ⟨rfl, rfl, rfl, by decide +kernel, rfl, by decide +kernel, by decide +kernel⟩
theorem sc_is_row : FnScope ["thing", "rows"] ["thing", "rows"] (defScope s_is_row) := ⟨rfl, rfl, rfl, by decide +kernel, rfl, by decide +kernel, by decide +kernel⟩
section
variable {P : Program} {w : World} {K : PySem.W.Frag} {mg : Str → Option Value} {base : Heap}
theorem ok_wholeI (T : At K mg "is_whole" s_is_whole ["thing"]) (B : Bt mg) : Cal P w K mg base 1 "is_whole" ["thing"] spWholeI := by
  refine cal_of T sc_is_whole (fun vs H Q E h => ?_) (fun f cdv A outer s H vs Q E hr h => ?_)
  · obtain ⟨i, rfl, _⟩ := h
    rfl
  · obtain ⟨i, rfl, q⟩ := h
    refine ⟨_, (pss_one (ps_ret (pe_and (pe_callB call_isi (by rfl) B.isinstance (by decide +kernel) (pa_cons (pv 0) (pa_cons (pe_bltn (v := .ty "int") (u := .type "int") (by rfl) B.int (by decide +kernel) rfl) pa_nil))) (pe_one (pe_not (pe_callB call_isi (by rfl) B.isinstance (by decide +kernel) (pa_cons (pv 0) (pa_cons (pe_bltn (v := .ty "bool") (u := .type "bool") (by rfl) B.bool (by decide +kernel) rfl) pa_nil)))))))), ?_⟩
    refine ⟨_, rfl, .int i, .ty "int", .type "int", .type "int", true, rfl, .ty "int", .base (.int i), kit_ty (by decide +kernel), _, rfl, iteT ?_⟩
    exact ⟨_, rfl, .int i, .ty "bool", .type "int", .type "bool", false, rfl, .ty "bool", .base (.int i), kit_ty (by decide +kernel), _, rfl, q⟩
theorem ok_roomI (T : At K mg "is_room" s_is_room ["thing"]) (D : GbW mg) (c_is_whole : Cal P w K mg base 1 "is_whole" ["thing"] spWholeI) : Cal P w K mg base 2 "is_room" ["thing"] spRoomI := by
  obtain ⟨tl, mLast⟩ := D.last
  refine cal_of T sc_is_room (fun vs H Q E h => ?_) (fun f cdv A outer s H vs Q E hr h => ?_)
  · obtain ⟨i, rfl, _⟩ := h
    rfl
  · obtain ⟨i, rfl, i0, i1, q⟩ := h
    refine ⟨_, (pss_one (ps_ret (pe_and (pe_own c_is_whole hr (by decide) (by rfl) (pa_cons (pv 0) pa_nil)) (pe_one (pe_chain op_le op_le pe_int (pv 0) (pe_glob (v := .int 99) rfl mLast ⟨_, rfl⟩)))))), ?_⟩
    refine ⟨_, rfl, i, rfl, _, rfl, iteT ?_⟩
    refine ⟨_, rfl, _, _, rfl, rfl, _, rfl, iteB (fun _ => ?_) (fun z => absurd (of_decide_eq_false z) (by omega))⟩
    refine ⟨_, _, rfl, rfl, ?_⟩
    have z : (V.bl (decide (i ≤ 99))) = .bl true := congrArg V.bl (decide_eq_true i1)
    exact (congrArg (fun v => Q v H) z).mpr q
theorem ok_rising (T : At K mg "are_rising" s_are_rising ["numbers"]) (B : Bt mg) : Cal P w K mg base 1 "are_rising" ["numbers"] (spRising K) := by
  refine cal_of T sc_are_rising (fun vs H Q E h => ?_) (fun f cdv A outer s H vs Q E hr h => ?_)
  · obtain ⟨a, ns, rfl, _⟩ := h
    rfl
  · obtain ⟨a, ns, rfl, ha, pw, hl, q⟩ := h
    refine ⟨_, (pss_one (ps_ret (pe_callB (cr_all rfl) (by rfl) B.all (by decide +kernel) (pa_cons (pe_lc (own := [("one", 1), ("other", 2)]) (g := (gTup K 2 (gCons (gName 1) (gCons (gName 2) gNil)))) (tt := tYes) (te := (tOp (rI0 fun i j => .bl (decide (i < j))) (tVar 1) (tVar 2))) (by rfl) sc_are_rising.nd (RZ.pi_zipA (by rfl) B.zip (pa_cons (pv 0) (pa_cons (pe_slice sl_tup2 (pv 0) (po_some pe_int) po_none) pa_nil))) (blkOk_by (own := [("one", 1), ("other", 2)]) (N := ["numbers", "one", "other"]) (sc := defScope s_are_rising) (by decide +kernel)) (fun _ _ _ _ _ => (pg_tup (by rfl) (pgs_cons (pg_name (i := 1) sc_are_rising.nd rfl (Or.inl rfl)) (pgs_cons (pg_name (i := 2) sc_are_rising.nd rfl (Or.inl rfl)) pgs_nil)))) (fun _ _ _ _ _ => pts_nil) (fun _ _ _ _ _ => (pe_cmpR op_lt (pv 1) (pv 2) (nomark _)))) pa_nil)))), ?_⟩
    refine ⟨_, rfl, _, rfl, 1, rfl, a, _, rfl, ha, fun b H1 s1 hb => ?_⟩
    rw [cut_tail, ← List.map_drop] at hb
    refine ⟨a, b, _, _, rfl, .inr ⟨(ha.same s1).sq, hb.sq, fun D nD => ?_⟩⟩
    refine lc_zipT (K := K) (a := a) (b := b) (xs := ns.map V.int) (ys := (ns.drop 1).map V.int) (by rw [List.length_map, List.length_map, List.length_drop]; omega) (fun i H2 => Same H H2 ∧ T2 H2 a (ns.map V.int) ∧ T2 H2 b ((ns.drop 1).map V.int) ∧ H2 D = some (.lst (List.replicate i (V.bl true)))) ?_ ?_ ?_ ?_
    · have sD : Same H1 (upd H1 D (.lst [])) := same_upd nD
      exact ⟨s1.trans sD, (ha.same s1).same sD, hb.same sD, upd_same⟩
    · rintro i H2 _ ⟨_, h1, h2, _⟩
      exact ⟨h1.sq, h2.sq⟩
    · rintro i x y T H2 hx hy ⟨s2, h1, h2, hD⟩ nT
      have sT : Same H2 (upd H2 T (.tup [x, y])) := same_upd nT
      rw [List.getElem?_map] at hx hy
      rw [List.getElem?_drop] at hy
      obtain ⟨n1, e1, rfl⟩ := Option.map_eq_some_iff.mp hx
      obtain ⟨n2, e2, rfl⟩ := Option.map_eq_some_iff.mp hy
      have lt : n1 < n2 := by
        obtain ⟨l1, rfl⟩ := List.getElem?_eq_some_iff.mp e1
        obtain ⟨l2, rfl⟩ := List.getElem?_eq_some_iff.mp e2
        exact List.pairwise_iff_getElem.mp pw i (1 + i) l1 l2 (by omega)
      have hi : i < ns.length := (List.getElem?_eq_some_iff.mp e1).1
      refine ⟨T, _, rfl, SqT.of upd_same, rfl, _, _, rfl, _, _, rfl, rfl, rfl, tyes ?_⟩
      refine ⟨_, rfl, _, rfl, _, _, rfl, rfl, List.replicate i (V.bl true), sT _ _ hD, ?_, ?_⟩
      · rw [List.length_replicate]
        exact small1000 (by omega)
      · have z : (V.bl (decide (n1 < n2))) = .bl true := congrArg V.bl (decide_eq_true lt)
        have h3 := sT _ _ hD
        have k3 := (K2.same sT).trans (K2.lst (u := .lst (List.replicate (i + 1) (V.bl true))) h3)
        show _ ∧ _ ∧ _ ∧ _
        rw [show (fun i j => V.bl (decide (i < j))) n1 n2 = V.bl true from z, rep_snoc]
        refine ⟨fun c o ec => ?_, k3 _ _ h1, k3 _ _ h2, upd_same⟩
        rw [upd_ne (ne_of_none (s1 _ _ ec) nD)]
        exact sT _ _ (s2 _ _ ec)
    · rintro H2 ⟨s2, h1, h2, hD⟩
      refine ⟨D, List.replicate ((ns.drop 1).map V.int).length true, rfl, ?_, ?_⟩
      · rw [rep_map]
        exact SqL.of hD
      · rw [rep_all]
        exact q H2 s2
theorem ok_rooms (T : At K mg "are_rooms" s_are_rooms ["thing", "least", "most"]) (B : Bt mg) (c_is_room : Cal P w K mg base 2 "is_room" ["thing"] spRoomI) (c_are_rising : Cal P w K mg base 1 "are_rising" ["numbers"] (spRising K)) :
    Cal P w K mg base 3 "are_rooms" ["thing", "least", "most"] (spRooms K) := by
  refine cal_of T sc_are_rooms (fun vs H Q E h => ?_) (fun f cdv A outer s H vs Q E hr h => ?_)
  · obtain ⟨a, ns, lo, hi, rfl, _⟩ := h
    rfl
  · obtain ⟨a, ns, lo, hi, rfl, ha, ris, h1, h2, hl, q⟩ := h
    refine ⟨_, (pss_cons (ps_if (PW.pt (pw_or (pt_not (pt_val (pe_callB call_isi (by rfl) B.isinstance (by decide +kernel) (pa_cons (pv 0) (pa_cons (pe_bltn (v := .ty "tuple") (u := .type "tuple") (by rfl) B.tuple (by decide +kernel) rfl) pa_nil))))) (pw_or1 (pt_not (pt_chain op_le op_le (pv 1) (pe_callB call_len_seq (by rfl) B.len PySem.boot_len (pa_cons (pv 0) pa_nil)) (pv 2)))))) (pss_one (ps_ret pe_bl)) pss_nil)
      (pss_one (ps_ret (pe_and (pe_callB (cr_all rfl) (by rfl) B.all (by decide +kernel) (pa_cons (pe_lc (own := [("room", 3)]) (g := (gName 3)) (tt := tYes) (te := (tCall spRoomI [] E0 (tCons (tVar 3) tNil))) (by rfl) sc_are_rooms.nd (pi_tup (pv 0)) (blkOk_by (own := [("room", 3)]) (N := ["thing", "least", "most", "room"]) (sc := defScope s_are_rooms) (by decide +kernel)) (fun _ _ _ _ _ => (pg_name (i := 3) sc_are_rooms.nd rfl (Or.inl rfl))) (fun _ _ _ _ _ => pts_nil) (fun _ _ _ _ _ => (pe_own c_is_room hr (by decide) (by rfl) (pa_cons (pv 3) pa_nil)))) pa_nil)) (pe_one (pe_own c_are_rising hr (by decide) (by rfl) (pa_cons (pv 0) pa_nil))))))), ?_⟩
    refine ⟨_, rfl, .ref a, .ty "tuple", .type "tuple", .type "tuple", true, rfl, .ty "tuple", ha.ty, kit_ty (by decide +kernel), _, rfl, iteF ?_⟩
    refine ⟨_, rfl, _, rfl, a, _, rfl, .inr ha.sq, _, _, rfl, rfl, _, rfl, iteB (fun _ => ?_) (fun z => absurd (of_decide_eq_false z) (by rw [List.length_map]; omega))⟩
    refine ⟨_, rfl, _, _, rfl, rfl, _, rfl, ?_⟩
    rw [show decide (((ns.map V.int).length : Int) ≤ hi) = true from decide_eq_true (by rw [List.length_map]; omega)]
    refine iteF ?_
    refine ⟨_, rfl, a, rfl, ⟨_, ha.sq⟩, fun D nD => ?_⟩
    refine lc_tup (K := K) (a := a) (xs := ns.map V.int) (fun i H2 => Same H H2 ∧ T2 H2 a (ns.map V.int) ∧ H2 D = some (.lst (List.replicate i (V.bl true)))) ?_ ?_ ?_ ?_
    · have sD : Same H (upd H D (.lst [])) := same_upd nD
      exact ⟨sD, ha.same sD, upd_same⟩
    · rintro i H2 _ ⟨_, h3, _⟩
      exact h3.sq
    · rintro i x H2 hx ⟨s2, h3, hD⟩
      rw [List.getElem?_map] at hx
      obtain ⟨n1, e1, rfl⟩ := Option.map_eq_some_iff.mp hx
      have hi : i < ns.length := (List.getElem?_eq_some_iff.mp e1).1
      have hm := List.mem_of_getElem? e1
      refine ⟨rfl, tyes ?_⟩
      refine ⟨_, rfl, n1, rfl, ris.lo n1 hm, ris.hi n1 hm, List.replicate i (V.bl true), hD, (by rw [List.length_replicate]; exact small1000 (by omega)), ?_⟩
      rw [rep_snoc]
      refine ⟨fun c o ec => ?_, K2.lst hD _ _ h3, upd_same⟩
      rw [upd_ne (ne_of_none ec nD)]
      exact s2 _ _ ec
    · rintro H2 ⟨s2, h3, hD⟩
      refine ⟨D, List.replicate (ns.map V.int).length true, rfl, (by rw [rep_map]; exact SqL.of hD), ?_⟩
      rw [rep_all]
      refine ⟨_, rfl, iteT ?_⟩
      exact ⟨_, rfl, a, ns, rfl, h3, ris.pw, hl, fun H3 s3 => q H3 (s2.trans s3)⟩
theorem ok_tos (T : At K mg "are_tos" s_are_tos ["thing", "rows"]) (B : Bt mg) (c_is_whole : Cal P w K mg base 1 "is_whole" ["thing"] spWholeI) (c_are_rising : Cal P w K mg base 1 "are_rising" ["numbers"] (spRising K)) :
    Cal P w K mg base 2 "are_tos" ["thing", "rows"] (spTos K) := by
  refine cal_of T sc_are_tos (fun vs H Q E h => ?_) (fun f cdv A outer s H vs Q E hr h => ?_)
  · obtain ⟨a, ns, n, rfl, _⟩ := h
    rfl
  · obtain ⟨a, ns, n, rfl, ha, ris, n8, q⟩ := h
    have hl := ris_len ris
    refine ⟨_, (pss_cons (ps_if (PW.pt (pw_or (pt_not (pt_val (pe_callB call_isi (by rfl) B.isinstance (by decide +kernel) (pa_cons (pv 0) (pa_cons (pe_bltn (v := .ty "tuple") (u := .type "tuple") (by rfl) B.tuple (by decide +kernel) rfl) pa_nil))))) (pw_or1 (pt_cmpR op_gt (pe_callB call_len_seq (by rfl) B.len PySem.boot_len (pa_cons (pv 0) pa_nil)) (pv 1) (nomark _))))) (pss_one (ps_ret pe_bl)) pss_nil)
      (pss_one (ps_ret (pe_and (pe_callB (cr_all rfl) (by rfl) B.all (by decide +kernel) (pa_cons (pe_lc (own := [("to", 2)]) (g := (gName 2)) (tt := tYes) (te := (tAndV (tCall spWholeI [] E0 (tCons (tVar 2) tNil)) (tChain (rI0 fun i j => .bl (decide (i ≤ j))) (rI0 fun i j => .bl (decide (i < j))) (tC (.int 0)) (tVar 2) (tVar 1)))) (by rfl) sc_are_tos.nd (pi_tup (pv 0)) (blkOk_by (own := [("to", 2)]) (N := ["thing", "rows", "to"]) (sc := defScope s_are_tos) (by decide +kernel)) (fun _ _ _ _ _ => (pg_name (i := 2) sc_are_tos.nd rfl (Or.inl rfl))) (fun _ _ _ _ _ => pts_nil) (fun _ _ _ _ _ => (pe_and (pe_own c_is_whole hr (by decide) (by rfl) (pa_cons (pv 2) pa_nil)) (pe_one (pe_chain op_le op_lt pe_int (pv 2) (pv 1)))))) pa_nil)) (pe_one (pe_own c_are_rising hr (by decide) (by rfl) (pa_cons (pv 0) pa_nil))))))), ?_⟩
    refine ⟨_, rfl, .ref a, .ty "tuple", .type "tuple", .type "tuple", true, rfl, .ty "tuple", ha.ty, kit_ty (by decide +kernel), _, rfl, iteF ?_⟩
    refine ⟨_, rfl, a, _, rfl, .inr ha.sq, _, rfl, _, _, rfl, rfl, _, rfl, iteB (fun z => absurd (of_decide_eq_true z) (by rw [List.length_map]; omega)) (fun _ => ?_)⟩
    refine ⟨_, rfl, a, rfl, ⟨_, ha.sq⟩, fun D nD => ?_⟩
    refine lc_tup (K := K) (a := a) (xs := ns.map V.int) (fun i H2 => Same H H2 ∧ T2 H2 a (ns.map V.int) ∧ H2 D = some (.lst (List.replicate i (V.bl true)))) ?_ ?_ ?_ ?_
    · have sD : Same H (upd H D (.lst [])) := same_upd nD
      exact ⟨sD, ha.same sD, upd_same⟩
    · rintro i H2 _ ⟨_, h3, _⟩
      exact h3.sq
    · rintro i x H2 hx ⟨s2, h3, hD⟩
      rw [List.getElem?_map] at hx
      obtain ⟨n1, e1, rfl⟩ := Option.map_eq_some_iff.mp hx
      have hi : i < ns.length := (List.getElem?_eq_some_iff.mp e1).1
      have hm := List.mem_of_getElem? e1
      have g0 := ris.lo n1 hm
      have g1 := ris.hi n1 hm
      refine ⟨rfl, tyes ?_⟩
      refine ⟨_, rfl, n1, rfl, _, rfl, iteT ?_⟩
      refine ⟨_, rfl, _, _, rfl, rfl, _, rfl, iteB (fun _ => ?_) (fun z => absurd (of_decide_eq_false z) (by omega))⟩
      refine ⟨_, rfl, _, _, rfl, rfl, List.replicate i (V.bl true), hD, (by rw [List.length_replicate]; exact small1000 (by omega)), ?_⟩
      have z : (V.bl (decide (n1 < (n : Int)))) = .bl true := congrArg V.bl (decide_eq_true (by omega))
      show _ ∧ _ ∧ _
      rw [show (fun i j => V.bl (decide (i < j))) n1 (n : Int) = V.bl true from z, rep_snoc]
      refine ⟨fun c o ec => ?_, K2.lst hD _ _ h3, upd_same⟩
      rw [upd_ne (ne_of_none ec nD)]
      exact s2 _ _ ec
    · rintro H2 ⟨s2, h3, hD⟩
      refine ⟨D, List.replicate (ns.map V.int).length true, rfl, (by rw [rep_map]; exact SqL.of hD), ?_⟩
      rw [rep_all]
      refine ⟨_, rfl, iteT ?_⟩
      exact ⟨_, rfl, a, ns, rfl, h3, ris.pw, by omega, fun H3 s3 => q H3 (s2.trans s3)⟩
theorem ok_row (T : At K mg "is_row" s_is_row ["thing", "rows"]) (B : Bt mg) (c_are_rooms : Cal P w K mg base 3 "are_rooms" ["thing", "least", "most"] (spRooms K)) (c_are_tos : Cal P w K mg base 2 "are_tos" ["thing", "rows"] (spTos K)) :
    Cal P w K mg base 4 "is_row" ["thing", "rows"] (spRow K) := by
  refine cal_of T sc_is_row (fun vs H Q E h => ?_) (fun f cdv A outer s H vs Q E hr h => ?_)
  · obtain ⟨v, r, n, rfl, _⟩ := h
    rfl
  · obtain ⟨v, r, n, rfl, ⟨a, b, c, rfl, ha, hb, hc⟩, ok, n8, q⟩ := h
    refine ⟨_, (pss_cons (ps_if (PW.pt (pw_or (pt_not (pt_val (pe_callB call_isi (by rfl) B.isinstance (by decide +kernel) (pa_cons (pv 0) (pa_cons (pe_bltn (v := .ty "tuple") (u := .type "tuple") (by rfl) B.tuple (by decide +kernel) rfl) pa_nil))))) (pw_or1 (pt_cmpR op_ne (pe_callB call_len_seq (by rfl) B.len PySem.boot_len (pa_cons (pv 0) pa_nil)) pe_int (nomark _))))) (pss_one (ps_ret pe_bl)) pss_nil)
      (pss_one (ps_ret (pe_and (pe_own c_are_rooms hr (by decide) (by rfl) (pa_cons (pe_ix ix_tup (pv 0) pe_int (fun _ _ => rfl)) (pa_cons pe_int (pa_cons pe_int pa_nil)))) (pe_one (pe_own c_are_tos hr (by decide) (by rfl) (pa_cons (pe_ix ix_tup (pv 0) pe_int (fun _ _ => rfl)) (pa_cons (pv 1) pa_nil)))))))), ?_⟩
    refine ⟨_, rfl, .ref a, .ty "tuple", .type "tuple", .type "tuple", true, rfl, .ty "tuple", ha.ty, kit_ty (by decide +kernel), _, rfl, iteF ?_⟩
    refine ⟨_, rfl, a, _, rfl, .inr ha.sq, rfl, _, rfl, iteNS rfl ?_⟩
    refine ⟨_, rfl, _, _, _, _, rfl, rfl, ha.sq, atI_nat (j := 0) rfl, b, r.1, 0, 6, rfl, hb, ok.rooms, by omega, by have := ok.few; omega, by have := ok.few; omega, fun H1 s1 => ?_⟩
    refine ⟨_, rfl, iteT ?_⟩
    refine ⟨_, rfl, _, _, _, _, rfl, rfl, (ha.same s1).sq, atI_nat (j := 1) rfl, _, rfl, c, r.2, n, rfl, hc.same s1, ok.tos, n8, fun H2 s2 => q H2 (s1.trans s2)⟩
end
end Su
/-! ### W2: the rooms of a web; how a web is looked at, of one that is one -/
namespace Su
open PySem PySem.Spec PyProof.Rows L2
def spRoomsIn (w : World) : Sp := fun vs H Q _ => ∃ (p : Addr) (rs : List Rw) (A : List Int), vs = [.ref p] ∧ WebAt H p rs ∧ A.length < 64 ∧ (∀ k ∈ allRooms rs, k ∈ A) ∧
  ∀ (ms : List Int) (u : Addr) (H' : Hp), ms.Pairwise (· < ·) → (∀ k : Int, k ∈ ms ↔ k ∈ allRooms rs) → Same H H' → H u = none → H' u = some (.lst (ms.map V.int)) → Q (.ref u) H'
def spLook : Sp := fun vs H Q _ => ∃ (p : Addr) (rs : List Rw), vs = [.ref p] ∧ WebAt H p rs ∧ WebOk rs ∧ ∀ H', Same H H' → Q .non H'
theorem allRooms_app (a b : List Rw) : allRooms (a ++ b) = allRooms a ++ allRooms b := by
  unfold allRooms
  rw [List.map_append, List.flatten_append]
theorem allRooms_take {rs : List Rw} {i : Nat} {r : Rw} (h : rs[i]? = some r) : allRooms (rs.take (i + 1)) = allRooms (rs.take i) ++ r.1 := by
  rw [List.take_add_one, h, allRooms_app]
  show _ ++ (r.1 ++ []) = _
  rw [List.append_nil]
theorem allRooms_sub {rs : List Rw} {i : Nat} {k : Int} (h : k ∈ allRooms (rs.take i)) : k ∈ allRooms rs := by
  rw [← List.take_append_drop i rs, allRooms_app]
  exact List.mem_append_left _ h
theorem sc_rooms_in : FnScope ["rows", "rooms", "tos", "room"] ["rows"] (defScope s_rooms_in) := ⟨rfl, rfl, rfl, by decide +kernel, rfl, by decide +kernel, by decide +kernel⟩
theorem sc_look_at_web : FnScope ["thing", "number", "row"] ["thing"] (defScope s_look_at_web) := ⟨rfl, rfl, rfl, by decide +kernel, rfl, by decide +kernel, by decide +kernel⟩
section
variable {P : Program} {w : World} {K : PySem.W.Frag} {mg : Str → Option Value} {base : Heap}
theorem ok_rooms_in (T : At K mg "rooms_in" s_rooms_in ["rows"]) (B : Bt mg) : Cal P w K mg base 1 "rooms_in" ["rows"] (spRoomsIn w) := by
  refine cal_of T sc_rooms_in (fun vs H Q E h => ?_) (fun f cdv A outer s H vs Q E hr h => ?_)
  · obtain ⟨p, rs, A, rfl, _⟩ := h
    rfl
  · obtain ⟨p, rs, A, rfl, ⟨ws, hp, hrs⟩, hA, hin, q⟩ := h
    refine ⟨_, (pss_one (ps_ret (pe_callB (cr_sortedSet rfl) (by rfl) B.sorted (by decide +kernel) (pa_cons (pe_sc2 (own := [("rooms", 1), ("tos", 2), ("room", 3)]) (vs1 := [3]) (go := (gTup K 2 (gCons (gName 1) (gCons (gName 2) gNil)))) (wn := iTup K (tVar 1)) (gn := (gName 3)) (te := (tVar 3)) (by rfl) sc_rooms_in.nd (pi_list (pv 0)) (blkOk_by (own := [("rooms", 1), ("tos", 2), ("room", 3)]) (N := ["rows", "rooms", "tos", "room"]) (sc := defScope s_rooms_in) (by decide +kernel)) (by decide) (fun _ _ _ _ _ => (pg_tup (by rfl) (pgs_cons (pg_name (i := 1) sc_rooms_in.nd rfl (Or.inl rfl)) (pgs_cons (pg_name (i := 2) sc_rooms_in.nd rfl (Or.inl rfl)) pgs_nil)))) (fun _ _ _ _ _ => (pi_tup (pv 1))) (fun _ _ _ _ _ => (pg_name (i := 3) sc_rooms_in.nd rfl (Or.inl rfl))) (fun _ _ _ _ _ => (pv 3))) pa_nil)))), ?_⟩
    have hwl := hrs.len
    refine ⟨_, rfl, p, rfl, ⟨_, SqL.of hp⟩, fun D nD => ?_⟩
    refine ⟨fun i m H2 => m = ws.length - i ∧ i ≤ ws.length ∧ Same H H2 ∧ SetIs w H2 D (allRooms (rs.take i)), ⟨ws.length, (Nat.sub_zero _).symm, Nat.zero_le _, same_upd nD, ⟨_, 0, [], upd_same, List.nodup_nil, rfl, fun k => by simp, fun k => by simp [allRooms]⟩⟩, ?_⟩
    rintro i m H2 ⟨rfl, hi, s2, set2⟩
    by_cases hlt : i < ws.length
    · have hx : ws[i]? = some ws[i] := List.getElem?_eq_getElem hlt
      obtain ⟨r, er, a, b, c, ea, ha, hb, hc⟩ := hrs.get hx
      refine .inr ⟨⟨ws, ws[i], SqL.of (s2 _ _ hp), hx⟩, fun H3 => Same H H3 ∧ SetIs w H3 D (allRooms (rs.take (i + 1))), fun H' h => ⟨ws.length - (i + 1), by omega, rfl, hlt, h⟩, fun x H' y => ?_⟩
      obtain ⟨e1, y⟩ := y
      have ex : x = .ref a := by
        have z := y ws (SqL.of (s2 _ _ hp))
        rw [hx] at z
        injection z with z
        rw [← z, ea]
      rw [e1]
      clear e1 y
      subst ex
      refine ⟨a, _, rfl, (ha.same s2).sq, rfl, _, _, rfl, _, _, rfl, rfl, rfl, ?_⟩
      refine ⟨_, rfl, b, rfl, ⟨_, (hb.same s2).sq⟩, ?_⟩
      refine ⟨fun j k H3 => k = r.1.length - j ∧ j ≤ r.1.length ∧ Same H H3 ∧ SetIs w H3 D (allRooms (rs.take i) ++ r.1.take j), ⟨r.1.length, (Nat.sub_zero _).symm, Nat.zero_le _, s2, by rw [List.take_zero, List.append_nil]; exact set2⟩, ?_⟩
      rintro j k H3 ⟨rfl, hj, s3, set3⟩
      by_cases hjt : j < r.1.length
      · have hy : (r.1.map V.int)[j]? = some (V.int r.1[j]) := by
          rw [List.getElem?_map, List.getElem?_eq_getElem hjt]
          rfl
        refine .inr ⟨⟨_, _, (hb.same s3).sq, hy⟩, fun H4 => Same H H4 ∧ SetIs w H4 D (allRooms (rs.take i) ++ r.1.take (j + 1)), fun H' h => ⟨r.1.length - (j + 1), by omega, rfl, hjt, h⟩, fun y H' yl => ?_⟩
        obtain ⟨e2, yl⟩ := yl
        have ey : y = .int r.1[j] := by
          have z := yl _ (hb.same s3).sq
          rw [hy] at z
          injection z with z
          exact z.symm
        rw [e2]
        clear e2 yl
        subst ey
        refine ⟨rfl, _, rfl, ?_⟩
        have sub3 : ∀ k ∈ allRooms (rs.take i) ++ r.1.take j, k ∈ A := by
          intro k hk
          rcases List.mem_append.mp hk with z | z
          · exact hin k (allRooms_sub z)
          · refine hin k (allRooms_sub (i := i + 1) ?_)
            rw [allRooms_take er]
            exact List.mem_append_right _ (List.mem_of_mem_take z)
        obtain ⟨S, n, eD, few, nx⟩ := set3.add (A := A) (by omega) sub3 r.1[j]
        refine ⟨_, S, n, rfl, eD, few, fun c o ec => ?_, ?_⟩
        · rw [upd_ne (ne_of_none ec nD)]
          exact s3 _ _ ec
        · rw [List.take_add_one, List.getElem?_eq_getElem hjt, ← List.append_assoc]
          exact nx _ upd_same
      · have e : j = r.1.length := by omega
        subst e
        rw [List.take_length] at set3
        refine .inl ⟨⟨_, (hb.same s3).sq, by rw [List.length_map]; exact Nat.le_refl _⟩, s3, ?_⟩
        rw [allRooms_take er]
        exact set3
    · have e : i = ws.length := by omega
      subst e
      rw [hwl, List.take_length] at set2
      refine .inl ⟨⟨ws, SqL.of (s2 _ _ hp), Nat.le_refl _⟩, ?_⟩
      obtain ⟨S, n, d, eD, nd, hn, hS, hd⟩ := set2
      have z := nodup_few (S := A) nd fun k hk => hin k ((hd k).mp hk)
      refine ⟨D, S, n, rfl, eD, by omega, fun ms u pw mem _ nu => ?_⟩
      refine q ms u _ pw (fun k => (mem k).trans ((hS k).trans (hd k))) (s2.trans (same_upd nu)) ?_ upd_same
      exact s2.free nu
theorem ok_look (T : At K mg "look_at_web" s_look_at_web ["thing"]) (B : Bt mg) (D : GbW mg) (c_is_row : Cal P w K mg base 4 "is_row" ["thing", "rows"] (spRow K)) (c_rooms_in : Cal P w K mg base 1 "rooms_in" ["rows"] (spRoomsIn w)) : Cal P w K mg base 5 "look_at_web" ["thing"] spLook := by
  obtain ⟨tr, mRows⟩ := D.rows
  obtain ⟨tm, mRooms⟩ := D.rooms
  refine cal_of T sc_look_at_web (fun vs H Q E h => ?_) (fun f cdv A outer s H vs Q E hr h => ?_)
  · obtain ⟨p, rs, rfl, _⟩ := h
    rfl
  · obtain ⟨p, rs, rfl, ⟨ws, hp, hrs⟩, ok, q⟩ := h
    have hwl := hrs.len
    have hpos := ok.pos
    have hfew := ok.few
    refine ⟨_, (pss_cons (ps_if (PW.pt (pw_or (pt_not (pt_val (pe_callB call_isi (by rfl) B.isinstance (by decide +kernel) (pa_cons (pv 0) (pa_cons (pe_bltn (v := .ty "list") (u := .type "list") (by rfl) B.list (by decide +kernel) rfl) pa_nil))))) (pw_or1 (pt_not (pt_chain op_le op_le pe_int (pe_callB call_len_seq (by rfl) B.len PySem.boot_len (pa_cons (pv 0) pa_nil)) (pe_glob (v := .int 80) rfl mRows ⟨_, rfl⟩)))))) (pss_one ps_never) pss_nil)
      (pss_cons (ps_for PassesOwn.never rfl (pi_enum (by rfl) B.enumerate (pa_cons (pv 0) pa_nil)) (pg_tup (by rfl) (pgs_cons (pg_name (i := 1) sc_look_at_web.nd rfl (Or.inl rfl)) (pgs_cons (pg_name (i := 2) sc_look_at_web.nd rfl (Or.inl rfl)) pgs_nil))) (pss_one (ps_if (pt_not (pt_val (pe_own c_is_row hr (by decide) (by rfl) (pa_cons (pv 2) (pa_cons (pe_callB call_len_seq (by rfl) B.len PySem.boot_len (pa_cons (pv 0) pa_nil)) pa_nil))))) (pss_one ps_never) pss_nil)))
      (pss_one (ps_if (pt_cmpR op_gt (pe_callB call_len_seq (by rfl) B.len PySem.boot_len (pa_cons (pe_own c_rooms_in hr (by decide) (by rfl) (pa_cons (pv 0) pa_nil)) pa_nil)) (pe_glob (v := .int 12) rfl mRooms ⟨_, rfl⟩) (nomark _)) (pss_one ps_never) pss_nil)))), ?_⟩
    refine ⟨_, rfl, .ref p, .ty "list", .type "list", .type "list", true, rfl, .ty "list", .base (.lst hp), kit_ty (by decide +kernel), _, rfl, iteF ?_⟩
    refine ⟨_, rfl, p, _, rfl, .inl (SqL.of hp), _, _, rfl, rfl, _, rfl, iteB (fun _ => ?_) (fun z => absurd (of_decide_eq_false z) (by omega))⟩
    refine ⟨_, _, rfl, rfl, _, rfl, ?_⟩
    rw [show decide ((ws.length : Int) ≤ 80) = true from decide_eq_true (by omega)]
    refine iteF ?_
    refine ⟨_, rfl, p, _, rfl, SqL.of hp, ?_⟩
    refine for_enumS (K := K) (a := p) (xs := ws) (fun i σ H2 => ∃ y1 y2 : Option V, σ = [some (.ref p), y1, y2] ∧ Same H H2) ?_ ?_ ?_ ?_
    · exact ⟨none, none, rfl, Same.refl H⟩
    · rintro i σ H2 _ ⟨_, _, _, s2⟩
      exact SqL.of (s2 _ _ hp)
    · rintro i x σ H2 T hx ⟨y1, y2, rfl, s2⟩ nT
      obtain ⟨r, er, hrow⟩ := hrs.get hx
      have sT : Same H2 (upd H2 T (.tup [.int (i : Nat), x])) := same_upd nT
      refine ⟨T, _, rfl, SqT.of upd_same, rfl, _, _, rfl, _, _, rfl, rfl, ?_⟩
      refine ⟨_, rfl, _, rfl, p, _, rfl, .inl (SqL.of (sT _ _ (s2 _ _ hp))), x, r, ws.length, rfl, hrow.keep (K2.same (s2.trans sT)), (by rw [hwl]; exact ok.row r (List.mem_of_getElem? er)), by omega, fun H3 s3 => ?_⟩
      refine ⟨_, rfl, iteF ?_⟩
      exact ⟨_, _, rfl, (s2.trans sT).trans s3⟩
    · rintro σ H2 ⟨y1, y2, rfl, s2⟩
      obtain ⟨A, hA, hin⟩ := ok.all
      refine ⟨_, rfl, p, rs, A, rfl, ⟨ws, s2 _ _ hp, hrs.keep (K2.same s2)⟩, by omega, hin, fun ms u H3 pw mem s3 nu hu => ?_⟩
      have few := nodup_few (S := A) (ms := ms) (pw.imp fun h => Int.ne_of_lt h) fun k hk => hin k ((mem k).mp hk)
      refine ⟨u, _, rfl, .inl (SqL.of hu), _, _, rfl, rfl, _, rfl, iteB (fun z => absurd (of_decide_eq_true z) (by rw [List.length_map]; omega)) (fun _ => ?_)⟩
      exact q H3 (s2.trans s3)
end
end Su
/-! ### L1: the law's webs -/
namespace Su
open PySem PySem.Spec PyProof.Rows L2
def spLTos : Sp := fun vs H Q _ => ∃ (p : Addr) (row many : Int), vs = [.ref p, .int row, .int many] ∧ PoolAt H p ∧ 0 ≤ row ∧ 1 ≤ many ∧ many < 1000 ∧
  ∀ (t : Addr) (H' : Hp) (ns : List Int), Kept p H H' → PoolAt H' p → T2 H' t (ns.map V.int) → Ris 0 (many - 1) ns → Q (.ref t) H'
def spLWeb : Sp := fun vs H Q _ => ∃ (p : Addr) (mr mo : Int), vs = [.ref p, .int mr, .int mo] ∧ PoolAt H p ∧ 1 ≤ mr ∧ mr ≤ 80 ∧ 1 ≤ mo ∧ mo ≤ 12 ∧
  ∀ (u : Addr) (H' : Hp) (rs : List Rw), H u = none → Kept p H H' → PoolAt H' p → WebAt H' u rs → WebOk rs → (rs.length : Int) ≤ mr → Q (.ref u) H'
theorem sc_law_tos : FnScope ["_law_pool_here", "_law_row", "_law_many", "_law_way", "_law_found", "_law_turn"] ["_law_pool_here", "_law_row", "_law_many"] (defScope s_law_tos) := ⟨rfl, rfl, rfl, by decide +kernel, rfl, by decide +kernel, by decide +kernel⟩
theorem sc_law_web : FnScope ["_law_pool_here", "_law_most_rows", "_law_most_rooms", "_law_many", "_law_rooms", "_law_web_here", "_law_row", "_law_asked_for"] ["_law_pool_here", "_law_most_rows", "_law_most_rooms"] (defScope s_law_web) := ⟨rfl, rfl, rfl, by decide +kernel, rfl, by decide +kernel, by decide +kernel⟩
section
variable {P : Program} {w : World} {K : PySem.W.Frag} {mg : Str → Option Value} {base : Heap}
theorem ok_ltos (T : At K mg "_law_tos" s_law_tos ["_law_pool_here", "_law_row", "_law_many"]) (B : Bt mg) (c_take : Cal P w K mg base 1 "_law_take" ["_law_pool_here", "_law_many"] spTake) : Cal P w K mg base 2 "_law_tos" ["_law_pool_here", "_law_row", "_law_many"] spLTos := by
  refine cal_of T sc_law_tos (fun vs H Q E h => ?_) (fun f cdv A outer s H vs Q E hr h => ?_)
  · obtain ⟨p, row, many, rfl, _⟩ := h
    rfl
  · obtain ⟨p, row, many, rfl, hp, r0, m1, m2, q⟩ := h
    refine ⟨_, (pss_cons (ps_set (i := 3) sc_law_tos.nd rfl (Or.inl rfl) (pe_own c_take hr (by decide) (by rfl) (pa_cons (pv 0) (pa_cons pe_int pa_nil))))
      (pss_cons (ps_set (i := 4) sc_law_tos.nd rfl (Or.inl rfl) pe_dnewK)
      (pss_cons (ps_if (PW.pt (pw_and (pt_cmpR op_gt (pv 3) pe_int (nomark _)) (pw_and1 (pt_cmpR op_lt (pe_op op_add (pv 1) pe_int) (pv 2) (nomark _))))) (pss_one (ps_dput (hu_of hr) (pv 4) (pe_op op_add (pv 1) pe_int) pe_bl rfl)) pss_nil)
      (pss_cons (ps_for PassesOwn.never rfl (pi_range1 (by rfl) B.range (pa_cons (pe_ix ix_list (pe_lst (pa_cons pe_int (pa_cons pe_int (pa_cons pe_int (pa_cons pe_int (pa_cons pe_int (pa_cons pe_int (pa_cons pe_int (pa_cons pe_int pa_nil))))))))) (pv 3) (fun _ _ => rfl)) pa_nil)) (pg_name (i := 5) sc_law_tos.nd rfl (Or.inl rfl)) (pss_one (ps_dput (hu_of hr) (pv 4) (pe_own c_take hr (by decide) (by rfl) (pa_cons (pv 0) (pa_cons (pv 2) pa_nil))) pe_bl rfl)))
      (pss_one (ps_ret (pe_callTy call_tupleF (by rfl) B.tuple (by decide +kernel) (pa_cons (pe_callB (cr_sortedDI rfl) (by rfl) B.sorted (by decide +kernel) (pa_cons (pv 4) pa_nil)) pa_nil)))))))), ?_⟩
    refine ⟨_, rfl, p, 8, rfl, hp, by decide, by decide, fun wy o w0 w1 po => ?_⟩
    have hp1 : PoolAt (upd H p o) p := ⟨o, upd_same, po⟩
    have hk1 : Kept p H (upd H p o) := Kept.upd p H o
    refine fun D nD => ?_
    have eDp : D ≠ p := pool_ne hp1 nD
    have nD0 : H D = none := hk1.free eDp nD
    -- the end, from any dict
    have fin : ∀ (H2 : Hp) (kvs : List (Key × V)) (ks : List Int), H2 D = some (.dK kvs) → KeysI kvs ks → ks.Nodup → ks.length ≤ 1 → (∀ k ∈ ks, 0 ≤ k ∧ k < many) → PoolAt H2 p → Kept p H H2 → ∀ y5 : Option V,
        tSeq (tFor (iRng1 (tCons (tOp (rIxL K) (tLst (tCons (tC (.int 0)) (tCons (tC (.int 0)) (tCons (tC (.int 0)) (tCons (tC (.int 1)) (tCons (tC (.int 1)) (tCons (tC (.int 1)) (tCons (tC (.int 2)) (tCons (tC (.int 2)) tNil))))))))) (tVar 3)) tNil)) (gName 5)
          (sDPut (tVar 4) (tCall spTake [] E0 (tCons (tVar 0) (tCons (tVar 2) tNil))) (tC (.bl true)))) (tRet (tCB (rTupL K) (tCons (tCB rSortedDI (tCons (tVar 4) tNil)) tNil))) { nx := fun _ H' => Q .non H', rt := Q } [some (.ref p), some (.int row), some (.int many), some (.int wy), some (.ref D), y5] H2 := by
      intro H2 kvs ks hD hks nd hl hb hp2 k2 y5
      refine ⟨(by show 8 ≤ sizeLine; decide), fun L nL => ?_⟩
      have eLp : L ≠ p := pool_ne hp2 nL
      have eLD : D ≠ L := ne_of_none hD nL
      obtain ⟨v, hv, ev⟩ := cons_nil_fin (xs := [V.int 0, .int 0, .int 0, .int 1, .int 1, .int 1, .int 2, .int 2]) 8 rfl w0 w1
      obtain ⟨n, en, hn⟩ : ∃ n : Nat, v = .int n ∧ n ≤ 2 := by
        simp only [List.mem_cons, List.not_mem_nil, or_false] at hv
        rcases hv with e | e | e | e | e | e | e | e
        all_goals first
          | exact ⟨0, e, by decide⟩
          | exact ⟨1, e, by decide⟩
          | exact ⟨2, e, by decide⟩
      subst en
      refine ⟨_, rfl, L, _, _, _, rfl, rfl, SqL.of upd_same, ev, ?_⟩
      refine ⟨(n : Int), rfl, by omega, by omega, ?_⟩
      rw [show ((n : Int)).toNat = n by omega]
      refine for_range (lo := 0) (n := n) (fun i σ H3 => ∃ (kvs : List (Key × V)) (ks : List Int) (y5 : Option V), σ = [some (.ref p), some (.int row), some (.int many), some (.int wy), some (.ref D), y5] ∧ H3 D = some (.dK kvs) ∧ KeysI kvs ks ∧ ks.Nodup ∧ kvs.length ≤ 1 + i ∧ (∀ k ∈ ks, 0 ≤ k ∧ k < many) ∧ PoolAt H3 p ∧ Kept p H H3) ?_ ?_ ?_
      · exact ⟨kvs, ks, y5, rfl, (by rw [upd_ne eLD]; exact hD), hks, nd, (by rw [hks.len]; exact hl), hb, hp2.upd eLp.symm, k2.trans (Kept.same (same_upd nL))⟩
      · rintro i σ H3 hi ⟨kvs, ks, y5, rfl, hD3, hks3, nd3, hl3, hb3, hp3, k3⟩
        refine ⟨_, rfl, _, rfl, _, rfl, p, many, rfl, hp3, m1, by omega, fun r o2 r0 r1 po2 => ?_⟩
        have hD4 : (upd H3 p o2) D = some (.dK kvs) := by
          rw [upd_ne eDp]
          exact hD3
        obtain ⟨ks', h1, h2, h3⟩ := hks3.put nd3 r (.bl true)
        refine ⟨D, _, rfl, DPut.k (k := Sum.inl r) hD4 (small1000 (by omega)), ?_⟩
        refine ⟨_, ks', _, rfl, upd_same, h1, h2, ?_, fun k hk => ?_, PoolAt.upd ⟨o2, upd_same, po2⟩ eDp.symm, (k3.trans (Kept.upd p H3 o2)).set nD0⟩
        · have := length_putK kvs (Sum.inl r) (.bl true)
          omega
        · rcases (h3 k).mp hk with z | z
          · exact hb3 k z
          · rw [z]
            exact ⟨r0, r1⟩
      · rintro σ H3 ⟨kvs, ks, y5, rfl, hD3, hks3, nd3, hl3, hb3, hp3, k3⟩
        refine ⟨_, rfl, D, kvs, ks, rfl, hD3, hks3, (by rw [← hks3.len]; omega), fun ys u pm so nu => ?_⟩
        refine ⟨u, _, rfl, SqL.of upd_same, fun t H4 s4 nt pt => ?_⟩
        have eup : u ≠ p := pool_ne hp3 nu
        refine q t H4 ys (k3.trans (Kept.same ((same_upd nu).trans s4))) ((hp3.upd eup.symm).same s4) (.inl pt) ⟨pw_lt so (pm.nodup_iff.mpr nd3), fun k hk => (hb3 k (pm.subset hk)).1, fun k hk => ?_⟩
        have := (hb3 k (pm.subset hk)).2
        omega
    have hk2 : Kept p H (upd (upd H p o) D (.dK [])) := hk1.set nD0
    have hp2 : PoolAt (upd (upd H p o) D (.dK [])) p := hp1.upd eDp.symm
    refine ⟨_, rfl, _, _, rfl, rfl, _, rfl, iteB (fun z1 => ?_) (fun z1 => iteF ?_)⟩
    · refine ⟨_, rfl, _, _, rfl, rfl, _, rfl, _, _, rfl, rfl, _, rfl, iteB (fun z2 => ?_) (fun z2 => ?_)⟩
      · have z3 : row + 1 < many := of_decide_eq_true z2
        refine ⟨_, rfl, _, rfl, _, _, rfl, rfl, D, _, rfl, DPut.k (k := Sum.inl (row + 1)) upd_same (small1000 (by decide)), ?_⟩
        refine fin _ [(Sum.inl (row + 1), .bl true)] [row + 1] upd_same rfl (by simp) (Nat.le_refl _) (fun k hk => ?_) (hp2.upd eDp.symm) (hk2.set nD0) none
        rw [List.mem_singleton.mp hk]
        omega
      · exact fin _ [] [] upd_same rfl (by simp) (by decide) (fun k hk => (List.not_mem_nil hk).elim) hp2 hk2 none
    · exact fin _ [] [] upd_same rfl (by simp) (by decide) (fun k hk => (List.not_mem_nil hk).elim) hp2 hk2 none
theorem ok_lweb (T : At K mg "_law_web" s_law_web ["_law_pool_here", "_law_most_rows", "_law_most_rooms"]) (B : Bt mg) (c_take : Cal P w K mg base 1 "_law_take" ["_law_pool_here", "_law_many"] spTake) (c_picked : Cal P w K mg base 2 "_law_picked" ["_law_pool_here", "_law_some", "_law_many"] (spPicked K))
    (c_tos : Cal P w K mg base 2 "_law_tos" ["_law_pool_here", "_law_row", "_law_many"] spLTos) : Cal P w K mg base 3 "_law_web" ["_law_pool_here", "_law_most_rows", "_law_most_rooms"] spLWeb := by
  refine cal_of T sc_law_web (fun vs H Q E h => ?_) (fun f cdv A outer s H vs Q E hr h => ?_)
  · obtain ⟨p, mr, mo, rfl, _⟩ := h
    rfl
  · obtain ⟨p, mr, mo, rfl, hp, r1, r80, o1, o12, q⟩ := h
    refine ⟨_, (pss_cons (ps_set (i := 3) sc_law_web.nd rfl (Or.inl rfl) (pe_op op_add pe_int (pe_own c_take hr (by decide) (by rfl) (pa_cons (pv 0) (pa_cons (pv 1) pa_nil)))))
      (pss_cons (ps_set (i := 4) sc_law_web.nd rfl (Or.inl rfl) (pe_own c_picked hr (by decide) (by rfl) (pa_cons (pv 0) (pa_cons (pe_listRg rfl (by rfl) B.list (prg_1 (by rfl) B.range pe_int)) (pa_cons (pe_op op_add pe_int (pe_own c_take hr (by decide) (by rfl) (pa_cons (pv 0) (pa_cons (pv 2) pa_nil)))) pa_nil)))))
      (pss_cons (ps_set (i := 5) sc_law_web.nd rfl (Or.inl rfl) (pe_lst pa_nil))
      (pss_cons (ps_for PassesOwn.never rfl (pi_range1 (by rfl) B.range (pa_cons (pv 3) pa_nil)) (pg_name (i := 6) sc_law_web.nd rfl (Or.inl rfl)) (pss_cons (ps_set (i := 7) sc_law_web.nd rfl (Or.inl rfl) (pe_own c_picked hr (by decide) (by rfl) (pa_cons (pv 0) (pa_cons (pv 4) (pa_cons (pe_ix ix_list (pe_lst (pa_cons pe_int (pa_cons pe_int (pa_cons pe_int (pa_cons pe_int (pa_cons pe_int (pa_cons pe_int pa_nil))))))) (pe_own c_take hr (by decide) (by rfl) (pa_cons (pv 0) (pa_cons pe_int pa_nil))) (fun _ _ => rfl)) pa_nil)))))
      (pss_one (ps_expr (pe_bm PySem.F.plainAttrs_list PySem.F.slot_list_append PySem.F.type_list_append mt_append (pv 5) (pa_cons (pe_tupF (pa_cons (pe_callTy call_tupleF (by rfl) B.tuple (by decide +kernel) (pa_cons (pv 7) pa_nil)) (pa_cons (pe_own c_tos hr (by decide) (by rfl) (pa_cons (pv 0) (pa_cons (pv 6) (pa_cons (pv 3) pa_nil)))) pa_nil))) pa_nil))))))
      (pss_one (ps_ret (pv 5))))))), ?_⟩
    refine ⟨_, rfl, _, rfl, p, mr, rfl, hp, r1, by omega, fun rr o rr0 rr1 po => ?_⟩
    have hp1 : PoolAt (upd H p o) p := ⟨o, upd_same, po⟩
    obtain ⟨n, hn⟩ : ∃ n : Nat, 1 + rr = (n : Int) := ⟨(1 + rr).toNat, by omega⟩
    refine ⟨_, _, rfl, rfl, ?_⟩
    refine ⟨_, rfl, 100, rfl, ⟨by decide, by decide, by decide, by decide, by decide⟩, fun b nb => ?_⟩
    rw [hundred_rg]
    have ebp : b ≠ p := pool_ne hp1 nb
    refine ⟨_, rfl, _, rfl, p, mo, rfl, hp1.upd ebp.symm, o1, by omega, fun ro o2 ro0 ro1 po2 => ?_⟩
    refine ⟨_, _, rfl, rfl, p, b, hundred, _, rfl, ⟨o2, upd_same, po2⟩, SqL.of (by rw [upd_ne ebp, upd_same]), ebp, hundred_nd, (by rw [hundred_len]; decide), (by omega), fun ra H2 ms nra k2 hp2 hra nd hsub hml hle => ?_⟩
    have kk2 : Kept p H H2 := ((Kept.upd p H o).trans ((Kept.same (same_upd nb)).trans (Kept.upd p _ o2))).trans k2
    have erp : ra ≠ p := (free_upd nra).1
    have hml12 : ms.length ≤ 12 := by
      rw [hml]
      omega
    have hr99 : ∀ k ∈ ms, 0 ≤ k ∧ k ≤ 99 := fun k hk => by
      have := hundred_mem (hsub k hk)
      omega
    refine ⟨(by show 0 ≤ sizeLine; decide), fun wa nwa => ?_⟩
    have ewp : wa ≠ p := pool_ne hp2 nwa
    have ewr : ra ≠ wa := ne_of_none hra nwa
    have nwa0 : H wa = none := kk2.free ewp nwa
    refine ⟨_, rfl, _, congrArg (fun z => [V.int z]) hn, by omega, by omega, ?_⟩
    rw [show ((n : Int)).toNat = n by omega]
    refine for_range (lo := 0) (n := n) (fun i σ H3 => ∃ (y6 y7 : Option V) (ws : List V) (rs : List Rw), σ = [some (.ref p), some (.int mr), some (.int mo), some (.int n), some (.ref ra), some (.ref wa), y6, y7] ∧ H3 wa = some (.lst ws) ∧ RowsAt H3 ws rs ∧ rs.length = i ∧ (∀ r ∈ rs, RowOk n r ∧ ∀ k ∈ r.1, k ∈ ms) ∧ H3 ra = some (.lst (ms.map V.int)) ∧ PoolAt H3 p ∧ Kept p H H3) ?_ ?_ ?_
    · refine ⟨none, none, [], [], ?_, upd_same, trivial, rfl, fun r hr => (List.not_mem_nil hr).elim, (by rw [upd_ne ewr]; exact hra), hp2.upd ewp.symm, kk2.set nwa0⟩
      rw [← hn]
      rfl
    · rintro i σ H3 hi ⟨y6, y7, ws, rs, rfl, hwa, hrs, hlen, hrow, hra3, hp3, k3⟩
      have hwl := hrs.len
      refine ⟨_, rfl, _, rfl, (by show 6 ≤ sizeLine; decide), fun L nL => ?_⟩
      have eLp : L ≠ p := pool_ne hp3 nL
      refine ⟨_, rfl, p, 6, rfl, hp3.upd eLp.symm, by decide, by decide, fun r3 o3 r30 r31 po3 => ?_⟩
      obtain ⟨v, hv, ev⟩ := cons_nil_fin (xs := [V.int 1, .int 1, .int 1, .int 1, .int 0, .int 2]) 6 rfl r30 r31
      obtain ⟨m, em, hm⟩ : ∃ m : Nat, v = .int m ∧ m ≤ 2 := by
        simp only [List.mem_cons, List.not_mem_nil, or_false] at hv
        rcases hv with e | e | e | e | e | e
        all_goals first
          | exact ⟨0, e, by decide⟩
          | exact ⟨1, e, by decide⟩
          | exact ⟨2, e, by decide⟩
      subst em
      have eLra : ra ≠ L := ne_of_none hra3 nL
      refine ⟨L, _, _, _, rfl, rfl, SqL.of (by rw [upd_ne eLp, upd_same]), ev, ?_⟩
      refine ⟨p, ra, ms, _, rfl, ⟨o3, upd_same, po3⟩, SqL.of (by rw [upd_ne erp, upd_ne eLra]; exact hra3), erp, nd, by omega, by omega, fun q1 H4 m1 nq1 k4 hp4 hq1 nd1 sub1 len1 le1 => ?_⟩
      have kk4 : Kept p H3 H4 := ((Kept.same (same_upd nL)).trans (Kept.upd p _ o3)).trans k4
      have hwa4 : H4 wa = some (.lst ws) := kk4 _ _ hwa ewp
      refine ⟨_, rfl, .inl ⟨rfl, _, SqL.of hwa4⟩, _, rfl, q1, _, rfl, SqL.of hq1, fun u5 H5 s5 nu5 pu5 => ?_⟩
      refine ⟨_, rfl, _, rfl, _, rfl, p, 0 + (i : Int), (n : Int), rfl, hp4.same s5, by omega, by omega, by omega, fun u6 H6 tos k6 hp6 hu6 ris6 => ?_⟩
      refine ⟨(by show 2 ≤ sizeLine; decide), fun t3 H7 s7 nt3 pt3 => ?_⟩
      have kk7 : Kept p H3 H7 := ((kk4.trans (Kept.same s5)).trans k6).trans (Kept.same s7)
      have hwa7 : H7 wa = some (.lst ws) := kk7 _ _ hwa ewp
      refine ⟨wa, _, _, rfl, rfl, hwa7, small1000 (by omega), ?_⟩
      refine ⟨_, _, ws ++ [.ref t3], rs ++ [(m1, tos)], rfl, upd_same, ?_, (by rw [List.length_append, hlen]; rfl), fun r hr => ?_, ?_, ?_, ?_⟩
      · have kz : K2 H7 (upd H7 wa (.lst (ws ++ [.ref t3]))) := K2.lst hwa7
        refine RowsAt.snoc (hrs.keep ((K2.of kk7 hp3).trans kz)) ⟨t3, u5, u6, rfl, kz _ _ (.inl pt3), kz _ _ ((K2.of k6 (hp4.same s5) _ _ (.inl pu5)).same s7), kz _ _ (hu6.same s7)⟩
      · rcases List.mem_append.mp hr with z | z
        · exact hrow r z
        · rw [List.mem_singleton.mp z]
          refine ⟨⟨⟨pw_lt le1 nd1, fun k hk => (hr99 k (sub1 k hk)).1, fun k hk => (hr99 k (sub1 k hk)).2⟩, ?_, ris6⟩, sub1⟩
          show m1.length ≤ 6
          omega
      · rw [upd_ne ewr]
        exact kk7 _ _ hra3 erp
      · exact (hp6.same s7).upd ewp.symm
      · exact (k3.trans kk7).set nwa0
    · rintro σ H3 ⟨y6, y7, ws, rs, rfl, hwa, hrs, hlen, hrow, hra3, hp3, k3⟩
      refine ⟨_, rfl, q wa H3 rs nwa0 k3 hp3 ⟨ws, hwa, hrs⟩ ⟨by omega, by omega, fun r hr => (by rw [hlen]; exact (hrow r hr).1), ms, hml12, fun k hk => ?_⟩ (by omega)⟩
      obtain ⟨l, hl, hk⟩ := List.mem_flatten.mp hk
      obtain ⟨r, hr, rfl⟩ := List.mem_map.mp hl
      exact (hrow r hr).2 k hk
end
end Su
namespace Su
open PySem PySem.Spec PyProof.Rows L2
/-! len(set(l)) -/
theorem fold_len : ∀ (l acc : List Int), (l.foldl step_dedup acc).length ≤ acc.length + l.length ∧ ((l.foldl step_dedup acc).length = acc.length + l.length ↔ (∀ x ∈ l, x ∉ acc) ∧ l.Nodup)
  | [], acc => ⟨Nat.le_refl _, ⟨fun _ => ⟨fun x hx => (List.not_mem_nil hx).elim, List.nodup_nil⟩, fun _ => rfl⟩⟩
  | y :: l, acc => by
    rw [List.foldl_cons]
    by_cases h : y ∈ acc
    · have e : step_dedup acc y = acc := by
        unfold step_dedup
        rw [if_pos]
        exact List.any_eq_true.mpr ⟨y, h, by simp⟩
      rw [e]
      have ih := (fold_len l acc).1
      refine ⟨by rw [List.length_cons]; omega, fun z => ?_, fun z => absurd h (z.1 y List.mem_cons_self)⟩
      rw [List.length_cons] at z
      omega
    · have e : step_dedup acc y = acc ++ [y] := by
        unfold step_dedup
        rw [if_neg]
        intro z
        obtain ⟨x, hx, hxy⟩ := List.any_eq_true.mp z
        have e2 : x = y := by simpa using hxy
        exact h (e2 ▸ hx)
      rw [e]
      obtain ⟨i1, i2⟩ := fold_len l (acc ++ [y])
      have el : (acc ++ [y]).length + l.length = acc.length + (y :: l).length := by
        rw [List.length_append, List.length_cons]
        show acc.length + 1 + l.length = acc.length + (l.length + 1)
        omega
      rw [el] at i1 i2
      refine ⟨i1, i2.trans ⟨fun z => ⟨fun x hx => ?_, ?_⟩, fun z => ⟨fun x hx hx2 => ?_, ?_⟩⟩⟩
      · rcases List.mem_cons.mp hx with q | q
        · rw [q]
          exact h
        · exact fun w => z.1 x q (List.mem_append_left _ w)
      · exact List.nodup_cons.mpr ⟨fun w => z.1 y w (List.mem_append_right _ List.mem_cons_self), z.2⟩
      · rcases List.mem_append.mp hx2 with q | q
        · exact z.1 x (List.mem_cons_of_mem _ hx) q
        · have e3 := List.mem_singleton.mp q
          exact (List.nodup_cons.mp z.2).1 (e3 ▸ hx)
      · exact (List.nodup_cons.mp z.2).2
theorem dd_fold (ns : List Int) : dd ns = ns.foldl step_dedup [] := by
  unfold dd PyProof.Rows.firstMet
  congr 1
  refine List.ext_getElem? fun i => ?_
  rw [List.getElem?_map]
  by_cases h : i < ns.length
  · rw [List.getElem?_range h, List.getElem?_eq_getElem h]
    simp [List.getD_eq_getElem?_getD, h]
  · rw [List.getElem?_eq_none (by rw [List.length_range]; omega), List.getElem?_eq_none (by omega)]
    rfl
theorem dd_nodup (ns : List Int) : (dd ns).length = ns.length ↔ ns.Nodup := by
  rw [dd_fold]
  have h := (fold_len ns []).2
  rw [List.length_nil, Nat.zero_add] at h
  exact h.trans ⟨fun z => z.2, fun z => ⟨fun x _ => List.not_mem_nil, z⟩⟩
/-- no room twice, as the law says it -/
theorem rooms_nodup (ns : List Int) : (ns.filter fun i => !decide (i = -1)).Nodup ↔ ∀ i, i ≠ -1 → ns.count i ≤ 1 := by
  rw [List.nodup_iff_count]
  constructor
  · intro h i hi
    have := h i
    rw [List.count_filter (by simpa using hi)] at this
    exact this
  · intro h i
    by_cases hi : i = -1
    · subst hi
      rw [List.count_eq_zero.mpr (fun z => by have := (List.mem_filter.mp z).2; simp at this)]
      exact Nat.zero_le _
    · rw [List.count_filter (by simpa using hi)]
      exact h i hi
section
variable {X : Cx}
/-- t.count(n) -/
def rTCount : V → List V → Hp → VK → Prop := fun x xs H Q => ∃ (p : Addr) (ns : List Int) (k : Int), x = .ref p ∧ xs = [.int k] ∧ PTup H p (ns.map V.int) ∧ Q (.int (ns.count k : Nat)) H
theorem countP_int (ns : List Int) (k : Int) : ((ns.map PyData.int).countP fun y => PyData.eqv y (.int k)) = ns.count k := by
  rw [List.countP_map, List.count]
  congr 1
theorem plain_ints : ∀ ns : List Int, PyData.plainAll (ns.map PyData.int) = true
  | [] => by first | rfl | simp [PyData.plainAll]
  | n :: ns => by
    rw [List.map_cons]
    have ih := plain_ints ns
    first
      | simp only [PyData.plainAll, PyData.plain, ih, Bool.and_self]
      | simp [PyData.plainAll, PyData.plain, ih]
theorem mt_tcount (hu : X.A.units + 1 < cLine) : MtR X "tuple.count" rTCount := by
  intro pins s σ H x xs v us Q I rx rs h
  obtain ⟨p, ns, k, rfl, rfl, hq, q⟩ := h
  cases rx
  obtain ⟨u, rfl, t, rfl⟩ := vals1 rs
  obtain ⟨its, r, pl, hz⟩ := I.tuple (hq.sq (K := X.K))
  obtain ⟨as, ra⟩ := Dp.readsAll I (ns.map PyData.int) _ _ (dp_ints ns) r
  refine PySem.SeqAt.count_tuple_data (vs := its.toArray) pl (by simpa using ra) (Reads.int k t) (plain_ints ns) (by first | rfl | simp [PyData.plain]) (by
    have e : (PyData.int k).depth = 0 := by simp [PyData.depth]
    rw [e, Nat.min_zero]
    omega) ?_
  rw [countP_int]
  exact ⟨.int (ns.count k : Nat), H, I.tok _, ⟨_, rfl⟩, q⟩
end
theorem slot_rng (i : Int) : slotG (.int i) = (decide (-1 ≤ i) && decide (i ≤ 99)) := by
  show ((decide (0 ≤ i) && decide (i ≤ 99)) || decide (i = -1)) = (decide (-1 ≤ i) && decide (i ≤ 99))
  rw [Bool.eq_iff_iff]
  simp only [Bool.or_eq_true, Bool.and_eq_true, decide_eq_true_eq]
  omega
theorem ints_all : ∀ {es : List G} {p : Addr} {H : Hp} {vs : List V}, TgL p H vs es → (∀ e ∈ es, wholeG e = true) → ∃ ns : List Int, es = ns.map G.int ∧ vs = ns.map V.int
  | [], _, _, _, .nil, _ => ⟨[], rfl, rfl⟩
  | g :: es, p, H, _, .cons h t, a => by
    obtain ⟨i, rfl, rfl⟩ := whole_int h (a g List.mem_cons_self)
    obtain ⟨ns, rfl, rfl⟩ := ints_all t fun e he => a e (List.mem_cons_of_mem _ he)
    exact ⟨i :: ns, rfl, rfl⟩
theorem tg_isStr {p : Addr} {H : Hp} {v : V} {g : G} (h : Tg p H v g) (e : isStr g = true) : ∃ s, v = .str s ∧ g = .str s := by
  cases h with
  | str s => exact ⟨s, rfl, rfl⟩
  | _ => cases e
theorem sizeG_eq (n : Int) (s : Str) : sizeG (.int n) s = ((decide (1 ≤ n) && decide (n ≤ 8)) && (!decide (s = "tree") || inV (.int n) sizeVs)) := rfl
theorem dec_str (a b : Str) : decide (V.str a = V.str b) = decide (a = b) := by
  by_cases h : a = b
  · subst h
    rw [decide_eq_true rfl, decide_eq_true rfl]
  · rw [decide_eq_false h, decide_eq_false (fun z => h (V.str.inj z))]
theorem filt_empty {α : Type} (f : α → Bool) : ∀ l : List α, (l.filter fun g => !f g).isEmpty = l.all f
  | [] => rfl
  | x :: l => by
    rw [List.filter_cons, List.all_cons, ← filt_empty f l]
    cases f x <;> rfl
theorem toDs_empty (gs : List G) : (toDs gs).isEmpty = gs.isEmpty := by
  cases gs <;> rfl
theorem map_empty {α β : Type} (f : α → β) (l : List α) : (l.map f).isEmpty = l.isEmpty := by
  cases l <;> rfl
theorem rooms_ints (ns : List Int) : roomsOf (ns.map G.int) = ns.filter fun i => !decide (i = -1) := by
  unfold roomsOf
  rw [List.map_map]
  congr 1
  exact List.map_id' ns
theorem dup_iff (ns : List Int) (h : ∀ i ∈ ns, -1 ≤ i) : (ns.filter fun i => decide (0 ≤ i) && decide (1 < ns.count i)).isEmpty = decide ((dd (roomsOf (ns.map G.int))).length = (roomsOf (ns.map G.int)).length) := by
  rw [rooms_ints, Bool.eq_iff_iff, decide_eq_true_eq, dd_nodup, rooms_nodup, List.isEmpty_iff, List.filter_eq_nil_iff]
  constructor
  · intro z i hi
    by_cases hm : i ∈ ns
    · have := z i hm
      have h1 := h i hm
      simp only [Bool.and_eq_true, decide_eq_true_eq, not_and] at this
      have := this (by omega)
      omega
    · rw [List.count_eq_zero.mpr hm]
      exact Nat.zero_le _
  · intro z i hm
    simp only [Bool.and_eq_true, decide_eq_true_eq, not_and]
    intro h0
    have := z i (by omega)
    omega
theorem bits_in (ms : List Int) : ((ms.filter fun i => !inV (V.int i) [V.int 0, V.int 1]).isEmpty) = (ms.map G.int).all bitG := by
  rw [filt_empty (fun i => inV (V.int i) [V.int 0, V.int 1]) ms, List.all_map]
  congr 1
  funext i
  show ((0 == i) || ((1 == i) || false)) = (decide (0 ≤ i) && decide (i ≤ 1))
  rw [Bool.eq_iff_iff]
  simp only [Bool.or_eq_true, Bool.and_eq_true, decide_eq_true_eq, beq_iff_eq, Bool.or_false]
  omega
end Su
/-! ### N2: shelves made of lays -/
namespace Su
open PySem PySem.Spec PyProof.Rows L2
structure ShC (K : PySem.W.Frag) (C : Addr) : Prop where
  cl : Cls K C
  many : NoAttr K C "many"
  kept : NoAttr K C "kept_by"
  slots : NoAttr K C "slots"
  bits : NoAttr K C "bits"
  near : NoAttr K C "near"
  far : NoAttr K C "far"
/-- the fields of a shelf -/
def shF (vz vw va vb : V) (n f : Int) : List (Str × V) := [("many", vz), ("kept_by", vw), ("slots", va), ("bits", vb), ("near", .int n), ("far", .int f)]
theorem tg_ints {p : Addr} {H : Hp} : ∀ ns : List Int, TgL p H (ns.map V.int) (ns.map G.int)
  | [] => .nil
  | i :: ns => .cons (.int i) (tg_ints ns)
theorem num_ints (ns : List Int) : (ns.map G.int).map numG = ns := by
  rw [List.map_map]
  exact List.map_id'' (fun _ => rfl) ns
theorem slots_lay {n : Nat} {xs : List Int} (h : Slots n xs) : areSlotsG (.tup (xs.map G.int)) n = true := by
  show (decide ((((xs.map G.int).length : Nat) : Int) = n) && ((xs.map G.int).all slotG && decide ((dd (roomsOf (xs.map G.int))).length = (roomsOf (xs.map G.int)).length))) = true
  rw [Bool.and_eq_true, Bool.and_eq_true, decide_eq_true_eq, decide_eq_true_eq, dd_nodup]
  refine ⟨by rw [List.length_map, h.len], ?_, ?_⟩
  · rw [List.all_eq_true]
    intro g hg
    obtain ⟨i, hi, rfl⟩ := List.mem_map.mp hg
    have := h.rng i hi
    show (_ || _) = true
    by_cases e : i = -1
    · rw [e]
      rfl
    · rw [Bool.or_eq_true, Bool.and_eq_true, decide_eq_true_eq, decide_eq_true_eq]
      exact .inl ⟨by omega, by omega⟩
  · unfold roomsOf
    rw [num_ints, List.nodup_iff_count]
    intro a
    by_cases e : a = -1
    · rw [List.count_eq_zero.mpr]
      · omega
      · intro z
        have := (List.mem_filter.mp z).2
        rw [e] at this
        exact absurd this (by decide)
    · exact Nat.le_trans (List.filter_sublist.count_le a) (h.one a e)
theorem bits_lay {st : Str} {n : Nat} {xs bs : List Int} (h : LayOk st n xs bs) : areBitsG (.tup (bs.map G.int)) n st = true := by
  show (decide ((((bs.map G.int).length : Nat) : Int) = bitsN n st) && (bs.map G.int).all bitG) = true
  rw [Bool.and_eq_true, decide_eq_true_eq, List.all_eq_true, List.length_map]
  unfold bitsN
  by_cases e : st = "tree"
  · have t := (h.tr e).bt
    have := h.pos
    rw [if_pos e, t.len]
    refine ⟨by omega, fun g hg => ?_⟩
    obtain ⟨i, hi, rfl⟩ := List.mem_map.mp hg
    rcases t.rng i hi with y | y <;> rw [y] <;> rfl
  · rw [if_neg e, h.no e]
    exact ⟨rfl, fun g hg => (List.not_mem_nil hg).elim⟩
theorem part_lay {st : Str} {n : Nat} {xs bs : List Int} (h : LayOk st n xs bs) (hw : inV (.str st) wayVs = true) : partG (.int n) (.str st) (.tup (xs.map G.int)) (.tup (bs.map G.int)) = none := by
  have hz : sizeG (.int n) st = true := by
    show ((decide (1 ≤ (n : Int)) && decide ((n : Int) ≤ 8)) && (!decide (st = "tree") || inV (.int n) sizeVs)) = true
    have := h.pos
    have := h.few
    rw [Bool.and_eq_true, Bool.and_eq_true, decide_eq_true_eq, decide_eq_true_eq]
    refine ⟨⟨by omega, by omega⟩, ?_⟩
    by_cases e : st = "tree"
    · rcases (h.tr e).sz with y | y | y | y <;> rw [y, Bool.or_eq_true] <;> exact .inr (by decide +kernel)
    · rw [decide_eq_false e]
      rfl
  unfold partG
  rw [if_pos (show wayG (.str st) = true from hw), if_pos (show sizeG (.int n) (strG (.str st)) = true from hz), if_neg, if_neg]
  · rw [show areBitsG (.tup (bs.map G.int)) (numG (.int n)) (strG (.str st)) = true from bits_lay h]
    exact fun z => by cases z
  · rw [show areSlotsG (.tup (xs.map G.int)) (numG (.int n)) = true from slots_lay h.sl]
    exact fun z => by cases z
/-- a shelf at x with this lay -/
structure ShV (C : Addr) (H : Hp) (x : Addr) (n : Nat) (st : Str) (xs bs : List Int) (near far : Int) : Prop where
  ex : ∃ (dx a b : Addr), H x = some (.ins C dx (shF (.int n) (.str st) (.ref a) (.ref b) near far)) ∧ PTup H a (xs.map V.int) ∧ PTup H b (bs.map V.int)
  ok : LayOk st n xs bs
  way : inV (.str st) wayVs = true
/-- all stays but what stands at x -/
def But (x : Addr) (H H' : Hp) : Prop := ∀ c o, H c = some o → c ≠ x → H' c = some o
theorem But.refl (x : Addr) (H : Hp) : But x H H := fun _ _ e _ => e
theorem But.same {x : Addr} {H H' : Hp} (s : Same H H') : But x H H' := fun c o e _ => s c o e
theorem But.trans {x : Addr} {H H1 H2 : Hp} (a : But x H H1) (b : But x H1 H2) : But x H H2 := fun c o e n => b c o (a c o e n) n
theorem But.upd (x : Addr) (H : Hp) (o : HO) : But x H (upd H x o) := fun c y e n => by
  rw [upd_ne n]
  exact e
theorem PTup.but {x a C dx : Addr} {fs : List (Str × V)} {H H' : Hp} {xs : List V} (h : PTup H a xs) (k : But x H H') (e : H x = some (.ins C dx fs)) : PTup H' a xs := by
  obtain ⟨ob, eo, ed⟩ := h
  refine ⟨ob, k _ _ eo fun z => ?_, ed⟩
  rw [z, e] at eo
  cases eo
def spInitV (C : Addr) : Sp := fun vs H Q _ => ∃ (x dx a b : Addr) (n : Nat) (st : Str) (xs bs : List Int), vs = [.ref x, .int n, .str st, .ref a, .ref b] ∧ H x = some (.ins C dx []) ∧ PTup H a (xs.map V.int) ∧ PTup H b (bs.map V.int) ∧ LayOk st n xs bs ∧ inV (.str st) wayVs = true ∧
  ∀ H', But x H H' → H' x = some (.ins C dx (shF (.int n) (.str st) (.ref a) (.ref b) 0 0)) → Q .non H'
theorem scS_init : FnScope ["self", "size", "way", "slots", "bits", "part"] ["self", "size", "way", "slots", "bits"] (defScope sS_init) := ⟨rfl, rfl, rfl, by decide +kernel, rfl, by decide +kernel, by decide +kernel⟩
section
variable {P : Program} {w : World} {K : PySem.W.Frag} {mg : Str → Option Value} {base : Heap}
theorem ok_init {C : Addr} (SC : ShC K C) (D : Gb K mg) (B : Bt mg) {f : Addr} {fd : FuncData} {dvs : List V} {kws : List (Str × V)} (F : FunD K "__init__" "Shelf.__init__" (defArgs sS_init) (defBody sS_init) (defScope sS_init) dvs kws f fd)
    (c_wrong_part : Cal P w K mg base 5 "wrong_part" ["size", "way", "slots", "bits"] spPart) (c_how_many_bits : Cal P w K mg base 1 "how_many_bits" ["size", "way"] spHow) : FnOk P w K mg base CX0 6 f fd ["self", "size", "way", "slots", "bits"] (spInitV C) := by
  obtain ⟨te, mEmpty⟩ := D.empty
  refine FunD.ok (CX := CX0) F scS_init (fun vs H Q E h => ?_) (fun cdv A outer s H vs Q E hr h => ?_)
  · obtain ⟨x, dx, a, b, n, st, xs, bs, rfl, _⟩ := h
    rfl
  · obtain ⟨x, dx, a, b, n, st, xs, bs, rfl, hx, ha, hb, ok, hw, q⟩ := h
    refine ⟨_, (pss_cons (ps_set (i := 5) scS_init.nd rfl (Or.inl rfl) (pe_own c_wrong_part hr (by decide) (by rfl) (pa_cons (pv 1) (pa_cons (pv 2) (pa_cons (pv 3) (pa_cons (pv 4) pa_nil))))))
      (pss_cons (ps_if (pt_cmpR op_notN (pv 5) pe_non (nomark _)) (pss_one ps_never) pss_nil)
      (pss_cons (ps_fld (pv 0) (pv 1) (by rfl))
      (pss_cons (ps_fld (pv 0) (pv 2) (by rfl))
      (pss_cons (ps_fld (pv 0) (pe_ifExp (pt_cmpR op_isN (pv 3) pe_non (nomark _)) (pe_op op_repF (pe_tupF (pa_cons (pe_glob (v := .int (-1)) rfl mEmpty ⟨_, rfl⟩) pa_nil)) (pv 1)) (pe_callTy call_tupleT (by rfl) B.tuple (by decide +kernel) (pa_cons (pv 3) pa_nil))) (by rfl))
      (pss_cons (ps_fld (pv 0) (pe_ifExp (pt_cmpR op_isN (pv 4) pe_non (nomark _)) (pe_op op_repF (pe_tupF (pa_cons pe_int pa_nil)) (pe_own c_how_many_bits hr (by decide) (by rfl) (pa_cons (pv 1) (pa_cons (pv 2) pa_nil)))) (pe_callTy call_tupleT (by rfl) B.tuple (by decide +kernel) (pa_cons (pv 4) pa_nil))) (by rfl))
      (pss_cons (ps_fld (pv 0) pe_int (by rfl))
      (pss_one (ps_fld (pv 0) pe_int (by rfl)))))))))), ?_⟩
    have l1 : xs.length ≤ 100 := by
      have := ok.sl.len
      have := ok.few
      omega
    have l2 : bs.length ≤ 100 := by
      have := ok.few
      by_cases e : st = "tree"
      · have := (ok.tr e).bt.len
        omega
      · rw [ok.no e]
        decide
    refine ⟨_, rfl, _, rfl, _, rfl, _, rfl, 0, .int n, .str st, .ref a, .ref b, .int n, .str st, .tup (xs.map G.int), .tup (bs.map G.int), rfl, .int n, .str st, .tup (.inl ha) (tg_ints xs), .tup (.inl hb) (tg_ints bs), (by show (xs.map G.int).length ≤ 100; rw [List.length_map]; exact l1), (by show (bs.map G.int).length ≤ 100; rw [List.length_map]; exact l2), fun H1 s1 => ?_⟩
    rw [part_lay ok hw]
    refine ⟨_, rfl, rfl, _, rfl, iteB (fun z => by cases z) (fun _ => ?_)⟩
    have hx1 := s1 _ _ hx
    refine ⟨_, rfl, _, rfl, x, C, dx, [], rfl, hx1, SC.cl, SC.many, (by decide), ?_⟩
    refine ⟨_, rfl, _, rfl, x, C, dx, _, rfl, upd_same, SC.cl, SC.kept, (by show 1 < 1000; decide), ?_⟩
    have hx3 : (upd (upd H1 x (.ins C dx (L2.putF "many" (.int n) []))) x (.ins C dx (L2.putF "kept_by" (.str st) (L2.putF "many" (.int n) [])))) x = some (.ins C dx [("many", .int n), ("kept_by", .str st)]) := upd_same
    have b3 : But x H (upd (upd H1 x (.ins C dx (L2.putF "many" (.int n) []))) x (.ins C dx (L2.putF "kept_by" (.str st) (L2.putF "many" (.int n) [])))) := ((But.same s1).trans (But.upd x _ _)).trans (But.upd x _ _)
    generalize upd (upd H1 x (.ins C dx (L2.putF "many" (.int n) []))) x (.ins C dx (L2.putF "kept_by" (.str st) (L2.putF "many" (.int n) []))) = H3 at hx3 b3 ⊢
    refine ⟨_, rfl, rfl, _, rfl, iteB (fun z => by cases z) (fun _ => ?_)⟩
    refine ⟨_, rfl, a, _, rfl, (ha.but b3 hx).sq, ?_⟩
    refine ⟨_, rfl, x, C, dx, _, rfl, hx3, SC.cl, SC.slots, (by show 2 < 1000; decide), ?_⟩
    have hx4 : (upd H3 x (.ins C dx (L2.putF "slots" (.ref a) [("many", .int n), ("kept_by", .str st)]))) x = some (.ins C dx [("many", .int n), ("kept_by", .str st), ("slots", .ref a)]) := upd_same
    have b4 := b3.trans (But.upd x H3 (.ins C dx (L2.putF "slots" (.ref a) [("many", .int n), ("kept_by", .str st)])))
    generalize upd H3 x (.ins C dx (L2.putF "slots" (.ref a) [("many", .int n), ("kept_by", .str st)])) = H4 at hx4 b4 ⊢
    refine ⟨_, rfl, rfl, _, rfl, iteB (fun z => by cases z) (fun _ => ?_)⟩
    refine ⟨_, rfl, b, _, rfl, (hb.but b4 hx).sq, ?_⟩
    refine ⟨_, rfl, x, C, dx, _, rfl, hx4, SC.cl, SC.bits, (by show 3 < 1000; decide), ?_⟩
    refine ⟨_, rfl, x, C, dx, _, rfl, upd_same, SC.cl, SC.near, (by show 4 < 1000; decide), ?_⟩
    refine ⟨_, rfl, x, C, dx, _, rfl, upd_same, SC.cl, SC.far, (by show 5 < 1000; decide), ?_⟩
    exact q _ (((b4.trans (But.upd x _ _)).trans (But.upd x _ _)).trans (But.upd x _ _)) upd_same
end
end Su
/-! ### N3: shelves asked, and twins -/
namespace Su
open PySem PySem.Spec PyProof.Rows L2
/-- a method that gives back two fields, as a tuple -/
def spTwo (C : Addr) (f1 f2 : Str) : Sp := fun vs H Q E => ∃ (x dx : Addr) (fs : List (Str × V)) (v1 v2 : V), vs = [.ref x] ∧ H x = some (.ins C dx fs) ∧ fs.lookup f1 = some v1 ∧ fs.lookup f2 = some v2 ∧ ∀ t H', Same H H' → H t = none → PTup H' t [v1, v2] → Q (.ref t) H'
/-- a method of the class at C without arguments -/
structure MetS (P : Program) (w : World) (K : PySem.W.Frag) (mg : Str → Option Value) (base : Heap) (k : Nat) (C : Addr) (m : Str) (sp : Sp) : Prop where
  ex : ∃ (f : Addr) (fd : FuncData), Cls K C ∧ Meth K C m f ∧ FnOk P w K mg base CX0 k f fd ["self"] sp ∧ Binds K fd ["self"] []
/-- a method with arguments -/
structure MetA (P : Program) (w : World) (K : PySem.W.Frag) (mg : Str → Option Value) (base : Heap) (k : Nat) (C : Addr) (m : Str) (ps : List Str) (sp : Sp) : Prop where
  ex : ∃ (f : Addr) (fd : FuncData), Cls K C ∧ Meth K C m f ∧ FnOk P w K mg base CX0 k f fd ps sp ∧ Binds K fd ps []
/-- the class, made with all its arguments -/
structure MakV (P : Program) (w : World) (K : PySem.W.Frag) (mg : Str → Option Value) (base : Heap) (k : Nat) (C : Addr) (sp : Sp) : Prop where
  ex : ∃ (f : Addr) (fd : FuncData), L2.Mk K C f ∧ FnOk P w K mg base CX0 k f fd ["self", "size", "way", "slots", "bits"] sp ∧ mg "Shelf" = some (.ref C) ∧ Binds K fd ["self", "size", "way", "slots", "bits"] []
section
variable {X : Cx} {k j : Nat} {C : Addr} {m : Str} {ps : List Str} {sp : Sp} {o e : Expr} {es : List Expr} {ta : TE} {t : TA} {apos pos p : Pos}
theorem pe_mtS {pl : Sem Bool} (c : MetS X.prog X.w X.K X.mg X.base k C m sp) (hr : Room j X.A) (hk : k ≤ j) (he : PE X o ta)
    (ht : eval (.Call (.Attribute o m apos) [] [] pos) X.env = (do
      let ov ← eval o X.env
      standAt apos.atName
      let (f, first) ← holding [ov] (getMethod ov m pl)
      callWith pos f first (backTo pos (starEach [] X.env)) (backToKw pos (keywordEach [] X.env))) := by rfl) :
    PE X (.Call (.Attribute o m apos) [] [] pos) (tMeth C m sp [] E0 ta tNil) := by
  obtain ⟨f, fd, hc, hm, F, b⟩ := c.ex
  exact pe_meth0 (pl := pl) he hc hm F (hr.mono hk) b .nil (fun _ _ _ _ _ _ _ h => h.elim) ht
theorem pe_mtA {pl : Sem Bool} (c : MetA X.prog X.w X.K X.mg X.base k C m ps sp) (hr : Room j X.A) (hk : k ≤ j) (he : PE X o ta) (ha : PA X (e :: es) t)
    (hst : starEach (e :: es) X.env = (false, eval e X.env) :: starEach es X.env := by rfl) (hpl : (backTo pos (starEach es X.env)).any (·.1) = false := by rfl)
    (ht : eval (.Call (.Attribute o m apos) (e :: es) [] pos) X.env = (do
      let ov ← eval o X.env
      standAt apos.atName
      let (f, first) ← holding [ov] (getMethod ov m pl)
      callWith pos f first (backTo pos (starEach (e :: es) X.env)) (backToKw pos (keywordEach [] X.env))) := by rfl) :
    PE X (.Call (.Attribute o m apos) (e :: es) [] pos) (tMeth C m sp [] E0 ta t) := by
  obtain ⟨f, fd, hc, hm, F, b⟩ := c.ex
  exact pe_meth (pl := pl) he hc hm F (hr.mono hk) b .nil (fun _ _ _ _ _ _ _ h => h.elim) ha hst hpl ht
theorem pe_shelfV (c : MakV X.prog X.w X.K X.mg X.base k C sp) (hr : Room j X.A) (hk : k + 1 ≤ j) (hg : Gl X "Shelf") (ha : PA X (e :: es) t)
    (he : starEach (e :: es) X.env = (false, eval e X.env) :: starEach es X.env := by rfl) (hpl : (backTo pos (starEach es X.env)).any (·.1) = false := by rfl) :
    PE X (.Call (.Name "Shelf" p) (e :: es) [] pos) (tMake C sp [] E0 t) := by
  obtain ⟨f, fd, M, F, hm, b⟩ := c.ex
  exact pe_make M F (hr.mono hk) hg hm b .nil (fun _ _ _ _ _ _ _ h => h.elim) ha (he := he) (hpl := hpl)
end
def spLookR : Sp := fun vs H Q _ => ∃ r : Int, vs = [.int r] ∧ 0 ≤ r ∧ r < 100 ∧ Q .non H
def spAsk (C : Addr) : Sp := fun vs H Q _ => ∃ (x : Addr) (r : Int) (n : Nat) (st : Str) (xs bs : List Int) (near far : Int), vs = [.ref x, .int r] ∧ ShV C H x n st xs bs near far ∧ 0 ≤ r ∧ r < 100 ∧
  ∀ H', But x H H' → ShV C H' x n st (askF st xs bs r).1 (askF st xs bs r).2 (if r ∈ xs then near + 1 else near) (if r ∈ xs then far else far + 1) → Q (.bl (decide (r ∈ xs))) H'
def spTwin (C : Addr) : Sp := fun vs H Q _ => ∃ (x : Addr) (n : Nat) (st : Str) (xs bs : List Int) (near far : Int), vs = [.ref x] ∧ ShV C H x n st xs bs near far ∧
  ∀ (y : Addr) (H' : Hp), Same H H' → H y = none → ShV C H' y n st xs bs near far → Q (.ref y) H'
theorem ShV.but {C : Addr} {H H' : Hp} {x y : Addr} {n : Nat} {st : Str} {xs bs : List Int} {near far : Int} {C2 d2 : Addr} {f2 : List (Str × V)} (h : ShV C H x n st xs bs near far) (k : But y H H') (e : H y = some (.ins C2 d2 f2)) (ne : x ≠ y) : ShV C H' x n st xs bs near far := by
  obtain ⟨dx, a, b, h1, h2, h3⟩ := h.ex
  exact ⟨⟨dx, a, b, k _ _ h1 ne, h2.but k e, h3.but k e⟩, h.ok, h.way⟩
theorem ShV.same {C : Addr} {H H' : Hp} {x : Addr} {n : Nat} {st : Str} {xs bs : List Int} {near far : Int} (h : ShV C H x n st xs bs near far) (s : Same H H') : ShV C H' x n st xs bs near far := by
  obtain ⟨dx, a, b, h1, h2, h3⟩ := h.ex
  exact ⟨⟨dx, a, b, s _ _ h1, h2.same s, h3.same s⟩, h.ok, h.way⟩
theorem sc_look_at_room : FnScope ["thing"] ["thing"] (defScope s_look_at_room) := ⟨rfl, rfl, rfl, by decide +kernel, rfl, by decide +kernel, by decide +kernel⟩
theorem scS_lay : FnScope ["self"] ["self"] (defScope sS_lay) := ⟨rfl, rfl, rfl, by decide +kernel, rfl, by decide +kernel, by decide +kernel⟩
theorem scS_counts : FnScope ["self"] ["self"] (defScope sS_counts) := ⟨rfl, rfl, rfl, by decide +kernel, rfl, by decide +kernel, by decide +kernel⟩
theorem scS_ask : FnScope ["self", "room", "behind", "near"] ["self", "room"] (defScope sS_ask) := ⟨rfl, rfl, rfl, by decide +kernel, rfl, by decide +kernel, by decide +kernel⟩
theorem scS_twin : FnScope ["self", "other"] ["self"] (defScope sS_twin) := ⟨rfl, rfl, rfl, by decide +kernel, rfl, by decide +kernel, by decide +kernel⟩
section
variable {P : Program} {w : World} {K : PySem.W.Frag} {mg : Str → Option Value} {base : Heap}
theorem ok_look_room (T : At K mg "look_at_room" s_look_at_room ["thing"]) (c_is_room : Cal P w K mg base 2 "is_room" ["thing"] spRoom) : Cal P w K mg base 3 "look_at_room" ["thing"] spLookR := by
  refine cal_of T sc_look_at_room (fun vs H Q E h => ?_) (fun f cdv A outer s H vs Q E hr h => ?_)
  · obtain ⟨r, rfl, _⟩ := h
    rfl
  · obtain ⟨r, rfl, r0, r1, q⟩ := h
    refine ⟨_, (pss_one (ps_if (pt_not (pt_val (pe_own c_is_room hr (by decide) (by rfl) (pa_cons (pv 0) pa_nil)))) (pss_one ps_never) pss_nil)), ?_⟩
    refine ⟨_, rfl, 0, .int r, .int r, rfl, .int r, ?_⟩
    rw [show roomG (.int r) = true by show (decide _ && decide _) = true; rw [Bool.and_eq_true, decide_eq_true_eq, decide_eq_true_eq]; omega]
    exact ⟨_, rfl, iteF q⟩
theorem okS_lay {C : Addr} (SC : ShC K C) {f : Addr} {fd : FuncData} (F : Fun K "lay" "Shelf.lay" sS_lay f fd) : FnOk P w K mg base CX0 1 f fd ["self"] (spTwo C "slots" "bits") := by
  refine F.ok scS_lay (fun vs H Q E h => ?_) (fun cdv A outer s H vs Q E hr h => ?_)
  · obtain ⟨x, dx, fs, v1, v2, rfl, _⟩ := h
    rfl
  · obtain ⟨x, dx, fs, v1, v2, rfl, hx, h1, h2, q⟩ := h
    refine ⟨_, (pss_one (ps_ret (pe_tupF (pa_cons (pe_fld (pv 0) (by rfl)) (pa_cons (pe_fld (pv 0) (by rfl)) pa_nil))))), ?_⟩
    refine ⟨_, rfl, x, C, dx, fs, v1, rfl, hx, SC.cl, SC.slots, h1, _, rfl, x, C, dx, fs, v2, rfl, hx, SC.cl, SC.bits, h2, (by show 2 ≤ sizeLine; decide), fun t H1 s1 nt pt => q t H1 s1 nt pt⟩
theorem okS_counts {C : Addr} (SC : ShC K C) {f : Addr} {fd : FuncData} (F : Fun K "counts" "Shelf.counts" sS_counts f fd) : FnOk P w K mg base CX0 1 f fd ["self"] (spTwo C "near" "far") := by
  refine F.ok scS_counts (fun vs H Q E h => ?_) (fun cdv A outer s H vs Q E hr h => ?_)
  · obtain ⟨x, dx, fs, v1, v2, rfl, _⟩ := h
    rfl
  · obtain ⟨x, dx, fs, v1, v2, rfl, hx, h1, h2, q⟩ := h
    refine ⟨_, (pss_one (ps_ret (pe_tupF (pa_cons (pe_fld (pv 0) (by rfl)) (pa_cons (pe_fld (pv 0) (by rfl)) pa_nil))))), ?_⟩
    refine ⟨_, rfl, x, C, dx, fs, v1, rfl, hx, SC.cl, SC.near, h1, _, rfl, x, C, dx, fs, v2, rfl, hx, SC.cl, SC.far, h2, (by show 2 ≤ sizeLine; decide), fun t H1 s1 nt pt => q t H1 s1 nt pt⟩
theorem okS_ask {C : Addr} (SC : ShC K C) {f : Addr} {fd : FuncData} (F : Fun K "ask" "Shelf.ask" sS_ask f fd) (c_look_at_room : Cal P w K mg base 3 "look_at_room" ["thing"] spLookR) (c_asked : Cal P w K mg base 3 "asked" ["lay", "room", "way"] spAsked) (m_lay : MetS P w K mg base 1 C "lay" (spTwo C "slots" "bits")) : FnOk P w K mg base CX0 4 f fd ["self", "room"] (spAsk C) := by
  refine F.ok scS_ask (fun vs H Q E h => ?_) (fun cdv A outer s H vs Q E hr h => ?_)
  · obtain ⟨x, r, n, st, xs, bs, near, far, rfl, _⟩ := h
    rfl
  · obtain ⟨x, r, n, st, xs, bs, near, far, rfl, hs, r0, r1, q⟩ := h
    refine ⟨_, (pss_cons (ps_expr (pe_own c_look_at_room hr (by decide) (by rfl) (pa_cons (pv 1) pa_nil)))
      (pss_cons (ps_asg (pe_own c_asked hr (by decide) (by rfl) (pa_cons (pe_mtS m_lay hr (by decide) (pv 0)) (pa_cons (pv 1) (pa_cons (pe_fld (pv 0) (by rfl)) pa_nil)))) (pg_tup (by rfl) (pgs_cons (pg_name (i := 2) scS_ask.nd rfl (Or.inl rfl)) (pgs_cons (pg_name (i := 3) scS_ask.nd rfl (Or.inl rfl)) pgs_nil))))
      (pss_cons (ps_fld (pv 0) (pe_ix ix_tup (pv 2) pe_int (fun _ _ => rfl)) (by rfl))
      (pss_cons (ps_fld (pv 0) (pe_ix ix_tup (pv 2) pe_int (fun _ _ => rfl)) (by rfl))
      (pss_cons (ps_if (pt_val (pv 3)) (pss_one (ps_fldaug (pv 0) pe_int in_add)) (pss_one (ps_fldaug (pv 0) pe_int in_add)))
      (pss_one (ps_ret (pv 3)))))))), ?_⟩
    obtain ⟨dx, a, b, hx, ta, tb⟩ := hs.ex
    have hl : xs.length = n := hs.ok.sl.len
    have hp := hs.ok.pos
    have hf := hs.ok.few
    refine ⟨_, rfl, r, rfl, r0, r1, ?_⟩
    refine ⟨_, rfl, x, dx, _, rfl, hx, rfl, x, dx, _, .ref a, .ref b, rfl, hx, rfl, rfl, fun t H1 s1 nt pt => ?_⟩
    refine ⟨_, rfl, _, rfl, x, C, dx, _, .str st, rfl, s1 _ _ hx, SC.cl, SC.kept, rfl, ?_⟩
    refine ⟨t, xs, bs, r, st, rfl, ⟨a, b, pt, ta.same s1, tb.same s1⟩, (fun e => by rw [hl]; exact hs.ok.tr e), by omega, by omega, fun v H2 s2 an => ?_⟩
    obtain ⟨l, pl, a2, b2, pl2, ta2, tb2⟩ := an
    refine ⟨v, _, rfl, pl.sq, rfl, _, _, rfl, _, _, rfl, rfl, ?_⟩
    have hx2 := s2 _ _ (s1 _ _ hx)
    refine ⟨_, rfl, l, _, 0, .ref a2, rfl, rfl, pl2.sq, rfl, _, rfl, x, C, dx, _, rfl, hx2, SC.cl, SC.slots, (by show 6 < 1000; decide), ?_⟩
    have hx3 : (upd H2 x (.ins C dx (L2.putF "slots" (.ref a2) (shF (.int n) (.str st) (.ref a) (.ref b) near far)))) x = some (.ins C dx (shF (.int n) (.str st) (.ref a2) (.ref b) near far)) := upd_same
    have k3 := But.upd x H2 (.ins C dx (L2.putF "slots" (.ref a2) (shF (.int n) (.str st) (.ref a) (.ref b) near far)))
    generalize upd H2 x (.ins C dx (L2.putF "slots" (.ref a2) (shF (.int n) (.str st) (.ref a) (.ref b) near far))) = H3 at hx3 k3 ⊢
    refine ⟨_, rfl, l, _, 1, .ref b2, rfl, rfl, (pl2.but k3 hx2).sq, rfl, _, rfl, x, C, dx, _, rfl, hx3, SC.cl, SC.bits, (by show 6 < 1000; decide), ?_⟩
    have hx4 : (upd H3 x (.ins C dx (L2.putF "bits" (.ref b2) (shF (.int n) (.str st) (.ref a2) (.ref b) near far)))) x = some (.ins C dx (shF (.int n) (.str st) (.ref a2) (.ref b2) near far)) := upd_same
    have k4 := k3.trans (But.upd x H3 (.ins C dx (L2.putF "bits" (.ref b2) (shF (.int n) (.str st) (.ref a2) (.ref b) near far))))
    generalize upd H3 x (.ins C dx (L2.putF "bits" (.ref b2) (shF (.int n) (.str st) (.ref a2) (.ref b) near far))) = H4 at hx4 k4 ⊢
    have k04 : But x H H4 := (But.same (s1.trans s2)).trans k4
    have ta4 := ta2.but k4 hx2
    have tb4 := tb2.but k4 hx2
    have ok2 := hs.ok.ask r0 r1
    refine ⟨_, rfl, decide (r ∈ xs), rfl, ite3 (fun e => ?_) (fun e => ?_)⟩
    · refine ⟨_, rfl, x, C, dx, _, .int near, rfl, hx4, SC.cl, SC.near, rfl, near, 1, rfl, rfl, dx, _, hx4, (by show 6 < 1000; decide), ?_⟩
      have k5 := But.upd x H4 (.ins C dx (L2.putF "near" (.int (near + 1)) (shF (.int n) (.str st) (.ref a2) (.ref b2) near far)))
      refine ⟨_, rfl, q _ (k04.trans k5) ⟨⟨dx, a2, b2, ?_, ta4.but k5 hx4, tb4.but k5 hx4⟩, ok2, hs.way⟩⟩
      rw [if_pos e, if_pos e]
      exact upd_same
    · refine ⟨_, rfl, x, C, dx, _, .int far, rfl, hx4, SC.cl, SC.far, rfl, far, 1, rfl, rfl, dx, _, hx4, (by show 6 < 1000; decide), ?_⟩
      have k5 := But.upd x H4 (.ins C dx (L2.putF "far" (.int (far + 1)) (shF (.int n) (.str st) (.ref a2) (.ref b2) near far)))
      refine ⟨_, rfl, q _ (k04.trans k5) ⟨⟨dx, a2, b2, ?_, ta4.but k5 hx4, tb4.but k5 hx4⟩, ok2, hs.way⟩⟩
      rw [if_neg e, if_neg e]
      exact upd_same
theorem okS_twin {C : Addr} (SC : ShC K C) {f : Addr} {fd : FuncData} (F : Fun K "twin" "Shelf.twin" sS_twin f fd) (c_Shelf : MakV P w K mg base 6 C (spInitV C)) : FnOk P w K mg base CX0 8 f fd ["self"] (spTwin C) := by
  refine F.ok scS_twin (fun vs H Q E h => ?_) (fun cdv A outer s H vs Q E hr h => ?_)
  · obtain ⟨x, n, st, xs, bs, near, far, rfl, _⟩ := h
    rfl
  · obtain ⟨x, n, st, xs, bs, near, far, rfl, hs, q⟩ := h
    refine ⟨_, (pss_cons (ps_set (i := 1) scS_twin.nd rfl (Or.inl rfl) (pe_shelfV c_Shelf hr (by decide) (by rfl) (pa_cons (pe_fld (pv 0) (by rfl)) (pa_cons (pe_fld (pv 0) (by rfl)) (pa_cons (pe_fld (pv 0) (by rfl)) (pa_cons (pe_fld (pv 0) (by rfl)) pa_nil))))))
      (pss_cons (ps_fld (pv 1) (pe_fld (pv 0) (by rfl)) (by rfl))
      (pss_cons (ps_fld (pv 1) (pe_fld (pv 0) (by rfl)) (by rfl))
      (pss_one (ps_ret (pv 1)))))), ?_⟩
    obtain ⟨dx, a, b, hx, ta, tb⟩ := hs.ex
    refine ⟨_, rfl, x, C, dx, _, .int n, rfl, hx, SC.cl, SC.many, rfl, _, rfl, x, C, dx, _, .str st, rfl, hx, SC.cl, SC.kept, rfl, _, rfl, x, C, dx, _, .ref a, rfl, hx, SC.cl, SC.slots, rfl, _, rfl, x, C, dx, _, .ref b, rfl, hx, SC.cl, SC.bits, rfl, fun y dy ny ndy ne => ?_⟩
    have ny1 : (upd H dy (.own y)) y = none := by
      rw [upd_ne (Ne.symm ne)]
      exact ny
    have s0 : Same H (upd (upd H dy (.own y)) y (.ins C dy [])) := (same_upd ndy).trans (same_upd ny1)
    have xy : x ≠ y := ne_of_none hx ny
    refine ⟨y, dy, a, b, n, st, xs, bs, rfl, upd_same, ta.same s0, tb.same s0, hs.ok, hs.way, fun H1 k1 hy => ⟨rfl, ?_⟩⟩
    have sy : Same H H1 := fun c o e => k1 c o (s0 _ _ e) (ne_of_none e ny)
    refine ⟨_, rfl, x, C, dx, _, .int near, rfl, sy _ _ hx, SC.cl, SC.near, rfl, _, rfl, y, C, dy, _, rfl, hy, SC.cl, SC.near, (by show 6 < 1000; decide), ?_⟩
    have hy2 : (upd H1 y (.ins C dy (L2.putF "near" (.int near) (shF (.int n) (.str st) (.ref a) (.ref b) 0 0)))) y = some (.ins C dy (shF (.int n) (.str st) (.ref a) (.ref b) near 0)) := upd_same
    have k2 := But.upd y H1 (.ins C dy (L2.putF "near" (.int near) (shF (.int n) (.str st) (.ref a) (.ref b) 0 0)))
    generalize upd H1 y (.ins C dy (L2.putF "near" (.int near) (shF (.int n) (.str st) (.ref a) (.ref b) 0 0))) = H2 at hy2 k2 ⊢
    have sy2 : Same H H2 := fun c o e => k2 c o (sy _ _ e) (ne_of_none e ny)
    refine ⟨_, rfl, x, C, dx, _, .int far, rfl, sy2 _ _ hx, SC.cl, SC.far, rfl, _, rfl, y, C, dy, _, rfl, hy2, SC.cl, SC.far, (by show 6 < 1000; decide), ?_⟩
    have k3 := But.upd y H2 (.ins C dy (L2.putF "far" (.int far) (shF (.int n) (.str st) (.ref a) (.ref b) near 0)))
    have sy3 : Same H (upd H2 y (.ins C dy (L2.putF "far" (.int far) (shF (.int n) (.str st) (.ref a) (.ref b) near 0)))) := fun c o e => k3 c o (sy2 _ _ e) (ne_of_none e ny)
    exact ⟨_, rfl, q y _ sy3 ny ⟨⟨dy, a, b, upd_same, ta.same sy3, tb.same sy3⟩, hs.ok, hs.way⟩⟩
end
end Su
/-! ### NA: runs of webs; shelves along runs, told without a heap -/
namespace Su
open PySem PySem.Spec PyProof.Rows L2
abbrev Stp := Nat × Option Int
def optI : Option Int → V
  | none => .non
  | some i => .int i
def StepAt (H : Hp) (v : V) (s : Stp) : Prop := ∃ t, v = .ref t ∧ PTup H t [.int s.1, optI s.2]
def StepsAt (H : Hp) : List V → List Stp → Prop
  | [], [] => True
  | v :: vs, s :: ss => StepAt H v s ∧ StepsAt H vs ss
  | _, _ => False
def RunAt (H : Hp) (R : Addr) (run : List Stp) : Prop := ∃ vs, H R = some (.lst vs) ∧ StepsAt H vs run
/-- tuples of the kind that is made here stay -/
def KP (H H' : Hp) : Prop := ∀ a xs, PTup H a xs → PTup H' a xs
theorem KP.same {H H' : Hp} (s : Same H H') : KP H H' := fun _ _ h => h.same s
theorem KP.kept {p : Addr} {H H' : Hp} (k : Kept p H H') (hp : PoolAt H p) : KP H H' := fun _ _ h => h.kept k hp
theorem KP.but {x C dx : Addr} {fs : List (Str × V)} {H H' : Hp} (k : But x H H') (e : H x = some (.ins C dx fs)) : KP H H' := fun _ _ h => h.but k e
theorem KP.lst {H : Hp} {L : Addr} {ys : List V} {o : HO} (e : H L = some (.lst ys)) : KP H (upd H L o) := fun a xs h => by
  obtain ⟨ob, eo, ed⟩ := h
  refine ⟨ob, ?_, ed⟩
  rw [upd_ne (fun z => by rw [z, e] at eo; cases eo)]
  exact eo
theorem StepAt.keep {H H' : Hp} (k : KP H H') {v : V} {s : Stp} (h : StepAt H v s) : StepAt H' v s := by
  obtain ⟨t, e, p⟩ := h
  exact ⟨t, e, k _ _ p⟩
theorem StepsAt.keep {H H' : Hp} (k : KP H H') : ∀ {vs : List V} {ss : List Stp}, StepsAt H vs ss → StepsAt H' vs ss
  | [], [], _ => trivial
  | _ :: _, _ :: _, h => ⟨h.1.keep k, StepsAt.keep k h.2⟩
  | [], _ :: _, h => h.elim
  | _ :: _, [], h => h.elim
theorem StepsAt.len {H : Hp} : ∀ {vs : List V} {ss : List Stp}, StepsAt H vs ss → vs.length = ss.length
  | [], [], _ => rfl
  | _ :: _, _ :: _, h => by rw [List.length_cons, List.length_cons, StepsAt.len h.2]
  | [], _ :: _, h => h.elim
  | _ :: _, [], h => h.elim
theorem StepsAt.get {H : Hp} : ∀ {vs : List V} {ss : List Stp}, StepsAt H vs ss → ∀ {i : Nat} {v : V}, vs[i]? = some v → ∃ s, ss[i]? = some s ∧ StepAt H v s
  | [], [], _, _, _, h => by cases h
  | _ :: _, s :: _, h, 0, _, e => ⟨s, rfl, by cases e; exact h.1⟩
  | _ :: _, _ :: _, h, i + 1, _, e => StepsAt.get h.2 (i := i) e
  | [], _ :: _, h, _, _, _ => h.elim
  | _ :: _, [], h, _, _, _ => h.elim
theorem StepsAt.app {H : Hp} : ∀ {vs ws : List V} {ss qs : List Stp}, StepsAt H vs ss → StepsAt H ws qs → StepsAt H (vs ++ ws) (ss ++ qs)
  | [], _, [], _, _, g => g
  | _ :: _, _, _ :: _, _, h, g => ⟨h.1, StepsAt.app h.2 g⟩
  | [], _, _ :: _, _, h, _ => h.elim
  | _ :: _, _, [], _, h, _ => h.elim
theorem StepsAt.take {H : Hp} : ∀ {vs : List V} {ss : List Stp} (k : Nat), StepsAt H vs ss → StepsAt H (vs.take k) (ss.take k)
  | _, _, 0, _ => by rw [List.take_zero, List.take_zero]; trivial
  | [], [], k + 1, _ => trivial
  | _ :: _, _ :: _, k + 1, h => ⟨h.1, StepsAt.take k h.2⟩
  | [], _ :: _, _ + 1, h => h.elim
  | _ :: _, [], _ + 1, h => h.elim
def tosAt (rs : List Rw) (run : List Stp) : Nat → List Int
  | 0 => [0]
  | i + 1 => (rs.getD (run.getD i (0, none)).1 ([], [])).2
/-- a step to one of these rows -/
structure StepOk (rs : List Rw) (tos : List Int) (s : Stp) : Prop where
  at_ : (s.1 : Int) ∈ tos
  row : ∃ r, rs[s.1]? = some r ∧ (match s.2 with
    | none => r.1 = []
    | some k => k ∈ r.1)
def RunOk (rs : List Rw) (run : List Stp) : Prop := ∀ i s, run[i]? = some s → StepOk rs (tosAt rs run i) s
theorem tos_take (rs : List Rw) (run : List Stp) (k i : Nat) (h : i ≤ k) : tosAt rs (run.take k) i = tosAt rs run i := by
  cases i with
  | zero => rfl
  | succ i =>
    show (rs.getD ((run.take k).getD i (0, none)).1 ([], [])).2 = (rs.getD (run.getD i (0, none)).1 ([], [])).2
    have e : (run.take k).getD i (0, none) = run.getD i (0, none) := by
      rw [List.getD_eq_getElem?_getD, List.getD_eq_getElem?_getD, List.getElem?_take, if_pos (by omega)]
    rw [e]
theorem RunOk.take {rs : List Rw} {run : List Stp} (h : RunOk rs run) (k : Nat) : RunOk rs (run.take k) := by
  intro i s e
  rw [List.getElem?_take] at e
  split at e
  · rw [tos_take rs run k i (by omega)]
    exact h i s e
  · cases e
theorem RunOk.snoc {rs : List Rw} {run : List Stp} {s : Stp} (h : RunOk rs run) (g : StepOk rs (tosAt rs run run.length) s) : RunOk rs (run ++ [s]) := by
  have tt : ∀ i, i ≤ run.length → tosAt rs (run ++ [s]) i = tosAt rs run i := by
    intro i hi
    have := tos_take rs (run ++ [s]) run.length i hi
    rw [List.take_left' rfl] at this
    exact this.symm
  intro i t e
  by_cases hi : i < run.length
  · rw [List.getElem?_append_left hi] at e
    rw [tt i (by omega)]
    exact h i t e
  · rw [List.getElem?_append_right (by omega)] at e
    obtain rfl : i = run.length := by
      by_cases z : i - run.length = 0
      · omega
      · obtain ⟨m, hm⟩ : ∃ m, i - run.length = m + 1 := ⟨i - run.length - 1, by omega⟩
        rw [hm] at e
        cases e
    rw [Nat.sub_self] at e
    cases e
    rw [tt _ (Nat.le_refl _)]
    exact g
def optB : Option Bool → V
  | none => .non
  | some b => .bl b
/-- the lay behind a step -/
def stepF (st : Str) (l : List Int × List Int) (s : Stp) : List Int × List Int := match s.2 with
  | none => l
  | some k => askF st l.1 l.2 k
def ansF (l : List Int × List Int) (s : Stp) : Option Bool := match s.2 with
  | none => none
  | some k => some (decide (k ∈ l.1))
def layF (st : Str) : List Int × List Int → List Stp → List Int × List Int
  | l, [] => l
  | l, s :: ss => layF st (stepF st l s) ss
def alongF (st : Str) : List Int × List Int → List Stp → List (Option Bool)
  | _, [] => []
  | l, s :: ss => ansF l s :: alongF st (stepF st l s) ss
theorem layF_snoc (st : Str) : ∀ (l : List Int × List Int) (ss : List Stp) (s : Stp), layF st l (ss ++ [s]) = stepF st (layF st l ss) s
  | _, [], _ => rfl
  | l, t :: ss, s => layF_snoc st (stepF st l t) ss s
theorem alongF_snoc (st : Str) : ∀ (l : List Int × List Int) (ss : List Stp) (s : Stp), alongF st l (ss ++ [s]) = alongF st l ss ++ [ansF (layF st l ss) s]
  | _, [], _ => rfl
  | l, t :: ss, s => by
    show ansF l t :: alongF st (stepF st l t) (ss ++ [s]) = ansF l t :: (alongF st (stepF st l t) ss ++ [ansF (layF st (stepF st l t) ss) s])
    rw [alongF_snoc st (stepF st l t) ss s]
theorem alongF_take (st : Str) : ∀ (l : List Int × List Int) (ss : List Stp) (k : Nat), alongF st l (ss.take k) = (alongF st l ss).take k
  | _, _, 0 => by rw [List.take_zero, List.take_zero]; rfl
  | _, [], k + 1 => rfl
  | l, s :: ss, k + 1 => by
    show ansF l s :: alongF st (stepF st l s) (ss.take k) = ansF l s :: (alongF st (stepF st l s) ss).take k
    rw [alongF_take st (stepF st l s) ss k]
theorem alongF_len (st : Str) : ∀ (l : List Int × List Int) (ss : List Stp), (alongF st l ss).length = ss.length
  | _, [] => rfl
  | l, s :: ss => by rw [List.length_cons, ← alongF_len st (stepF st l s) ss]; rfl
theorem LayOk.step {st : Str} {n : Nat} {l : List Int × List Int} {s : Stp} (h : LayOk st n l.1 l.2) (hs : ∀ k, s.2 = some k → 0 ≤ k ∧ k < 100) : LayOk st n (stepF st l s).1 (stepF st l s).2 := by
  unfold stepF
  split
  · exact h
  · rename_i k e
    have := hs k e
    exact h.ask this.1 this.2
theorem take_snoc {ss : List Stp} {i : Nat} {s : Stp} (h : ss[i]? = some s) : ss.take (i + 1) = ss.take i ++ [s] := by
  rw [List.take_add_one, h]
  rfl
theorem RunOk.rng {rs : List Rw} {run : List Stp} (h : RunOk rs run) (ok : WebOk rs) {i : Nat} {s : Stp} (e : run[i]? = some s) : ∀ k, s.2 = some k → 0 ≤ k ∧ k < 100 := by
  intro k ek
  obtain ⟨r, er, hr⟩ := (h i s e).row
  have rok := ok.row r (List.mem_of_getElem? er)
  rw [ek] at hr
  have h1 := rok.rooms.lo k hr
  have h2 := rok.rooms.hi k hr
  omega
end Su
/-! ### N4: size and way of a shelf, and its own == (k05) -/
namespace Su
open PySem PySem.Spec PyProof.Rows L2
def spFld (C : Addr) (fl : Str) : Sp := fun vs H Q E => ∃ (x dx : Addr) (fs : List (Str × V)) (v : V), vs = [.ref x] ∧ H x = some (.ins C dx fs) ∧ fs.lookup fl = some v ∧ Q v H
/-- two shelves alike -/
def alikeF (n m : Nat) (st su : Str) (xs ys bs cs : List Int) : Bool := decide (n = m) && (decide (st = su) && (decide (xs = ys) && decide (bs = cs)))
def spEqS (C : Addr) : Sp := fun vs H Q _ => ∃ (x : Addr) (y : V) (n : Nat) (st : Str) (xs bs : List Int) (near far : Int), vs = [.ref x, y] ∧ ShV C H x n st xs bs near far ∧
  ((∃ (z : Addr) (m : Nat) (su : Str) (ys cs : List Int) (nr fr : Int), y = .ref z ∧ ShV C H z m su ys cs nr fr ∧ Q (.bl (alikeF n m st su xs ys bs cs)) H) ∨ (OddT H y ∧ Q (.bl false) H))
/-- what the row tells of isinstance(x, Shelf) -/
structure IsS (K : PySem.W.Frag) (mg : Str → Option Value) (C : Addr) : Prop where
  gl : mg "Shelf" = some (.ref C)
  ha : PySem.W.findIn K (.ref C) "__class__" = some (some (.builtin "object.__class__"))
  hn : PySem.W.specialIn K (.builtin "object.__class__") "__get__" = some (some (.builtin "getset_descriptor.__get__"))
  htk : PySem.W.takesIn K (.builtin "object.__class__") = some true
  hm : PySem.W.mroIn K C (.type "object") = some true
  own : PySem.W.kitOne K (.ref C) (.ref C) = some true
  no : PySem.W.kitOne K (.type "NoneType") (.ref C) = some false ∧ PySem.W.kitOne K (.type "int") (.ref C) = some false ∧ PySem.W.kitOne K (.type "bool") (.ref C) = some false ∧ PySem.W.kitOne K (.type "str") (.ref C) = some false ∧ PySem.W.kitOne K (.type "tuple") (.ref C) = some false ∧ PySem.W.kitOne K (.type "list") (.ref C) = some false ∧ PySem.W.kitOne K (.type "dict") (.ref C) = some false
theorem IsS.kit {K : PySem.W.Frag} {mg : Str → Option Value} {C : Addr} (M : IsS K mg C) {T : String} (h : isT T) : PySem.W.kitOne K (.type T) (.ref C) = some false := by
  obtain ⟨n1, n2, n3, n4, n5, n6, n7⟩ := M.no
  rcases h with rfl | rfl | rfl | rfl | rfl | rfl | rfl <;> assumption
theorem ints_shaped (k : Bool) (ns : List Int) : SeqAt.shaped (.tuple (ns.map PyData.int)) = true := by
  have e : ∀ l : List Int, PyData.canLayAll0 (l.map PyData.int) = true ∧ PyData.depthAll (l.map PyData.int) = 0 := by
    intro l
    induction l with
    | nil => exact ⟨by first | rfl | simp [PyData.canLayAll0], by simp [PyData.depthAll]⟩
    | cons x l ih =>
      refine ⟨?_, ?_⟩
      · rw [List.map_cons]
        simp only [PyData.canLayAll0, ih.1, Bool.and_true]
        first | rfl | simp [PyData.canLay0]
      · rw [List.map_cons]
        simp only [PyData.depthAll, ih.2, PyData.depth]
        rfl
  unfold SeqAt.shaped
  have h1 := e ns
  simp only [PyData.canLay0, PyData.depth, h1.1, h1.2, Bool.true_and]
  decide
theorem scS_size : FnScope ["self"] ["self"] (defScope sS_size) := ⟨rfl, rfl, rfl, by decide +kernel, rfl, by decide +kernel, by decide +kernel⟩
theorem scS_way : FnScope ["self"] ["self"] (defScope sS_way) := ⟨rfl, rfl, rfl, by decide +kernel, rfl, by decide +kernel, by decide +kernel⟩
theorem scS_eq : FnScope ["self", "other"] ["self", "other"] (defScope sS_eq) := ⟨rfl, rfl, rfl, by decide +kernel, rfl, by decide +kernel, by decide +kernel⟩
section
variable {P : Program} {w : World} {K : PySem.W.Frag} {mg : Str → Option Value} {base : Heap}
theorem okS_size {C : Addr} (SC : ShC K C) {f : Addr} {fd : FuncData} (F : Fun K "size" "Shelf.size" sS_size f fd) : FnOk P w K mg base CX0 1 f fd ["self"] (spFld C "many") := by
  refine F.ok scS_size (fun vs H Q E h => ?_) (fun cdv A outer s H vs Q E hr h => ?_)
  · obtain ⟨x, dx, fs, v, rfl, _⟩ := h
    rfl
  · obtain ⟨x, dx, fs, v, rfl, hx, hl, q⟩ := h
    refine ⟨_, (pss_one (ps_ret (pe_fld (pv 0) (by rfl)))), ?_⟩
    exact ⟨_, rfl, x, C, dx, fs, v, rfl, hx, SC.cl, SC.many, hl, q⟩
theorem okS_way {C : Addr} (SC : ShC K C) {f : Addr} {fd : FuncData} (F : Fun K "way" "Shelf.way" sS_way f fd) : FnOk P w K mg base CX0 1 f fd ["self"] (spFld C "kept_by") := by
  refine F.ok scS_way (fun vs H Q E h => ?_) (fun cdv A outer s H vs Q E hr h => ?_)
  · obtain ⟨x, dx, fs, v, rfl, _⟩ := h
    rfl
  · obtain ⟨x, dx, fs, v, rfl, hx, hl, q⟩ := h
    refine ⟨_, (pss_one (ps_ret (pe_fld (pv 0) (by rfl)))), ?_⟩
    exact ⟨_, rfl, x, C, dx, fs, v, rfl, hx, SC.cl, SC.kept, hl, q⟩
theorem okS_eq {C : Addr} (SC : ShC K C) (IS : IsS K mg C) (B : Bt mg) {f : Addr} {fd : FuncData} (F : Fun K "__eq__" "Shelf.__eq__" sS_eq f fd) : FnOk P w K mg base CX0 1 f fd ["self", "other"] (spEqS C) := by
  refine F.ok scS_eq (fun vs H Q E h => ?_) (fun cdv A outer s H vs Q E hr h => ?_)
  · obtain ⟨x, y, n, st, xs, bs, near, far, rfl, _⟩ := h
    rfl
  · obtain ⟨x, y, n, st, xs, bs, near, far, rfl, hs, hy⟩ := h
    refine ⟨_, (pss_one (ps_ret (pe_and (pe_callB call_isi (by rfl) B.isinstance (by decide +kernel) (pa_cons (pv 1) (pa_cons (pe_glob (v := .ref C) (by rfl) IS.gl rfl) pa_nil))) (pe_and (pe_cmpR op_eq (pe_fld (pv 0) (by rfl)) (pe_fld (pv 1) (by rfl)) (nomark _)) (pe_and (pe_cmpR op_eq (pe_fld (pv 0) (by rfl)) (pe_fld (pv 1) (by rfl)) (nomark _)) (pe_and (pe_cmpR (op_eqD hr.units) (pe_fld (pv 0) (by rfl)) (pe_fld (pv 1) (by rfl)) (nomark _)) (pe_one (pe_cmpR (op_eqD hr.units) (pe_fld (pv 0) (by rfl)) (pe_fld (pv 1) (by rfl)) (nomark _))))))))), ?_⟩
    obtain ⟨dx, a, b, hx, ta, tb⟩ := hs.ex
    rcases hy with ⟨z, m, su, ys, cs, nr, fr, rfl, hz, q⟩ | ⟨od, q⟩
    · obtain ⟨dz, c, d, hz2, tc, td⟩ := hz.ex
      refine ⟨_, rfl, _, _, _, _, _, rfl, .own C, .base (.ins hz2 SC.cl IS.ha IS.hn IS.htk IS.hm), IS.own, _, rfl, iteT ?_⟩
      refine ⟨_, rfl, x, C, dx, _, .int n, rfl, hx, SC.cl, SC.many, rfl, _, rfl, z, C, dz, _, .int m, rfl, hz2, SC.cl, SC.many, rfl, ?_⟩
      have kv : ∀ b, alikeF n m st su xs ys bs cs = b → Q (.bl b) H := fun b e => e ▸ q
      refine ⟨rfl, _, rfl, iteB (fun e1 => ?_) (fun e1 => ?_)⟩
      rotate_left
      · refine kv false ?_
        have : n ≠ m := fun z => by
          rw [z] at e1
          simp at e1
        unfold alikeF
        rw [decide_eq_false this]
        rfl
      have h1 : n = m := by
        have := V.int.inj (of_decide_eq_true e1)
        omega
      refine ⟨_, rfl, x, C, dx, _, .str st, rfl, hx, SC.cl, SC.kept, rfl, _, rfl, z, C, dz, _, .str su, rfl, hz2, SC.cl, SC.kept, rfl, rfl, _, rfl, iteB (fun e2 => ?_) (fun e2 => ?_)⟩
      rotate_left
      · refine kv false ?_
        have : st ≠ su := fun z => by
          rw [z] at e2
          simp at e2
        unfold alikeF
        rw [decide_eq_false this, Bool.false_and, Bool.and_false]
      have h2 : st = su := V.str.inj (of_decide_eq_true e2)
      refine ⟨_, rfl, x, C, dx, _, .ref a, rfl, hx, SC.cl, SC.slots, rfl, _, rfl, z, C, dz, _, .ref c, rfl, hz2, SC.cl, SC.slots, rfl, .tuple (xs.map .int), .tuple (ys.map .int), .tup ta.sq (dp_ints xs), .tup tc.sq (dp_ints ys), ints_shaped true xs, ints_shaped true ys, _, rfl, iteB (fun e3 => ?_) (fun e3 => ?_)⟩
      rotate_left
      · refine kv false ?_
        rw [PyData.eqv, eqv_ints] at e3
        unfold alikeF
        rw [e3, Bool.false_and, Bool.and_false, Bool.and_false]
      rw [PyData.eqv, eqv_ints] at e3
      refine ⟨_, rfl, x, C, dx, _, .ref b, rfl, hx, SC.cl, SC.bits, rfl, _, rfl, z, C, dz, _, .ref d, rfl, hz2, SC.cl, SC.bits, rfl, .tuple (bs.map .int), .tuple (cs.map .int), .tup tb.sq (dp_ints bs), .tup td.sq (dp_ints cs), ints_shaped true bs, ints_shaped true cs, ?_⟩
      refine kv _ ?_
      unfold alikeF
      rw [decide_eq_true h1, decide_eq_true h2, e3, PyData.eqv, eqv_ints]
      rfl
    · obtain ⟨T, hT, ty⟩ := od.ty (K := K)
      exact ⟨_, rfl, _, _, _, _, _, rfl, .own C, ty, IS.kit hT, _, rfl, iteF q⟩
end
end Su
/-! ### MX: methods that may raise, defs that write things out, f-strings with tuples -/
namespace Su
open PySem PySem.Spec PyProof.Rows L2
structure MetX (P : Program) (w : World) (K : PySem.W.Frag) (mg : Str → Option Value) (base : Heap) (k : Nat) (C : Addr) (m : Str) (ps : List Str) (sp : Sp) : Prop where
  ex : ∃ (f : Addr) (fd : FuncData), Cls K C ∧ Meth K C m f ∧ FnOk P w K mg base (L2.CX P w) k f fd ps sp ∧ Binds K fd ps []
/-- a def that is asked only where nothing is being written out -/
structure CalG (P : Program) (w : World) (K : PySem.W.Frag) (mg : Str → Option Value) (base : Heap) (k : Nat) (x : Str) (ps : List Str) (sp : Sp) : Prop where
  ex : ∃ (f : Addr) (fd : FuncData), FnG P w K mg base CX0 k f fd ps sp ∧ mg x = some (.ref f) ∧ PySem.W.keepIn K (.ref f) = true ∧ Binds K fd ps []
def tMethX (C : Addr) (m : Str) (sp : Sp) (E : L2.St → XK) (ta : TE) (t : TA) : TE := fun σ H Q => ta σ H fun x H1 => ∃ a dx fs, x = .ref a ∧ H1 a = some (.ins C dx fs) ∧ fs.lookup m = none ∧ t σ H1 fun vs H2 => sp (x :: vs) H2 Q (E σ)
section
variable {X : Cx} {k j : Nat} {C : Addr} {m x : Str} {ps : List Str} {sp : Sp} {o e : Expr} {es : List Expr} {ta te : TE} {t : TA} {apos pos p : Pos} {W : WX}
theorem pe_mtX {pl : Sem Bool} (tk : Takes X W) (c : MetX X.prog X.w X.K X.mg X.base k C m ps sp) (hr : Room j X.A) (hk : k ≤ j) (he : PE X o ta) (ha : PA X (e :: es) t)
    (hst : starEach (e :: es) X.env = (false, eval e X.env) :: starEach es X.env := by rfl) (hpl : (backTo pos (starEach es X.env)).any (·.1) = false := by rfl)
    (ht : eval (.Call (.Attribute o m apos) (e :: es) [] pos) X.env = (do
      let ov ← eval o X.env
      standAt apos.atName
      let (f, first) ← holding [ov] (getMethod ov m pl)
      callWith pos f first (backTo pos (starEach (e :: es) X.env)) (backToKw pos (keywordEach [] X.env))) := by rfl) :
    PE X (.Call (.Attribute o m apos) (e :: es) [] pos) (tMethX C m sp (WE W) ta t) := by
  obtain ⟨f, fd, c, hm, F, hb⟩ := c.ex
  refine ⟨fun pins s σ H Q I h => ?_⟩
  refine PySem.W.methodCall_KW (pl := pl) (thn (he.run pins s σ H _ I h) fun u s1 ⟨x, H1, I1, rx, a, dx, fs, ex, ea, l, q⟩ => ?_) ht
  subst ex
  obtain rfl : u = Value.ref a := rx
  refine getmeth_ok I1 ea c hm l ?_
  refine PySem.W.callWith_K (first := [.ref a]) (h₀ := X.base) I.ok.mod.kin hm.kp (thn (ha.run pos pins s1 σ H1 _ I1 q) fun us s2 ⟨vs, H2, I2, r, q2⟩ => ⟨I2.kIn, ?_⟩) hst hpl
  exact run_fnS (us := .ref a :: us) (vs := .ref a :: vs) F (hr.mono hk) hb (passAt tk σ) I2 (.cons rfl r) q2
theorem pe_ownG (C : CalG X.prog X.w X.K X.mg X.base k x ps sp) (hgd : X.A.guards = some []) (hr : Room j X.A) (hk : k ≤ j) (hg : Gl X x) (ha : PA X (e :: es) t)
    (hdb : (x == ("__debug__" : Str)) = false := by decide) (he : starEach (e :: es) X.env = (false, eval e X.env) :: starEach es X.env := by rfl) (hpl : (backTo pos (starEach es X.env)).any (·.1) = false := by rfl) :
    PE X (.Call (.Name x p) (e :: es) [] pos) (tCall sp [] E0 t) := by
  obtain ⟨f, fd, F, hm, kp, b⟩ := C.ex
  refine ⟨fun pins s σ H Q I h => ?_⟩
  refine wpAny_Call_Name_kw (ld_glob I hg hm ?_ hdb)
  refine PySem.W.callWith_K (h₀ := X.base) I.ok.mod.kin kp (thn (ha.run pos pins s σ H _ I h) fun us s1 ⟨vs, H1, I1, r, q⟩ => ⟨I1.kIn, ?_⟩) he hpl
  have q2 : sp (vs ++ []) H1 Q E0 := q
  rw [List.append_nil] at q2
  exact run_fnG ⟨hr.mono hk, rfl⟩ hgd F b I1 r q2
/-- {x!r} of lists and tuples -/
def tFmtRD (K : PySem.W.Frag) (te : TE) : TE := fun σ H Q => te σ H fun x H1 => ∃ (a : Addr) (d : PyData) (n m : Nat), x = .ref a ∧ Dp K H1 (.ref a) d ∧ Fine d n m ∧ n ≤ 60 ∧ m ≤ 1000000 ∧ Q (.str d.shown) H1
theorem pe_fmtRD (hgd : X.A.guards = some []) (hu : X.A.units + 64 < cLine) (he : PE X e te) : PE X (.FormattedValue e 114 none pos) (tFmtRD X.K te) := by
  refine ⟨fun pins s σ H Q I h => ?_⟩
  refine wpAny_FormattedValue_repr (thn (he.run pins s σ H _ I h) fun v s1 hv => ?_)
  obtain ⟨x, H1, I1, r1, a, d, n, m, rfl, hd, f, hn, hm, q⟩ := hv
  obtain ⟨as, rd⟩ := Dp.reads I1 d _ _ hd r1
  cases r1
  have hz := f.len hm
  refine pyReprObj_of_reads rd f.sh (fun z => by rw [f.nd] at z; cases z) hgd (by have := f.dp; omega) (fun _ _ z => z) (fun h' u tk hk => ?_) hz
  exact wpAny_formatField_str ⟨.str _, H1, I1.kept hk, ⟨_, rfl⟩, q⟩ ⟨.str _, H1, I1.kept hk, ⟨_, rfl⟩, q⟩ hz
end
section
variable {X : Cx}
def rStr1 : List V → Hp → VK → Prop := fun xs H Q => ∃ i : Int, xs = [.int i] ∧ i.natAbs.log2 < 1920 ∧ Q (.str (toString i)) H
theorem call_str1 : CallR X (.type "str") rStr1 := call_str_int
end
section
variable {P : Program} {w : World} {K : PySem.W.Frag} {mg : Str → Option Value} {base : Heap}
theorem cal_ofG {x : Str} {st : Stmt} {N ps : List Str} {k : Nat} {sp : Sp} (T : At K mg x st ps) (S : FnScope N ps (defScope st)) (len : ∀ vs H Q E, sp vs H Q E → vs.length = ps.length)
    (hb : ∀ (f : Addr) (cdv : Value) (A : Around) (outer : List Env) (s : Shared) (H : Hp) (vs : List V) (Q : VK) (E : XK), (A.deeper (envOfC x (defScope st) s.heap.objs.size f cdv)).guards = some [] → Room k (A.deeper (envOfC x (defScope st) s.heap.objs.size f cdv)) → sp vs H Q E →
      ∃ t, PSs (cxOf CX0 P w K mg base N x (defScope st) f cdv A outer s H E).nox (defBody st) t ∧ t { nx := fun _ H' => Q .non H', rt := Q } (start N vs) H) : CalG P w K mg base (k + 1) x ps sp := by
  obtain ⟨f, fd, F, hm, b⟩ := T.ex
  exact ⟨f, fd, fnG_fun F S len (fun cdv A outer s H vs Q E hg hr h => hb f cdv A outer s H vs Q E hg hr h), hm, F.kp, b⟩
end
end Su
/-! ### K1: walks made; where they stand, their shelf, counts, run, len -/
namespace Su
open PySem PySem.Spec PyProof.Rows L2
structure WkC (K : PySem.W.Frag) (W : Addr) : Prop where
  cl : Cls K W
  rows : NoAttr K W "rows"
  place : NoAttr K W "place"
  kept : NoAttr K W "kept"
  ahead : NoAttr K W "counts_ahead"
  past : NoAttr K W "past"
/-- the fields of a walk -/
def wkF (vr vp vk va vl : V) : List (Str × V) := [("rows", vr), ("place", vp), ("kept", vk), ("counts_ahead", va), ("past", vl)]
def spInitW (C W : Addr) : Sp := fun vs H Q _ => ∃ (x dx wb sh : Addr) (rs : List Rw) (n : Nat) (st : Str) (xs bs : List Int) (near far : Int), vs = [.ref x, .ref wb, .ref sh] ∧ H x = some (.ins W dx []) ∧ WebAt H wb rs ∧ WebOk rs ∧ ShV C H sh n st xs bs near far ∧
  ∀ (H' : Hp) (r k a l : Addr), But x H H' → H r = none → H l = none → H k = none → r ≠ l → H' x = some (.ins W dx (wkF (.ref r) (.int 0) (.ref k) (.ref a) (.ref l))) → WebAt H' r rs → ShV C H' k n st xs bs near far → PTup H' a [.int near, .int far] → H' l = some (.lst []) → Q .non H'
theorem none_back {H H' : Hp} {a : Addr} (s : Same H H') (h : H' a = none) : H a = none := by
  cases e : H a with
  | none => rfl
  | some o =>
    rw [s _ _ e] at h
    cases h
theorem none_but {x : Addr} {H H' : Hp} {a : Addr} (s : But x H H') (h : H' a = none) (n : a ≠ x) : H a = none := by
  cases e : H a with
  | none => rfl
  | some o =>
    rw [s _ _ e n] at h
    cases h
theorem WebAt.keep {H H' : Hp} {p : Addr} {rs : List Rw} {ws : List V} (k : K2 H H') (h : RowsAt H ws rs) (e : H' p = some (.lst ws)) : WebAt H' p rs := ⟨ws, e, h.keep k⟩
theorem K2.but {x C dx : Addr} {fs : List (Str × V)} {H H' : Hp} (k : But x H H') (e : H x = some (.ins C dx fs)) : K2 H H' := by
  rintro b xs (⟨ob, h, d⟩ | h)
  · exact .inl ⟨ob, k _ _ h (fun z => by rw [z, e] at h; cases h), d⟩
  · exact .inr (k _ _ h (fun z => by rw [z, e] at h; cases h))
theorem scW_init : FnScope ["self", "web", "shelf"] ["self", "web", "shelf"] (defScope sW_init) := ⟨rfl, rfl, rfl, by decide +kernel, rfl, by decide +kernel, by decide +kernel⟩
theorem scW_at : FnScope ["self"] ["self"] (defScope sW_at) := ⟨rfl, rfl, rfl, by decide +kernel, rfl, by decide +kernel, by decide +kernel⟩
theorem scW_counts : FnScope ["self", "near", "far"] ["self"] (defScope sW_counts) := ⟨rfl, rfl, rfl, by decide +kernel, rfl, by decide +kernel, by decide +kernel⟩
theorem scW_shelf : FnScope ["self"] ["self"] (defScope sW_shelf) := ⟨rfl, rfl, rfl, by decide +kernel, rfl, by decide +kernel, by decide +kernel⟩
theorem scW_run : FnScope ["self", "row", "room", "shelf"] ["self"] (defScope sW_run) := ⟨rfl, rfl, rfl, by decide +kernel, rfl, by decide +kernel, by decide +kernel⟩
theorem scW_len : FnScope ["self"] ["self"] (defScope sW_len) := ⟨rfl, rfl, rfl, by decide +kernel, rfl, by decide +kernel, by decide +kernel⟩
section
variable {P : Program} {w : World} {K : PySem.W.Frag} {mg : Str → Option Value} {base : Heap}
theorem okW_init {C W : Addr} (SC : ShC K C) (IS : IsS K mg C) (WC : WkC K W) (B : Bt mg) {f : Addr} {fd : FuncData} (F : Fun K "__init__" "Walk.__init__" sW_init f fd)
    (c_look_at_web : Cal P w K mg base 5 "look_at_web" ["thing"] spLook) (m_twin : MetS P w K mg base 8 C "twin" (spTwin C)) (m_counts : MetS P w K mg base 1 C "counts" (spTwo C "near" "far")) : FnOk P w K mg base CX0 9 f fd ["self", "web", "shelf"] (spInitW C W) := by
  refine F.ok scW_init (fun vs H Q E h => ?_) (fun cdv A outer s H vs Q E hr h => ?_)
  · obtain ⟨x, dx, wb, sh, rs, n, st, xs, bs, near, far, rfl, _⟩ := h
    rfl
  · obtain ⟨x, dx, wb, sh, rs, n, st, xs, bs, near, far, rfl, hx, hW, ok, hs, q⟩ := h
    refine ⟨_, (pss_cons (ps_expr (pe_own c_look_at_web hr (by decide) (by rfl) (pa_cons (pv 1) pa_nil)))
      (pss_cons (ps_if (pt_not (pt_val (pe_callB call_isi (by rfl) B.isinstance (by decide +kernel) (pa_cons (pv 2) (pa_cons (pe_glob (v := .ref C) (by rfl) IS.gl rfl) pa_nil))))) (pss_one ps_never) pss_nil)
      (pss_cons (ps_fld (pv 0) (pe_callTy call_list_of (by rfl) B.list (by decide +kernel) (pa_cons (pv 1) pa_nil)) (by rfl))
      (pss_cons (ps_fld (pv 0) pe_int (by rfl))
      (pss_cons (ps_fld (pv 0) (pe_mtS m_twin hr (by decide) (pv 2)) (by rfl))
      (pss_cons (ps_fld (pv 0) (pe_mtS m_counts hr (by decide) (pv 2)) (by rfl))
      (pss_one (ps_fld (pv 0) (pe_lst pa_nil) (by rfl))))))))), ?_⟩
    refine ⟨_, rfl, wb, rs, rfl, hW, ok, fun H1 s1 => ?_⟩
    obtain ⟨ds, sa, sb, hsx, _⟩ := (hs.same s1).ex
    refine ⟨_, rfl, _, _, _, _, _, rfl, .own C, .base (.ins hsx SC.cl IS.ha IS.hn IS.htk IS.hm), IS.own, _, rfl, iteF ?_⟩
    obtain ⟨ws, hwl, hwr⟩ := hW.same s1
    refine ⟨_, rfl, wb, ws, rfl, .inl (SqL.of hwl), fun r nr => ?_⟩
    have hx1 := s1 _ _ hx
    have xr : x ≠ r := ne_of_none hx1 nr
    refine ⟨_, rfl, x, W, dx, [], rfl, (by rw [upd_ne xr]; exact hx1), WC.cl, WC.rows, (by decide), ?_⟩
    have xs_ : sh ≠ x := fun z => by
      obtain ⟨d2, _, _, h2, _⟩ := hs.ex
      rw [z, hx] at h2
      injection h2 with h2
      injection h2 with _ _ h2
      cases h2
    have nr0 : H r = none := none_back s1 nr
    have b2 : But x H (upd (upd H1 r (.lst ws)) x (.ins W dx (L2.putF "rows" (.ref r) []))) := (But.same (s1.trans (same_upd nr))).trans (But.upd x _ _)
    have hr2 : (upd (upd H1 r (.lst ws)) x (.ins W dx (L2.putF "rows" (.ref r) []))) r = some (.lst ws) := by
      rw [upd_ne xr.symm]
      exact upd_same
    have hx2 : (upd (upd H1 r (.lst ws)) x (.ins W dx (L2.putF "rows" (.ref r) []))) x = some (.ins W dx [("rows", .ref r)]) := upd_same
    have k2 : K2 H1 (upd (upd H1 r (.lst ws)) x (.ins W dx (L2.putF "rows" (.ref r) []))) := (K2.same (same_upd nr)).trans (K2.but (x := x) (But.upd x _ _) (by rw [upd_ne xr]; exact hx1))
    have hwr2 := hwr.keep k2
    generalize upd (upd H1 r (.lst ws)) x (.ins W dx (L2.putF "rows" (.ref r) [])) = H2 at b2 hr2 hx2 hwr2 ⊢
    refine ⟨_, rfl, x, W, dx, _, rfl, hx2, WC.cl, WC.place, (by show 1 < 1000; decide), ?_⟩
    have b3 : But x H2 (upd H2 x (.ins W dx (L2.putF "place" (.int 0) [("rows", .ref r)]))) := But.upd x _ _
    have hx3 : (upd H2 x (.ins W dx (L2.putF "place" (.int 0) [("rows", .ref r)]))) x = some (.ins W dx [("rows", .ref r), ("place", .int 0)]) := upd_same
    generalize upd H2 x (.ins W dx (L2.putF "place" (.int 0) [("rows", .ref r)])) = H3 at b3 hx3 ⊢
    have hs3 := hs.but (b2.trans b3) hx xs_
    obtain ⟨d3, s3a, s3b, hs3x, _⟩ := hs3.ex
    refine ⟨_, rfl, sh, d3, _, rfl, hs3x, rfl, sh, n, st, xs, bs, near, far, rfl, hs3, fun y H4 s4 ny hy => ?_⟩
    have xy : x ≠ y := ne_of_none hx3 ny
    refine ⟨_, rfl, x, W, dx, _, rfl, s4 _ _ hx3, WC.cl, WC.kept, (by show 2 < 1000; decide), ?_⟩
    have hx4 : (upd H4 x (.ins W dx (L2.putF "kept" (.ref y) [("rows", .ref r), ("place", .int 0)]))) x = some (.ins W dx [("rows", .ref r), ("place", .int 0), ("kept", .ref y)]) := upd_same
    have b4 : But x H3 (upd H4 x (.ins W dx (L2.putF "kept" (.ref y) [("rows", .ref r), ("place", .int 0)]))) := (But.same s4).trans (But.upd x _ _)
    have hy4 : ShV C (upd H4 x (.ins W dx (L2.putF "kept" (.ref y) [("rows", .ref r), ("place", .int 0)]))) y n st xs bs near far := hy.but (But.upd x _ _) (s4 _ _ hx3) xy.symm
    have k4 : K2 H3 (upd H4 x (.ins W dx (L2.putF "kept" (.ref y) [("rows", .ref r), ("place", .int 0)]))) := K2.but b4 hx3
    generalize upd H4 x (.ins W dx (L2.putF "kept" (.ref y) [("rows", .ref r), ("place", .int 0)])) = H5 at hx4 b4 hy4 k4 ⊢
    have hs5 := hs3.but b4 hx3 xs_
    obtain ⟨d5, s5a, s5b, hs5x, _⟩ := hs5.ex
    refine ⟨_, rfl, sh, d5, _, rfl, hs5x, rfl, sh, d5, _, .int near, .int far, rfl, hs5x, rfl, rfl, fun t H6 s6 nt pt => ?_⟩
    refine ⟨_, rfl, x, W, dx, _, rfl, s6 _ _ hx4, WC.cl, WC.ahead, (by show 3 < 1000; decide), ?_⟩
    have hx7 : (upd H6 x (.ins W dx (L2.putF "counts_ahead" (.ref t) [("rows", .ref r), ("place", .int 0), ("kept", .ref y)]))) x = some (.ins W dx [("rows", .ref r), ("place", .int 0), ("kept", .ref y), ("counts_ahead", .ref t)]) := upd_same
    have b7 : But x H5 (upd H6 x (.ins W dx (L2.putF "counts_ahead" (.ref t) [("rows", .ref r), ("place", .int 0), ("kept", .ref y)]))) := (But.same s6).trans (But.upd x _ _)
    have pt7 : PTup (upd H6 x (.ins W dx (L2.putF "counts_ahead" (.ref t) [("rows", .ref r), ("place", .int 0), ("kept", .ref y)]))) t [.int near, .int far] := pt.but (But.upd x _ _) (s6 _ _ hx4)
    generalize upd H6 x (.ins W dx (L2.putF "counts_ahead" (.ref t) [("rows", .ref r), ("place", .int 0), ("kept", .ref y)])) = H7 at hx7 b7 pt7 ⊢
    refine ⟨(by show 0 ≤ sizeLine; decide), fun l nl => ?_⟩
    have xl : x ≠ l := ne_of_none hx7 nl
    have b27 : But x H2 H7 := b3.trans (b4.trans b7)
    have hr7 : H7 r = some (.lst ws) := b27 _ _ hr2 xr.symm
    have rl : r ≠ l := ne_of_none hr7 nl
    have nl0 : H l = none := none_but (b2.trans b27) nl xl.symm
    refine ⟨_, rfl, x, W, dx, _, rfl, (by rw [upd_ne xl]; exact hx7), WC.cl, WC.past, (by show 4 < 1000; decide), ?_⟩
    have b8 : But x H7 (upd (upd H7 l (.lst [])) x (.ins W dx (L2.putF "past" (.ref l) [("rows", .ref r), ("place", .int 0), ("kept", .ref y), ("counts_ahead", .ref t)]))) := (But.same (same_upd nl)).trans (But.upd x _ _)
    have b28 := b27.trans b8
    have yx : y ≠ x := xy.symm
    refine q _ r y t l (b2.trans b28) nr0 nl0 (none_but (b2.trans b3) ny xy.symm) rl upd_same ⟨ws, b28 _ _ hr2 xr.symm, hwr2.keep (K2.but b28 hx2)⟩ (hy4.but (b7.trans b8) hx4 yx) (pt7.but b8 hx7) ?_
    rw [upd_ne xl.symm]
    exact upd_same
theorem okW_at {W : Addr} (WC : WkC K W) {f : Addr} {fd : FuncData} (F : Fun K "at" "Walk.at" sW_at f fd) : FnOk P w K mg base CX0 1 f fd ["self"] (spFld W "place") := by
  refine F.ok scW_at (fun vs H Q E h => ?_) (fun cdv A outer s H vs Q E hr h => ?_)
  · obtain ⟨x, dx, fs, v, rfl, _⟩ := h
    rfl
  · obtain ⟨x, dx, fs, v, rfl, hx, hl, q⟩ := h
    refine ⟨_, (pss_one (ps_ret (pe_fld (pv 0) (by rfl)))), ?_⟩
    exact ⟨_, rfl, x, W, dx, fs, v, rfl, hx, WC.cl, WC.place, hl, q⟩
/-- the number of asks at hand, less those of the shelf ahead -/
def spCountsW (C W : Addr) : Sp := fun vs H Q _ => ∃ (x dx k a : Addr) (vr vp vl : V) (n : Nat) (st : Str) (xs bs : List Int) (near far n0 f0 : Int), vs = [.ref x] ∧ H x = some (.ins W dx (wkF vr vp (.ref k) (.ref a) vl)) ∧ ShV C H k n st xs bs near far ∧ PTup H a [.int n0, .int f0] ∧
  ∀ (t : Addr) (H' : Hp), Same H H' → PTup H' t [.int (near - n0), .int (far - f0)] → Q (.ref t) H'
theorem okW_counts {C W : Addr} (SC : ShC K C) (WC : WkC K W) {f : Addr} {fd : FuncData} (F : Fun K "counts" "Walk.counts" sW_counts f fd) (m_counts : MetS P w K mg base 1 C "counts" (spTwo C "near" "far")) : FnOk P w K mg base CX0 2 f fd ["self"] (spCountsW C W) := by
  refine F.ok scW_counts (fun vs H Q E h => ?_) (fun cdv A outer s H vs Q E hr h => ?_)
  · obtain ⟨x, dx, k, a, vr, vp, vl, n, st, xs, bs, near, far, n0, f0, rfl, _⟩ := h
    rfl
  · obtain ⟨x, dx, k, a, vr, vp, vl, n, st, xs, bs, near, far, n0, f0, rfl, hx, hk, ha, q⟩ := h
    refine ⟨_, (pss_cons (ps_asg (pe_mtS m_counts hr (by decide) (pe_fld (pv 0) (by rfl))) (pg_tup (by rfl) (pgs_cons (pg_name (i := 1) scW_counts.nd rfl (Or.inl rfl)) (pgs_cons (pg_name (i := 2) scW_counts.nd rfl (Or.inl rfl)) pgs_nil))))
      (pss_one (ps_ret (pe_tupF (pa_cons (pe_op op_sub (pv 1) (pe_ix ix_tup (pe_fld (pv 0) (by rfl)) pe_int (fun _ _ => rfl))) (pa_cons (pe_op op_sub (pv 2) (pe_ix ix_tup (pe_fld (pv 0) (by rfl)) pe_int (fun _ _ => rfl))) pa_nil)))))), ?_⟩
    obtain ⟨dk, sa, sb, hkx, _⟩ := hk.ex
    refine ⟨_, rfl, x, W, dx, _, .ref k, rfl, hx, WC.cl, WC.kept, rfl, k, dk, _, rfl, hkx, rfl, k, dk, _, .int near, .int far, rfl, hkx, rfl, rfl, fun t H1 s1 nt pt => ?_⟩
    refine ⟨t, _, rfl, pt.sq, rfl, _, _, rfl, _, _, rfl, rfl, ?_⟩
    have pa := ha.same s1
    refine ⟨_, rfl, _, rfl, x, W, dx, _, .ref a, rfl, s1 _ _ hx, WC.cl, WC.ahead, rfl, a, _, 0, .int n0, rfl, rfl, pa.sq, rfl, near, n0, rfl, rfl, ?_⟩
    refine ⟨_, rfl, _, rfl, x, W, dx, _, .ref a, rfl, s1 _ _ hx, WC.cl, WC.ahead, rfl, a, _, 1, .int f0, rfl, rfl, pa.sq, rfl, far, f0, rfl, rfl, ?_⟩
    exact ⟨(by show 2 ≤ sizeLine; decide), fun u H2 s2 nu pu => q u H2 (s1.trans s2) pu⟩
theorem okW_shelf {C W : Addr} (SC : ShC K C) (WC : WkC K W) {f : Addr} {fd : FuncData} (F : Fun K "shelf" "Walk.shelf" sW_shelf f fd) (m_twin : MetS P w K mg base 8 C "twin" (spTwin C)) : FnOk P w K mg base CX0 9 f fd ["self"] (fun vs H Q E => ∃ (x dx k : Addr) (vr vp va vl : V), vs = [.ref x] ∧ H x = some (.ins W dx (wkF vr vp (.ref k) va vl)) ∧ spTwin C [.ref k] H Q E) := by
  refine F.ok scW_shelf (fun vs H Q E h => ?_) (fun cdv A outer s H vs Q E hr h => ?_)
  · obtain ⟨x, dx, k, vr, vp, va, vl, rfl, _⟩ := h
    rfl
  · obtain ⟨x, dx, k, vr, vp, va, vl, rfl, hx, x2, n, st, xs, bs, near, far, e2, hs, q⟩ := h
    cases e2
    refine ⟨_, (pss_one (ps_ret (pe_mtS m_twin hr (by decide) (pe_fld (pv 0) (by rfl))))), ?_⟩
    obtain ⟨dk, sa, sb, hkx, _⟩ := hs.ex
    exact ⟨_, rfl, x, W, dx, _, .ref k, rfl, hx, WC.cl, WC.kept, rfl, k, dk, _, rfl, hkx, rfl, k, n, st, xs, bs, near, far, rfl, hs, q⟩
theorem okW_len {W : Addr} (WC : WkC K W) (B : Bt mg) {f : Addr} {fd : FuncData} (F : Fun K "__len__" "Walk.__len__" sW_len f fd) : FnOk P w K mg base CX0 1 f fd ["self"] (fun vs H Q _ => ∃ (x dx l : Addr) (vr vp vk va : V) (ys : List V), vs = [.ref x] ∧ H x = some (.ins W dx (wkF vr vp vk va (.ref l))) ∧ H l = some (.lst ys) ∧ Q (.int ys.length) H) := by
  refine F.ok scW_len (fun vs H Q E h => ?_) (fun cdv A outer s H vs Q E hr h => ?_)
  · obtain ⟨x, dx, l, vr, vp, vk, va, ys, rfl, _⟩ := h
    rfl
  · obtain ⟨x, dx, l, vr, vp, vk, va, ys, rfl, hx, hl, q⟩ := h
    refine ⟨_, (pss_one (ps_ret (pe_callB call_len_seq (by rfl) B.len PySem.boot_len (pa_cons (pe_fld (pv 0) (by rfl)) pa_nil)))), ?_⟩
    exact ⟨_, rfl, x, W, dx, _, .ref l, rfl, hx, WC.cl, WC.past, rfl, l, _, rfl, .inl (SqL.of hl), q⟩
end
end Su
/-! ### K2: the run of a walk; undo -/
namespace Su
open PySem PySem.Spec PyProof.Rows L2
/-- an entry of a walk's past -/
def EntAt (H : Hp) (v : V) (s : Stp) : Prop := ∃ t k, v = .ref t ∧ PTup H t [.int s.1, optI s.2, .ref k]
def EntsAt (H : Hp) (vs : List V) (run : List Stp) : Prop := vs.length = run.length ∧ ∀ (i : Nat) (s : Stp), run[i]? = some s → ∃ v, vs[i]? = some v ∧ EntAt H v s
def spRunW (W : Addr) : Sp := fun vs H Q _ => ∃ (x dx l : Addr) (vr vp vk va : V) (ys : List V) (run : List Stp), vs = [.ref x] ∧ H x = some (.ins W dx (wkF vr vp vk va (.ref l))) ∧ H l = some (.lst ys) ∧ EntsAt H ys run ∧ run.length < sizeLine ∧
  ∀ (L : Addr) (H' : Hp), Same H H' → H L = none → RunAt H' L run → Q (.ref L) H'
/-- all stays but what stands at x and y -/
def But2 (x y : Addr) (H H' : Hp) : Prop := ∀ c o, H c = some o → c ≠ x → c ≠ y → H' c = some o
def spUndoW (W CB : Addr) : Sp := fun vs H Q E => ∃ (x dx l : Addr) (vr vp vk va : V) (ys : List V), vs = [.ref x] ∧ H x = some (.ins W dx (wkF vr vp vk va (.ref l))) ∧ H l = some (.lst ys) ∧
  ((ys = [] ∧ E (.ref CB) none H) ∨ ∃ (us : List V) (t : Addr) (v1 v2 v3 : V), ys = us ++ [.ref t] ∧ PTup H t [v1, v2, v3] ∧ ∀ H', But2 x l H H' → H' x = some (.ins W dx (wkF vr v1 v3 va (.ref l))) → H' l = some (.lst us) → Q .non H')
theorem scW_undo : FnScope ["self", "row", "room", "shelf"] ["self"] (defScope sW_undo) := ⟨rfl, rfl, rfl, by decide +kernel, rfl, by decide +kernel, by decide +kernel⟩
section
variable {X : Cx} {k j : Nat} {C : Addr} {m x : Str} {sp : Sp} {o e : Expr} {es : List Expr} {ta te : TE} {t : TA} {apos pos p : Pos} {W : WX}
theorem pe_mtX0 {pl : Sem Bool} (tk : Takes X W) (c : MetX X.prog X.w X.K X.mg X.base k C m ["self"] sp) (hr : Room j X.A) (hk : k ≤ j) (he : PE X o ta)
    (ht : eval (.Call (.Attribute o m apos) [] [] pos) X.env = (do
      let ov ← eval o X.env
      standAt apos.atName
      let (f, first) ← holding [ov] (getMethod ov m pl)
      callWith pos f first (backTo pos (starEach [] X.env)) (backToKw pos (keywordEach [] X.env))) := by rfl) :
    PE X (.Call (.Attribute o m apos) [] [] pos) (tMethX C m sp (WE W) ta tNil) := by
  obtain ⟨f, fd, c, hm, F, hb⟩ := c.ex
  refine ⟨fun pins s σ H Q I h => ?_⟩
  refine PySem.W.methodCall_KW (pl := pl) (thn (he.run pins s σ H _ I h) fun u s1 ⟨x, H1, I1, rx, a, dx, fs, ex, ea, l, q⟩ => ?_) ht
  subst ex
  obtain rfl : u = Value.ref a := rx
  refine getmeth_ok I1 ea c hm l ?_
  exact PySem.W.callWith_K0 (first := [.ref a]) I1.kIn hm.kp (run_fnS (us := [.ref a]) (vs := [.ref a]) F (hr.mono hk) hb (passAt tk σ) I1 (.cons rfl .nil) q)
end
section
variable {P : Program} {w : World} {K : PySem.W.Frag} {mg : Str → Option Value} {base : Heap}
theorem okW_run {W : Addr} (WC : WkC K W) {f : Addr} {fd : FuncData} (F : Fun K "run" "Walk.run" sW_run f fd) : FnOk P w K mg base CX0 1 f fd ["self"] (spRunW W) := by
  refine F.ok scW_run (fun vs H Q E h => ?_) (fun cdv A outer s H vs Q E hr h => ?_)
  · obtain ⟨x, dx, l, vr, vp, vk, va, ys, run, rfl, _⟩ := h
    rfl
  · obtain ⟨x, dx, l, vr, vp, vk, va, ys, run, rfl, hx, hl, hen, few, q⟩ := h
    refine ⟨_, (pss_one (ps_ret (pe_lc (own := [("row", 1), ("room", 2), ("shelf", 3)]) (g := (gTup K 3 (gCons (gName 1) (gCons (gName 2) (gCons (gName 3) gNil))))) (tt := tYes) (te := (tTupF (tCons (tVar 1) (tCons (tVar 2) tNil)))) (by rfl) scW_run.nd (pi_list (pe_fld (pv 0) (by rfl))) (blkOk_by (own := [("row", 1), ("room", 2), ("shelf", 3)]) (N := ["self", "row", "room", "shelf"]) (sc := defScope sW_run) (by decide +kernel)) (fun _ _ _ _ _ => (pg_tup (by rfl) (pgs_cons (pg_name (i := 1) scW_run.nd rfl (Or.inl rfl)) (pgs_cons (pg_name (i := 2) scW_run.nd rfl (Or.inl rfl)) (pgs_cons (pg_name (i := 3) scW_run.nd rfl (Or.inl rfl)) pgs_nil))))) (fun _ _ _ _ _ => pts_nil) (fun _ _ _ _ _ => (pe_tupF (pa_cons (pv 1) (pa_cons (pv 2) pa_nil))))))), ?_⟩
    obtain ⟨hlen, hget⟩ := hen
    refine ⟨_, rfl, x, W, dx, _, .ref l, rfl, hx, WC.cl, WC.past, rfl, l, rfl, ⟨_, SqL.of hl⟩, fun L nL => ?_⟩
    refine lc_list (K := K) (a := l) (xs := ys) (fun j H3 => ∃ vs, H3 L = some (.lst vs) ∧ StepsAt H3 vs (run.take j) ∧ Same H H3) ?_ ?_ ?_ ?_
    · exact ⟨[], upd_same, trivial, same_upd nL⟩
    · rintro j H3 _ ⟨_, _, _, s3⟩
      exact SqL.of (s3 _ _ hl)
    · rintro j v H3 hv ⟨vs, hL, hvs, s3⟩
      have hj : j < run.length := by
        rw [← hlen]
        exact (List.getElem?_eq_some_iff.mp hv).1
      have es : run[j]? = some run[j] := List.getElem?_eq_getElem hj
      obtain ⟨v2, ev2, t, k, e2, pt⟩ := hget j _ es
      rw [hv] at ev2
      cases ev2
      subst e2
      have hvl := hvs.len
      rw [List.length_take] at hvl
      refine ⟨t, _, rfl, (pt.same s3).sq, rfl, _, _, rfl, _, _, rfl, _, _, rfl, rfl, rfl, tyes ?_⟩
      refine ⟨_, rfl, _, rfl, (by show 2 ≤ sizeLine; decide), fun u H5 s5 nu pu => ?_⟩
      have hL5 := s5 _ _ hL
      refine ⟨vs, hL5, Nat.lt_of_le_of_lt (by omega) few, vs ++ [.ref u], upd_same, ?_, fun c o ec => ?_⟩
      · rw [take_snoc es]
        have kz : KP H5 (upd H5 L (.lst (vs ++ [.ref u]))) := KP.lst hL5
        exact StepsAt.app ((hvs.keep (KP.same s5)).keep kz) ⟨⟨u, rfl, kz _ _ pu⟩, trivial⟩
      · rw [upd_ne (ne_of_none ec nL)]
        exact s5 _ _ (s3 _ _ ec)
    · rintro H3 ⟨vs, hL, hvs, s3⟩
      rw [hlen, List.take_length] at hvs
      exact q _ _ s3 nL ⟨vs, hL, hvs⟩
theorem okW_undo {W CB : Addr} {Bb newId initId : String} {bmB : List Value} (WC : WkC K W) (B : Bt mg) (ONB : Own0 K mg "NoBack" CB Bb newId initId bmB) {f : Addr} {fd : FuncData} (F : Fun K "undo" "Walk.undo" sW_undo f fd) : FnOk P w K mg base (L2.CX P w) 1 f fd ["self"] (spUndoW W CB) := by
  refine F.okX scW_undo (fun vs H Q E h => ?_) (fun cdv A outer s H vs Q E hr h => ?_)
  · obtain ⟨x, dx, l, vr, vp, vk, va, ys, rfl, _⟩ := h
    rfl
  · obtain ⟨x, dx, l, vr, vp, vk, va, ys, rfl, hx, hl, h⟩ := h
    refine ⟨_, (pss_cons (ps_if (pt_cmpR op_eq (pe_callB call_len_seq (by rfl) B.len PySem.boot_len (pa_cons (pe_fld (pv 0) (by rfl)) pa_nil)) pe_int (nomark _)) (pss_one (ps_raiseT rfl ONB (takes_of rfl rfl rfl rfl))) pss_nil)
      (pss_cons (ps_asg (pe_bm0 PySem.F.plainAttrs_list PySem.F.slot_list_pop PySem.F.type_list_pop mt_pop (pe_fld (pv 0) (by rfl))) (pg_tup (by rfl) (pgs_cons (pg_name (i := 1) scW_undo.nd rfl (Or.inl rfl)) (pgs_cons (pg_name (i := 2) scW_undo.nd rfl (Or.inl rfl)) (pgs_cons (pg_name (i := 3) scW_undo.nd rfl (Or.inl rfl)) pgs_nil)))))
      (pss_cons (ps_fld (pv 0) (pv 1) (by rfl))
      (pss_one (ps_fld (pv 0) (pv 3) (by rfl)))))), ?_⟩
    refine ⟨_, rfl, x, W, dx, _, .ref l, rfl, hx, WC.cl, WC.past, rfl, l, _, rfl, .inl (SqL.of hl), rfl, _, rfl, ?_⟩
    rcases h with ⟨rfl, qe⟩ | ⟨us, t, v1, v2, v3, rfl, pt, q⟩
    · exact iteT qe
    · refine iteB (fun z => ?_) (fun _ => ?_)
      · have := V.int.inj (of_decide_eq_true z)
        rw [List.length_append] at this
        rw [List.length_singleton] at this
        omega
      refine ⟨_, rfl, x, W, dx, _, .ref l, rfl, hx, WC.cl, WC.past, rfl, ?_⟩
      have xl : x ≠ l := fun z => by
        rw [z, hl] at hx
        cases hx
      refine ⟨.inl ⟨rfl, _, SqL.of hl⟩, l, us ++ [.ref t], .ref t, rfl, rfl, hl, (by simp), ?_⟩
      rw [List.dropLast_concat]
      have pt1 : PTup (upd H l (.lst us)) t [v1, v2, v3] := KP.lst hl _ _ pt
      have hx1 : (upd H l (.lst us)) x = some (.ins W dx (wkF vr vp vk va (.ref l))) := by
        rw [upd_ne xl]
        exact hx
      have b1 : But2 x l H (upd H l (.lst us)) := fun c o e n1 n2 => by
        rw [upd_ne n2]
        exact e
      have hl1 : (upd H l (.lst us)) l = some (.lst us) := upd_same
      generalize upd H l (.lst us) = H1 at pt1 hx1 b1 hl1 ⊢
      refine ⟨t, _, rfl, pt1.sq, rfl, _, _, rfl, _, _, rfl, _, _, rfl, rfl, ?_⟩
      refine ⟨_, rfl, _, rfl, x, W, dx, _, rfl, hx1, WC.cl, WC.place, (by show 5 < 1000; decide), ?_⟩
      have hx2 : (upd H1 x (.ins W dx (L2.putF "place" v1 (wkF vr vp vk va (.ref l))))) x = some (.ins W dx (wkF vr v1 vk va (.ref l))) := upd_same
      have b2 : But x H1 (upd H1 x (.ins W dx (L2.putF "place" v1 (wkF vr vp vk va (.ref l))))) := But.upd x _ _
      generalize upd H1 x (.ins W dx (L2.putF "place" v1 (wkF vr vp vk va (.ref l)))) = H2 at hx2 b2 ⊢
      refine ⟨_, rfl, _, rfl, x, W, dx, _, rfl, hx2, WC.cl, WC.kept, (by show 5 < 1000; decide), ?_⟩
      refine q _ (fun c o e n1 n2 => ?_) upd_same ?_
      · rw [upd_ne n1]
        exact b2 _ _ (b1 _ _ e n1 n2) n1
      · rw [upd_ne xl.symm]
        exact b2 _ _ hl1 xl.symm
end
end Su
/-! ### K3: steps of walks, of things of any kind -/
namespace Su
open PySem PySem.Spec PyProof.Rows L2
def askG (ks : List Int) (g : G) : Bool := if ks.isEmpty = true then isNon g else match g with
  | .int k => decide (k ∈ ks)
  | _ => false
def optG : Option Int → G
  | none => .non
  | some i => .int i
def PickOk (o : Option Int) (ks : List Int) : Prop := match o with
  | none => ks = []
  | some k => k ∈ ks
theorem ask_pick {p : Addr} {H : Hp} {v : V} {g : G} {ks : List Int} (hv : Tg p H v g) (h : askG ks g = true) : ∃ o, g = optG o ∧ v = optI o ∧ PickOk o ks := by
  unfold askG at h
  cases ks with
  | nil =>
    cases hv with
    | non => exact ⟨none, rfl, rfl, rfl⟩
    | _ => cases h
  | cons k0 kl =>
    cases hv with
    | int i =>
      have z : decide (i ∈ k0 :: kl) = true := h
      have y := of_decide_eq_true z
      exact ⟨some i, rfl, rfl, y⟩
    | _ => cases h
def spAskOf : Sp := fun vs H Q _ => ∃ (p b : Addr) (ks : List Int) (v : V) (g : G), vs = [.ref b, v] ∧ T2 H b (ks.map V.int) ∧ Tg p H v g ∧ (∀ k ∈ ks, 0 ≤ k ∧ k ≤ 99) ∧ Q (.bl (askG ks g)) H
def spWayOn : Sp := fun vs H Q _ => ∃ (p b : Addr) (ks : List Int) (v : V) (g : G), vs = [.ref b, v] ∧ T2 H b (ks.map V.int) ∧ Tg p H v g ∧ Q (.bl (askG ks g)) H
/-- an exception with one field is raised -/
def Rais (E : XK) (C : Addr) (f : Str) (v : V) (H : Hp) : Prop := ∀ (H' : Hp) (d : Addr), Same H H' → H d = none → H' d = some (.xd [(f, v)]) → E (.ref C) (some d) H'
def spStepW (C W CR CS : Addr) : Sp := fun vs H Q E => ∃ (p x dx r k l : Addr) (va : V) (at_ : Option Nat) (rs : List Rw) (v1 v2 : V) (g1 g2 : G) (ys : List V) (n : Nat) (st : Str) (xs bs : List Int) (near far : Int), vs = [.ref x, v1, v2] ∧ Tg p H v1 g1 ∧ Tg p H v2 g2 ∧ H x = some (.ins W dx (wkF (.ref r) (optI (at_.map Int.ofNat)) (.ref k) va (.ref l))) ∧ WebAt H r rs ∧ WebOk rs ∧ H l = some (.lst ys) ∧ ys.length < sizeLine ∧ ShV C H k n st xs bs near far ∧
  (at_ = none → Rais E CS "to" v2 H) ∧ ∀ q : Nat, at_ = some q → ∃ row, rs[q]? = some row ∧ (askG row.1 g1 = false → Rais E CR "room" v1 H) ∧ (askG row.1 g1 = true → askG row.2 g2 = false → Rais E CS "to" v2 H) ∧
  ∀ (o to : Option Int), g1 = optG o → g2 = optG to → PickOk o row.1 → PickOk to row.2 → ∀ (H' : Hp) (t k' : Addr), But2 x l H H' → H' x = some (.ins W dx (wkF (.ref r) (optI to) (.ref k') va (.ref l))) → H' l = some (.lst (ys ++ [.ref t])) → PTup H' t [.int q, optI o, .ref k] →
    ShV C H' k' n st (stepF st (xs, bs) (q, o)).1 (stepF st (xs, bs) (q, o)).2 (if ansF (xs, bs) (q, o) = some true then near + 1 else near) (if ansF (xs, bs) (q, o) = some false then far + 1 else far) → Q (optB (ansF (xs, bs) (q, o))) H'
theorem sc_is_ask_of : FnScope ["rooms", "thing"] ["rooms", "thing"] (defScope s_is_ask_of) := ⟨rfl, rfl, rfl, by decide +kernel, rfl, by decide +kernel, by decide +kernel⟩
theorem sc_is_way_on : FnScope ["tos", "thing"] ["tos", "thing"] (defScope s_is_way_on) := ⟨rfl, rfl, rfl, by decide +kernel, rfl, by decide +kernel, by decide +kernel⟩
theorem scW_step : FnScope ["self", "room", "to", "rooms", "tos"] ["self", "room", "to"] (defScope sW_step) := ⟨rfl, rfl, rfl, by decide +kernel, rfl, by decide +kernel, by decide +kernel⟩
section
variable {P : Program} {w : World} {K : PySem.W.Frag} {mg : Str → Option Value} {base : Heap}
theorem ok_askof (T : At K mg "is_ask_of" s_is_ask_of ["rooms", "thing"]) (B : Bt mg) (c_is_room : Cal P w K mg base 2 "is_room" ["thing"] spRoom) : Cal P w K mg base 3 "is_ask_of" ["rooms", "thing"] spAskOf := by
  refine cal_of T sc_is_ask_of (fun vs H Q E h => ?_) (fun f cdv A outer s H vs Q E hr h => ?_)
  · obtain ⟨p, b, ks, v, g, rfl, _⟩ := h
    rfl
  · obtain ⟨p, b, ks, v, g, rfl, hb, hv, rg, q⟩ := h
    refine ⟨_, (pss_cons (ps_if (pt_cmpR op_eq (pe_callB call_len_seq (by rfl) B.len PySem.boot_len (pa_cons (pv 0) pa_nil)) pe_int (nomark _)) (pss_one (ps_ret (pe_cmpR op_isN (pv 1) pe_non (nomark _)))) pss_nil)
      (pss_one (ps_ret (pe_and (pe_own c_is_room hr (by decide) (by rfl) (pa_cons (pv 1) pa_nil)) (pe_one (pe_cmpR op_in_seq (pv 1) (pv 0) (by rfl))))))), ?_⟩
    refine ⟨_, rfl, b, _, rfl, .inr hb.sq, rfl, _, rfl, ?_⟩
    rw [List.length_map]
    cases ks with
    | nil =>
      refine iteT ⟨_, rfl, rfl, ?_⟩
      rw [non_dec hv]
      exact q
    | cons k0 kl =>
      rw [show decide (V.int ((k0 :: kl).length : Int) = V.int 0) = false from decide_eq_false (fun z => by have := V.int.inj z; rw [List.length_cons] at this; omega)]
      refine iteF ⟨_, rfl, p, v, g, rfl, hv, _, rfl, iteB (fun e => ?_) (fun e => ?_)⟩
      · obtain ⟨k, rfl, rfl⟩ : ∃ k, v = .int k ∧ g = .int k := by
          cases hv with
          | int i => exact ⟨i, rfl, rfl⟩
          | _ => cases e
        refine ⟨_, rfl, _, rfl, b, _, rfl, .inr hb.sq, rfl, flat_ints (k0 :: kl), ?_⟩
        rw [show (if false = true then !inV (V.int k) ((k0 :: kl).map V.int) else inV (V.int k) ((k0 :: kl).map V.int)) = decide (k ∈ (k0 :: kl)) from in_ints k _]
        exact q
      · have z : askG (k0 :: kl) g = false := by
          cases g with
          | int k =>
            show decide (k ∈ k0 :: kl) = false
            refine decide_eq_false fun hm => ?_
            have := rg k hm
            have y : (decide (0 ≤ k) && decide (k ≤ 99)) = false := e
            rw [decide_eq_true (by omega : (0 : Int) ≤ k), decide_eq_true (by omega : k ≤ 99)] at y
            cases y
          | _ => rfl
        rw [z] at q
        exact q
theorem ok_wayon (T : At K mg "is_way_on" s_is_way_on ["tos", "thing"]) (B : Bt mg) (c_is_whole : Cal P w K mg base 1 "is_whole" ["thing"] spWhole) : Cal P w K mg base 2 "is_way_on" ["tos", "thing"] spWayOn := by
  refine cal_of T sc_is_way_on (fun vs H Q E h => ?_) (fun f cdv A outer s H vs Q E hr h => ?_)
  · obtain ⟨p, b, ks, v, g, rfl, _⟩ := h
    rfl
  · obtain ⟨p, b, ks, v, g, rfl, hb, hv, q⟩ := h
    refine ⟨_, (pss_cons (ps_if (pt_cmpR op_eq (pe_callB call_len_seq (by rfl) B.len PySem.boot_len (pa_cons (pv 0) pa_nil)) pe_int (nomark _)) (pss_one (ps_ret (pe_cmpR op_isN (pv 1) pe_non (nomark _)))) pss_nil)
      (pss_one (ps_ret (pe_and (pe_own c_is_whole hr (by decide) (by rfl) (pa_cons (pv 1) pa_nil)) (pe_one (pe_cmpR op_in_seq (pv 1) (pv 0) (by rfl))))))), ?_⟩
    refine ⟨_, rfl, b, _, rfl, .inr hb.sq, rfl, _, rfl, ?_⟩
    rw [List.length_map]
    cases ks with
    | nil =>
      refine iteT ⟨_, rfl, rfl, ?_⟩
      rw [non_dec hv]
      exact q
    | cons k0 kl =>
      rw [show decide (V.int ((k0 :: kl).length : Int) = V.int 0) = false from decide_eq_false (fun z => by have := V.int.inj z; rw [List.length_cons] at this; omega)]
      refine iteF ⟨_, rfl, p, v, g, rfl, hv, _, rfl, iteB (fun e => ?_) (fun e => ?_)⟩
      · obtain ⟨k, rfl, rfl⟩ : ∃ k, v = .int k ∧ g = .int k := by
          cases hv with
          | int i => exact ⟨i, rfl, rfl⟩
          | _ => cases e
        refine ⟨_, rfl, _, rfl, b, _, rfl, .inr hb.sq, rfl, flat_ints (k0 :: kl), ?_⟩
        rw [show (if false = true then !inV (V.int k) ((k0 :: kl).map V.int) else inV (V.int k) ((k0 :: kl).map V.int)) = decide (k ∈ (k0 :: kl)) from in_ints k _]
        exact q
      · have z : askG (k0 :: kl) g = false := by
          cases g with
          | int k => cases e
          | _ => rfl
        rw [z] at q
        exact q
theorem okW_step {C W CR CS : Addr} {fR fS : Addr} {BR nR iR BS nS iS : String} {bR bS : List Value} (SC : ShC K C) (WC : WkC K W) (B : Bt mg) (ONR : XC.Own P K mg "NoRoom" "room" CR fR BR nR iR bR) (ONS : XC.Own P K mg "NoStep" "to" CS fS BS nS iS bS) {f : Addr} {fd : FuncData} {dvs : List V} {kws : List (Str × V)} (F : FunD K "step" "Walk.step" (defArgs sW_step) (defBody sW_step) (defScope sW_step) dvs kws f fd)
    (c_is_ask_of : Cal P w K mg base 3 "is_ask_of" ["rooms", "thing"] spAskOf) (c_is_way_on : Cal P w K mg base 2 "is_way_on" ["tos", "thing"] spWayOn) (m_twin : MetS P w K mg base 8 C "twin" (spTwin C)) (m_ask : MetA P w K mg base 4 C "ask" ["self", "room"] (spAsk C)) : FnOk P w K mg base (L2.CX P w) 9 f fd ["self", "room", "to"] (spStepW C W CR CS) := by
  refine FunD.ok (CX := L2.CX P w) F scW_step (fun vs H Q E h => ?_) (fun cdv A outer s H vs Q E hr h => ?_)
  · obtain ⟨p0, x, dx, r, k, l, va, at_, rs, v1, v2, g1, g2, ys, n, st, xs, bs, near, far, rfl, _⟩ := h
    rfl
  · obtain ⟨p0, x, dx, r, k, l, va, at_, rs, v1, v2, g1, g2, ys, n, st, xs, bs, near, far, rfl, hv1, hv2, hx, hW, ok, hl, few, hs, qo, qi⟩ := h
    refine ⟨_, (pss_cons (ps_if (pt_cmpR op_isN (pe_fld (pv 0) (by rfl)) pe_non (nomark _)) (pss_one (ps_raiseX rfl ONS hr (takes_of rfl rfl rfl rfl) (pa_cons (pv 2) pa_nil))) pss_nil)
      (pss_cons (ps_asg (pe_ix ix_list (pe_fld (pv 0) (by rfl)) (pe_fld (pv 0) (by rfl)) (fun _ _ => rfl)) (pg_tup (by rfl) (pgs_cons (pg_name (i := 3) scW_step.nd rfl (Or.inl rfl)) (pgs_cons (pg_name (i := 4) scW_step.nd rfl (Or.inl rfl)) pgs_nil))))
      (pss_cons (ps_if (pt_not (pt_val (pe_own c_is_ask_of hr (by decide) (by rfl) (pa_cons (pv 3) (pa_cons (pv 1) pa_nil))))) (pss_one (ps_raiseX rfl ONR hr (takes_of rfl rfl rfl rfl) (pa_cons (pv 1) pa_nil))) pss_nil)
      (pss_cons (ps_if (pt_not (pt_val (pe_own c_is_way_on hr (by decide) (by rfl) (pa_cons (pv 4) (pa_cons (pv 2) pa_nil))))) (pss_one (ps_raiseX rfl ONS hr (takes_of rfl rfl rfl rfl) (pa_cons (pv 2) pa_nil))) pss_nil)
      (pss_cons (ps_expr (pe_bm PySem.F.plainAttrs_list PySem.F.slot_list_append PySem.F.type_list_append mt_append (pe_fld (pv 0) (by rfl)) (pa_cons (pe_tupF (pa_cons (pe_fld (pv 0) (by rfl)) (pa_cons (pv 1) (pa_cons (pe_fld (pv 0) (by rfl)) pa_nil)))) pa_nil)))
      (pss_cons (ps_fld (pv 0) (pv 2) (by rfl))
      (pss_cons (ps_if (pt_cmpR op_isN (pv 1) pe_non (nomark _)) (pss_one (ps_ret pe_non)) pss_nil)
      (pss_cons (ps_fld (pv 0) (pe_mtS m_twin hr (by decide) (pe_fld (pv 0) (by rfl))) (by rfl))
      (pss_one (ps_ret (pe_mtA m_ask hr (by decide) (pe_fld (pv 0) (by rfl)) (pa_cons (pv 1) pa_nil)))))))))))), ?_⟩
    have xl : x ≠ l := fun z => by
      rw [z, hl] at hx
      cases hx
    have rai : ∀ {C2 : Addr} {fn : Str} {vv : V}, Rais E C2 fn vv H → ∀ d, H d = none → E (.ref C2) (some d) (upd H d (.xd [(fn, vv)])) := fun q d nd => q _ d (same_upd nd) nd upd_same
    cases at_ with
    | none =>
      refine ⟨_, rfl, x, W, dx, _, .non, rfl, hx, WC.cl, WC.place, rfl, rfl, _, rfl, iteT ?_⟩
      exact ⟨_, rfl, v2, rfl, fun d nd => rai (qo rfl) d nd⟩
    | some p =>
    obtain ⟨row, er, qR, qS, q⟩ := qi p rfl
    replace hx : H x = some (.ins W dx (wkF (.ref r) (.int p) (.ref k) va (.ref l))) := hx
    obtain ⟨ws, hr_, hrs⟩ := hW
    have rok := ok.row row (List.mem_of_getElem? er)
    have hpl : p < ws.length := by
      rw [hrs.len]
      exact (List.getElem?_eq_some_iff.mp er).1
    obtain ⟨r2, er2, ra, rb, rc, ew, ha, hb, hc⟩ := hrs.get (List.getElem?_eq_getElem hpl)
    rw [er] at er2
    cases er2
    refine ⟨_, rfl, x, W, dx, _, .int p, rfl, hx, WC.cl, WC.place, rfl, rfl, _, rfl, iteB (fun z => by cases z) (fun _ => ?_)⟩
    refine ⟨_, rfl, x, W, dx, _, .ref r, rfl, hx, WC.cl, WC.rows, rfl, _, rfl, x, W, dx, _, .int p, rfl, hx, WC.cl, WC.place, rfl, r, _, p, ws[p], rfl, rfl, SqL.of hr_, atI_nat (List.getElem?_eq_getElem hpl), ?_⟩
    refine ⟨ra, _, ew, ha.sq, rfl, _, _, rfl, _, _, rfl, rfl, ?_⟩
    refine ⟨_, rfl, _, rfl, p0, rb, row.1, v1, g1, rfl, hb, hv1, (fun k hk => ⟨rok.rooms.lo k hk, rok.rooms.hi k hk⟩), _, rfl, iteB (fun z => ?_) (fun z => ?_)⟩
    · exact ⟨_, rfl, v1, rfl, fun d nd => rai (qR (bFalse z)) d nd⟩
    have a1 := bTrue z
    refine ⟨_, rfl, _, rfl, p0, rc, row.2, v2, g2, rfl, hc, hv2, _, rfl, iteB (fun z => ?_) (fun z => ?_)⟩
    · exact ⟨_, rfl, v2, rfl, fun d nd => rai (qS a1 (bFalse z)) d nd⟩
    have a2 := bTrue z
    obtain ⟨o, eg1, rfl, ho⟩ := ask_pick hv1 a1
    obtain ⟨to, eg2, rfl, ht⟩ := ask_pick hv2 a2
    replace q := q o to eg1 eg2 ho ht
    refine ⟨_, rfl, x, W, dx, _, .ref l, rfl, hx, WC.cl, WC.past, rfl, .inl ⟨rfl, _, SqL.of hl⟩, ?_⟩
    refine ⟨_, rfl, x, W, dx, _, .int p, rfl, hx, WC.cl, WC.place, rfl, _, rfl, _, rfl, x, W, dx, _, .ref k, rfl, hx, WC.cl, WC.kept, rfl, (by show 3 ≤ sizeLine; decide), fun t H1 s1 nt pt => ?_⟩
    refine ⟨l, _, _, rfl, rfl, s1 _ _ hl, few, ?_⟩
    have pt1 : PTup (upd H1 l (.lst (ys ++ [.ref t]))) t [.int p, optI o, .ref k] := KP.lst (s1 _ _ hl) _ _ pt
    have hx1 : (upd H1 l (.lst (ys ++ [.ref t]))) x = some (.ins W dx (wkF (.ref r) (.int p) (.ref k) va (.ref l))) := by
      rw [upd_ne xl]
      exact s1 _ _ hx
    have b1 : But2 x l H (upd H1 l (.lst (ys ++ [.ref t]))) := fun c o e n1 n2 => by
      rw [upd_ne n2]
      exact s1 _ _ e
    have hl1 : (upd H1 l (.lst (ys ++ [.ref t]))) l = some (.lst (ys ++ [.ref t])) := upd_same
    have kx : k ≠ x := fun z => by
      obtain ⟨d2, _, _, h2, _⟩ := hs.ex
      rw [z, hx] at h2
      injection h2 with h2
      injection h2 with _ _ h2
      cases h2
    have hs1 : ShV C (upd H1 l (.lst (ys ++ [.ref t]))) k n st xs bs near far := by
      obtain ⟨d2, a2, b2, h2, h3, h4⟩ := hs.ex
      refine ⟨⟨d2, a2, b2, ?_, KP.lst (s1 _ _ hl) _ _ (h3.same s1), KP.lst (s1 _ _ hl) _ _ (h4.same s1)⟩, hs.ok, hs.way⟩
      rw [upd_ne (fun z => by rw [z, hl] at h2; cases h2)]
      exact s1 _ _ h2
    generalize upd H1 l (.lst (ys ++ [.ref t])) = H2 at pt1 hx1 b1 hl1 hs1 ⊢
    refine ⟨_, rfl, _, rfl, x, W, dx, _, rfl, hx1, WC.cl, WC.place, (by show 5 < 1000; decide), ?_⟩
    have hx3 : (upd H2 x (.ins W dx (L2.putF "place" (optI to) (wkF (.ref r) (.int p) (.ref k) va (.ref l))))) x = some (.ins W dx (wkF (.ref r) (optI to) (.ref k) va (.ref l))) := upd_same
    have b3 : But x H2 (upd H2 x (.ins W dx (L2.putF "place" (optI to) (wkF (.ref r) (.int p) (.ref k) va (.ref l))))) := But.upd x _ _
    generalize upd H2 x (.ins W dx (L2.putF "place" (optI to) (wkF (.ref r) (.int p) (.ref k) va (.ref l)))) = H3 at hx3 b3 ⊢
    have hl3 := b3 _ _ hl1 xl.symm
    have pt3 := pt1.but b3 hx1
    have hs3 := hs1.but b3 hx1 kx
    have b13 : But2 x l H H3 := fun c o e n1 n2 => b3 _ _ (b1 _ _ e n1 n2) n1
    cases o with
    | none =>
      refine ⟨_, rfl, rfl, _, rfl, iteT ?_⟩
      exact q H3 t k b13 hx3 hl3 pt3 hs3
    | some rm =>
      refine ⟨_, rfl, rfl, _, rfl, iteF ?_⟩
      obtain ⟨dk, ka, kb, hkx, _⟩ := hs3.ex
      refine ⟨_, rfl, x, W, dx, _, .ref k, rfl, hx3, WC.cl, WC.kept, rfl, k, dk, _, rfl, hkx, rfl, k, n, st, xs, bs, near, far, rfl, hs3, fun y H4 s4 ny hy => ?_⟩
      have xy : x ≠ y := ne_of_none hx3 ny
      have ly : l ≠ y := ne_of_none hl3 ny
      refine ⟨_, rfl, x, W, dx, _, rfl, s4 _ _ hx3, WC.cl, WC.kept, (by show 5 < 1000; decide), ?_⟩
      have hx5 : (upd H4 x (.ins W dx (L2.putF "kept" (.ref y) (wkF (.ref r) (optI to) (.ref k) va (.ref l))))) x = some (.ins W dx (wkF (.ref r) (optI to) (.ref y) va (.ref l))) := upd_same
      have b5 : But x H4 (upd H4 x (.ins W dx (L2.putF "kept" (.ref y) (wkF (.ref r) (optI to) (.ref k) va (.ref l))))) := But.upd x _ _
      generalize upd H4 x (.ins W dx (L2.putF "kept" (.ref y) (wkF (.ref r) (optI to) (.ref k) va (.ref l)))) = H5 at hx5 b5 ⊢
      have hy5 := hy.but b5 (s4 _ _ hx3) xy.symm
      obtain ⟨dy, ya, yb, hyx, _⟩ := hy5.ex
      have rl := rok.rooms.lo rm ho
      have rh := rok.rooms.hi rm ho
      refine ⟨_, rfl, x, W, dx, _, .ref y, rfl, hx5, WC.cl, WC.kept, rfl, y, dy, _, rfl, hyx, rfl, _, rfl, y, rm, n, st, xs, bs, near, far, rfl, hy5, rl, by omega, fun H6 b6 h6 => ?_⟩
      have yx : x ≠ y := xy
      refine q H6 t y (fun c o e n1 n2 => ?_) (b6 _ _ hx5 xy) (b6 _ _ (b5 _ _ (s4 _ _ hl3) xl.symm) ly) ?_ ?_
      · have e5 := b5 _ _ (s4 _ _ (b13 _ _ e n1 n2)) n1
        exact b6 _ _ e5 (ne_of_none (b13 _ _ e n1 n2) ny)
      · exact ((pt3.same s4).but b5 (s4 _ _ hx3)).but b6 hyx
      · show ShV C H6 y n st (askF st xs bs rm).1 (askF st xs bs rm).2 (if some (decide (rm ∈ xs)) = some true then near + 1 else near) (if some (decide (rm ∈ xs)) = some false then far + 1 else far)
        by_cases z : rm ∈ xs
        · rw [if_pos z, if_pos z] at h6
          simp only [z]
          exact h6
        · rw [if_neg z, if_neg z] at h6
          simp only [z]
          exact h6
end
end Su
/-! ### V1: a walk and the law's own keeping of it -/
namespace Su
open PySem PySem.Spec PyProof.Rows L2
structure St19 where
  rs : List Rw
  at_ : Option Nat
  run : List Stp
  n : Nat
  st : Str
  l0 : List Int × List Int
  n0 : Int
  f0 : Int
def lyF (s : St19) (i : Nat) : List Int × List Int := layF s.st s.l0 (s.run.take i)
def nrF (s : St19) (i : Nat) : Int := s.n0 + (((alongF s.st s.l0 (s.run.take i)).count (some true) : Nat) : Int)
def frF (s : St19) (i : Nat) : Int := s.f0 + (((alongF s.st s.l0 (s.run.take i)).count (some false) : Nat) : Int)
def atV (o : Option Nat) : V := optI (o.map Int.ofNat)
def ownK (Wl Rl : Addr) (row : V) (st : Str) (Pl : Addr) : List (Key × V) := [(.inr "web", .ref Wl), (.inr "run", .ref Rl), (.inr "row", row), (.inr "sort", .str st), (.inr "past", .ref Pl)]
def WPast (C : Addr) (H : Hp) (ys : List V) (s : St19) : Prop := ys.length = s.run.length ∧ ∀ (i : Nat) (sp : Stp), s.run[i]? = some sp → ∃ t k, ys[i]? = some (.ref t) ∧ PTup H t [.int sp.1, optI sp.2, .ref k] ∧ ShV C H k s.n s.st (lyF s i).1 (lyF s i).2 (nrF s i) (frF s i)
structure WkJ (C W : Addr) (H : Hp) (x r l : Addr) (s : St19) : Prop where
  ex : ∃ (dx k a : Addr) (ys : List V), H x = some (.ins W dx (wkF (.ref r) (atV s.at_) (.ref k) (.ref a) (.ref l))) ∧ ShV C H k s.n s.st (lyF s s.run.length).1 (lyF s s.run.length).2 (nrF s s.run.length) (frF s s.run.length) ∧ PTup H a [.int s.n0, .int s.f0] ∧ H l = some (.lst ys) ∧ WPast C H ys s
  web : WebAt H r s.rs
def OPast (H : Hp) (ps : List V) (s : St19) : Prop := ps.length = s.run.length + 1 ∧ ∀ i : Nat, i ≤ s.run.length → ∃ t c m, ps[i]? = some (.ref t) ∧ PTup H t [.ref c, .ref m, .int (nrF s i), .int (frF s i)] ∧ PTup H c ((lyF s i).1.map V.int) ∧ PTup H m ((lyF s i).2.map V.int)
structure OwJ (H : Hp) (o Wl Rl Pl : Addr) (s : St19) : Prop where
  at_ : H o = some (.dK (ownK Wl Rl (atV s.at_) s.st Pl))
  web : WebAt H Wl s.rs
  run : RunAt H Rl s.run
  past : ∃ ps, H Pl = some (.lst ps) ∧ OPast H ps s
structure StOk (s : St19) : Prop where
  web : WebOk s.rs
  few : s.run.length ≤ 100
  row : ∀ q, s.at_ = some q → q < s.rs.length
  stp : ∀ sp ∈ s.run, sp.1 < s.rs.length ∧ ∀ k, sp.2 = some k → 0 ≤ k ∧ k < 100
theorem RunAt.same {H H' : Hp} {L : Addr} {run : List Stp} (s : Same H H') (h : RunAt H L run) : RunAt H' L run := by
  obtain ⟨vs, e, st⟩ := h
  exact ⟨vs, s _ _ e, st.keep (KP.same s)⟩
/-- what is kept of it -/
structure Kp (H H' : Hp) (no : List Addr) : Prop where
  all : ∀ c o, H c = some o → c ∉ no → H' c = some o
theorem Kp.same {H H' : Hp} (s : Same H H') (no : List Addr) : Kp H H' no := ⟨fun c o e _ => s c o e⟩
theorem Kp.trans {H H1 H2 : Hp} {no : List Addr} (a : Kp H H1 no) (b : Kp H1 H2 no) : Kp H H2 no := ⟨fun c o e n => b.all c o (a.all c o e n) n⟩
theorem WPast.same {C : Addr} {H H' : Hp} {ys : List V} {s : St19} (h : WPast C H ys s) (k : Same H H') : WPast C H' ys s := ⟨h.1, fun i sp e => by
  obtain ⟨t, a, e1, p, hs⟩ := h.2 i sp e
  exact ⟨t, a, e1, p.same k, hs.same k⟩⟩
theorem OPast.same {H H' : Hp} {ps : List V} {s : St19} (h : OPast H ps s) (k : Same H H') : OPast H' ps s := ⟨h.1, fun i e => by
  obtain ⟨t, c, m, e1, p, h1, h2⟩ := h.2 i e
  exact ⟨t, c, m, e1, p.same k, h1.same k, h2.same k⟩⟩
theorem WkJ.same {C W : Addr} {H H' : Hp} {x r l : Addr} {s : St19} (h : WkJ C W H x r l s) (k : Same H H') : WkJ C W H' x r l s := by
  obtain ⟨dx, a, b, ys, h1, h2, h3, h4, h5⟩ := h.ex
  exact ⟨⟨dx, a, b, ys, k _ _ h1, h2.same k, h3.same k, k _ _ h4, h5.same k⟩, h.web.same k⟩
theorem OwJ.same {H H' : Hp} {o Wl Rl Pl : Addr} {s : St19} (h : OwJ H o Wl Rl Pl s) (k : Same H H') : OwJ H' o Wl Rl Pl s := by
  obtain ⟨ps, e, op⟩ := h.past
  exact ⟨k _ _ h.at_, h.web.same k, h.run.same k, ps, k _ _ e, op.same k⟩
/-- behind a step -/
def St19.next (s : St19) (q : Nat) (o : Option Int) (to : Option Nat) : St19 := { s with at_ := to, run := s.run ++ [(q, o)] }
def St19.back (s : St19) (q : Nat) : St19 := { s with at_ := some q, run := s.run.dropLast }
theorem next_take {s : St19} {q : Nat} {o : Option Int} {to : Option Nat} {i : Nat} (h : i ≤ s.run.length) : (s.next q o to).run.take i = s.run.take i := by
  show (s.run ++ [(q, o)]).take i = _
  rw [List.take_append_of_le_length h]
theorem next_ly {s : St19} {q : Nat} {o : Option Int} {to : Option Nat} {i : Nat} (h : i ≤ s.run.length) : lyF (s.next q o to) i = lyF s i := by
  unfold lyF
  rw [next_take h]
  rfl
theorem next_nr {s : St19} {q : Nat} {o : Option Int} {to : Option Nat} {i : Nat} (h : i ≤ s.run.length) : nrF (s.next q o to) i = nrF s i := by
  unfold nrF
  rw [next_take h]
  rfl
theorem next_fr {s : St19} {q : Nat} {o : Option Int} {to : Option Nat} {i : Nat} (h : i ≤ s.run.length) : frF (s.next q o to) i = frF s i := by
  unfold frF
  rw [next_take h]
  rfl
theorem next_len {s : St19} {q : Nat} {o : Option Int} {to : Option Nat} : (s.next q o to).run.length = s.run.length + 1 := by
  show (s.run ++ [(q, o)]).length = _
  rw [List.length_append]
  rfl
theorem next_all {s : St19} {q : Nat} {o : Option Int} {to : Option Nat} : (s.next q o to).run.take (s.run.length + 1) = s.run.take s.run.length ++ [(q, o)] := by
  show (s.run ++ [(q, o)]).take (s.run.length + 1) = _
  rw [List.take_length, List.take_of_length_le (by rw [List.length_append]; exact Nat.le_refl _)]
theorem next_lyL {s : St19} {q : Nat} {o : Option Int} {to : Option Nat} : lyF (s.next q o to) (s.run.length + 1) = stepF s.st (lyF s s.run.length) (q, o) := by
  unfold lyF
  rw [next_all]
  exact layF_snoc _ _ _ _
theorem next_nrL {s : St19} {q : Nat} {o : Option Int} {to : Option Nat} : nrF (s.next q o to) (s.run.length + 1) = if ansF (lyF s s.run.length) (q, o) = some true then nrF s s.run.length + 1 else nrF s s.run.length := by
  unfold nrF
  rw [next_all]
  show s.n0 + (((alongF s.st s.l0 (s.run.take s.run.length ++ [(q, o)])).count (some true) : Nat) : Int) = _
  rw [alongF_snoc, List.count_append, List.count_singleton]
  unfold lyF
  generalize ansF (layF s.st s.l0 (s.run.take s.run.length)) (q, o) = a
  by_cases e : a = some true
  · rw [if_pos e, e]
    simp
    omega
  · rw [if_neg e]
    simp [e]
theorem next_frL {s : St19} {q : Nat} {o : Option Int} {to : Option Nat} : frF (s.next q o to) (s.run.length + 1) = if ansF (lyF s s.run.length) (q, o) = some false then frF s s.run.length + 1 else frF s s.run.length := by
  unfold frF
  rw [next_all]
  show s.f0 + (((alongF s.st s.l0 (s.run.take s.run.length ++ [(q, o)])).count (some false) : Nat) : Int) = _
  rw [alongF_snoc, List.count_append, List.count_singleton]
  unfold lyF
  generalize ansF (layF s.st s.l0 (s.run.take s.run.length)) (q, o) = a
  by_cases e : a = some false
  · rw [if_pos e, e]
    simp
    omega
  · rw [if_neg e]
    simp [e]
theorem back_take {s : St19} {q : Nat} {i : Nat} (h : i ≤ s.run.length - 1) : (s.back q).run.take i = s.run.take i := by
  show (s.run.dropLast).take i = _
  rw [List.dropLast_eq_take, List.take_take, Nat.min_eq_left h]
theorem back_ly {s : St19} {q : Nat} {i : Nat} (h : i ≤ s.run.length - 1) : lyF (s.back q) i = lyF s i := by
  unfold lyF
  rw [back_take h]
  rfl
theorem back_nr {s : St19} {q : Nat} {i : Nat} (h : i ≤ s.run.length - 1) : nrF (s.back q) i = nrF s i := by
  unfold nrF
  rw [back_take h]
  rfl
theorem back_fr {s : St19} {q : Nat} {i : Nat} (h : i ≤ s.run.length - 1) : frF (s.back q) i = frF s i := by
  unfold frF
  rw [back_take h]
  rfl
theorem back_len {s : St19} {q : Nat} : (s.back q).run.length = s.run.length - 1 := by
  show s.run.dropLast.length = _
  rw [List.length_dropLast]
end Su
/-! ### K5: walks alike -/
namespace Su
open PySem PySem.Spec PyProof.Rows L2
def optD : Option Int → PyData
  | none => .none
  | some i => .int i
def stepD (s : Stp) : PyData := .tuple [.int s.1, optD s.2]
def runD (ss : List Stp) : PyData := .list (ss.map stepD)
theorem dp_opt {K : PySem.W.Frag} {H : Hp} : ∀ o : Option Int, Dp K H (optI o) (optD o)
  | none => .non
  | some i => .int i
theorem StepsAt.dp {K : PySem.W.Frag} {H : Hp} : ∀ {vs : List V} {ss : List Stp}, StepsAt H vs ss → DpAll K H vs (ss.map stepD)
  | [], [], _ => .nil
  | _ :: _, s :: ss, h => by
    obtain ⟨⟨t, rfl, pt⟩, tl⟩ := h
    exact .cons (.tup pt.sq (.cons (.int _) (.cons (dp_opt s.2) .nil))) (StepsAt.dp tl)
  | [], _ :: _, h => h.elim
  | _ :: _, [], h => h.elim
theorem RunAt.dp {K : PySem.W.Frag} {H : Hp} {L : Addr} {run : List Stp} (h : RunAt H L run) : Dp K H (.ref L) (runD run) := by
  obtain ⟨vs, e, s⟩ := h
  exact .lst (SqL.of e) s.dp
theorem opt_eqv : ∀ a b : Option Int, PyData.eqv (optD a) (optD b) = decide (a = b)
  | none, none => by simp [optD, PyData.eqv]
  | none, some b => by simp [optD, PyData.eqv]
  | some a, none => by simp [optD, PyData.eqv]
  | some a, some b => by simp only [optD, PyData.eqv]; rw [show (a == b) = decide (a = b) from rfl]; simp
theorem step_eqv (a b : Stp) : PyData.eqv (stepD a) (stepD b) = decide (a = b) := by
  obtain ⟨i, o⟩ := a
  obtain ⟨j, u⟩ := b
  simp only [stepD, PyData.eqv, PyData.eqvAll, opt_eqv, Bool.and_true]
  by_cases e : i = j
  · subst e
    simp
  · have : ((i : Int) == (j : Int)) = false := beq_eq_false_iff_ne.mpr fun z => e (Int.ofNat.inj z)
    rw [this]
    simp [e]
theorem steps_eqv : ∀ a b : List Stp, PyData.eqvAll (a.map stepD) (b.map stepD) = decide (a = b)
  | [], [] => by simp [PyData.eqvAll]
  | [], _ :: _ => by simp [PyData.eqvAll]
  | _ :: _, [] => by simp [PyData.eqvAll]
  | x :: a, y :: b => by
    rw [List.map_cons, List.map_cons, PyData.eqvAll, step_eqv, steps_eqv a b]
    simp
theorem run_eqv (a b : List Stp) : PyData.eqv (runD a) (runD b) = decide (a = b) := by
  rw [runD, runD, PyData.eqv, steps_eqv]
theorem rows_eqv : ∀ a b : List Rw, PyData.eqvAll (a.map rowD) (b.map rowD) = decide (a = b)
  | [], [] => by simp [PyData.eqvAll]
  | [], _ :: _ => by simp [PyData.eqvAll]
  | _ :: _, [] => by simp [PyData.eqvAll]
  | (r1, r2) :: a, (q1, q2) :: b => by
    rw [List.map_cons, List.map_cons, PyData.eqvAll, rows_eqv a b]
    simp only [rowD, PyData.eqv, PyData.eqvAll, eqv_ints, Bool.and_true]
    simp
theorem web_eqv (a b : List Rw) : PyData.eqv (webD a) (webD b) = decide (a = b) := by
  rw [webD, webD, PyData.eqv, rows_eqv]
theorem run_shaped (ss : List Stp) : SeqAt.shaped (runD ss) = true := by
  have e : ∀ l : List Stp, PyData.canLayAll0 (l.map stepD) = true ∧ PyData.depthAll (l.map stepD) ≤ 1 := by
    intro l
    induction l with
    | nil => exact ⟨by first | rfl | simp [PyData.canLayAll0], by simp [PyData.depthAll]⟩
    | cons x l ih =>
      obtain ⟨i, o⟩ := x
      refine ⟨?_, ?_⟩
      · rw [List.map_cons]
        simp only [PyData.canLayAll0, ih.1, Bool.and_true]
        cases o <;> simp [stepD, optD, PyData.canLay0, PyData.canLayAll0]
      · rw [List.map_cons]
        simp only [PyData.depthAll]
        have := ih.2
        cases o <;> simp [stepD, optD, PyData.depth, PyData.depthAll] <;> omega
  unfold SeqAt.shaped
  have h1 := e ss
  simp only [runD, PyData.canLay0, PyData.depth, h1.1, Bool.true_and]
  have := h1.2
  simp
  omega
end Su
/-! ### KX: a class made where that may raise; a class and a method called with keywords; the truth of an instance -/
namespace Su
open PySem PySem.Spec PyProof.Rows L2
/-- a class that is made with arguments for all it asks -/
structure MakN (P : Program) (w : World) (K : PySem.W.Frag) (mg : Str → Option Value) (base : Heap) (k : Nat) (nm : Str) (C : Addr) (ps : List Str) (sp : Sp) : Prop where
  ex : ∃ (f : Addr) (fd : FuncData), L2.Mk K C f ∧ FnOk P w K mg base CX0 k f fd ps sp ∧ mg nm = some (.ref C) ∧ Binds K fd ps []
/-- .. and may refuse it -/
structure MakX (P : Program) (w : World) (K : PySem.W.Frag) (mg : Str → Option Value) (base : Heap) (k : Nat) (nm : Str) (C : Addr) (ps : List Str) (sp : Sp) : Prop where
  ex : ∃ (f : Addr) (fd : FuncData), L2.Mk K C f ∧ FnOk P w K mg base (L2.CX P w) k f fd ps sp ∧ mg nm = some (.ref C) ∧ Binds K fd ps []
/-- with keywords -/
structure MakK (P : Program) (w : World) (K : PySem.W.Frag) (mg : Str → Option Value) (base : Heap) (k : Nat) (nm : Str) (C : Addr) (n : Nat) (ks : List Str) (gV : List V → List V → List V) (sp : Sp) : Prop where
  ex : ∃ (f : Addr) (fd : FuncData) (ps : List Str) (g : List Value → List Value → List Value), L2.Mk K C f ∧ FnOk P w K mg base CX0 k f fd ps sp ∧ mg nm = some (.ref C) ∧ KBn K fd ps (n + 1) ks g gV
/-- a method called by keywords alone -/
structure MetXK (P : Program) (w : World) (K : PySem.W.Frag) (mg : Str → Option Value) (base : Heap) (k : Nat) (C : Addr) (m : Str) (ks : List Str) (gV : List V → List V → List V) (sp : Sp) : Prop where
  ex : ∃ (f : Addr) (fd : FuncData) (ps : List Str) (g : List Value → List Value → List Value), Cls K C ∧ Meth K C m f ∧ FnOk P w K mg base (L2.CX P w) k f fd ps sp ∧ KBn K fd ps 1 ks g gV
section
variable {X : Cx} {CX : CXT} {k j n : Nat} {f C : Addr} {fd : FuncData} {nm x m : Str} {ps ks : List Str} {sp : Sp} {ds : List Value} {dvs : List V} {E : L2.St → XK} {o e : Expr} {es : List Expr} {kws : List Keyword} {t tk : TA} {ta : TE} {pos p apos : Pos} {W : WX} {g : List Value → List Value → List Value} {gV : List V → List V → List V}
theorem pe_makeN (c : MakN X.prog X.w X.K X.mg X.base k nm C ps sp) (hr : Room j X.A) (hk : k + 1 ≤ j) (hg : Gl X nm) (ha : PA X (e :: es) t)
    (hdb : (nm == ("__debug__" : Str)) = false := by decide) (he : starEach (e :: es) X.env = (false, eval e X.env) :: starEach es X.env := by rfl) (hpl : (backTo pos (starEach es X.env)).any (·.1) = false := by rfl) :
    PE X (.Call (.Name nm p) (e :: es) [] pos) (tMake C sp [] E0 t) := by
  obtain ⟨f, fd, M, F, hm, b⟩ := c.ex
  exact pe_make M F (hr.mono hk) hg hm b .nil (fun _ _ _ _ _ _ _ h => h.elim) ha (hdb := hdb) (he := he) (hpl := hpl)
/-- what a making tells, where what is let out may look at the slots -/
def tMakeS (C : Addr) (sp : Sp) (dvs : List V) (E : L2.St → XK) (t : TA) : TE := fun σ H Q => t σ H fun vs H1 => ∀ x dx, H1 x = none → H1 dx = none → dx ≠ x →
  sp (.ref x :: (vs ++ dvs)) (upd (upd H1 dx (.own x)) x (.ins C dx [])) (fun v H2 => v = .non ∧ Q (.ref x) H2) (E σ)
theorem run_makeS {pins : List (Addr × Obj)} {σ : L2.St} {H : Hp} {s : Shared} {Q : VK} {us : List Value} {vs : List V} (M : L2.Mk X.K C f) (F : FnOk X.prog X.w X.K X.mg X.base CX k f fd ps sp) (hr : Room (k + 1) X.A) (hb : Binds X.K fd ps ds) (hd : Vals dvs ds)
    (hx : PassesAt CX X σ (E σ)) (I : Inv X pins σ H s) (r : Vals vs us)
    (h : ∀ x dx, H x = none → H dx = none → dx ≠ x → sp (.ref x :: (vs ++ dvs)) (upd (upd H dx (.own x)) x (.ins C dx [])) (fun v H2 => v = .non ∧ Q (.ref x) H2) (E σ)) :
    wpAny (model X.prog X.w) X.A (call (.ref C) us) (EP X pins σ Q) X.xe s := by
  have I2 := Inv.made (C := C) I
  have hq := h (s.heap.objs.size + 1) s.heap.objs.size (I.hok.fresh (Nat.le_succ _)) (I.hok.fresh (Nat.le_refl _)) (Nat.ne_of_lt (Nat.lt_succ_self _))
  have r2 : Vals (V.ref (s.heap.objs.size + 1) :: (vs ++ dvs)) (Value.ref (s.heap.objs.size + 1) :: (us ++ ds)) := .cons rfl (r.append hd)
  have hl : (Value.ref (s.heap.objs.size + 1) :: us ++ ds).length = ps.length := r2.length.symm.trans (F.len _ _ _ _ hq)
  refine wpAny_call (make_map (f := f) I.kIn M.makes M.init (beq_iff_eq.mp M.fn) (codeAny_mono (F.run _ X.stack _ _ ⟨Value.ref (s.heap.objs.size + 1) :: us, []⟩ (Value.ref (s.heap.objs.size + 1) :: (us ++ ds)) _ _ (E σ) (hr.make C us [])
    (I2.env0.make C us []) (hb _ (Value.ref (s.heap.objs.size + 1) :: us) I2.kIn hl) r2 hq) fun r s' q => ?_))
  rcases r with z | z
  · exact hx pins _ _ z s' I2 q
  · cases z with
    | ret u =>
      obtain ⟨v, H', I3, rv, rfl, q3⟩ := I2.after q
      exact ⟨rv, .ref (s.heap.objs.size + 1), H', I3, rfl, q3⟩
    | _ => exact q.elim
theorem pe_makeX (tw : Takes X W) (c : MakX X.prog X.w X.K X.mg X.base k nm C ps sp) (hr : Room j X.A) (hk : k + 1 ≤ j) (hg : Gl X nm) (ha : PA X (e :: es) t)
    (hdb : (nm == ("__debug__" : Str)) = false := by decide) (he : starEach (e :: es) X.env = (false, eval e X.env) :: starEach es X.env := by rfl) (hpl : (backTo pos (starEach es X.env)).any (·.1) = false := by rfl) :
    PE X (.Call (.Name nm p) (e :: es) [] pos) (tMakeS C sp [] (WE W) t) := by
  obtain ⟨f, fd, M, F, hm, b⟩ := c.ex
  refine ⟨fun pins s σ H Q I h => ?_⟩
  refine wpAny_Call_Name_kw (ld_glob I hg hm ?_ hdb)
  refine PySem.W.callWith_K (h₀ := X.base) I.ok.mod.kin M.kp (thn (ha.run pos pins s σ H _ I h) fun us s1 ⟨vs, H1, I1, r, q⟩ => ⟨I1.kIn, ?_⟩) he hpl
  exact run_makeS M F (hr.mono hk) b .nil (passAt tw σ) I1 r q
theorem pe_makeKW (c : MakK X.prog X.w X.K X.mg X.base k nm C n ks gV sp) (hr : Room j X.A) (hk : k + 1 ≤ j) (hg : Gl X nm) (ha : PA X (e :: es) t) (hkw : PK X kws tk)
    (hall : (backToKw pos (keywordEach kws X.env)).all (·.1.isSome) = true := by rfl) (hks : (backToKw pos (keywordEach kws X.env)).filterMap (·.1) = ks := by rfl) (hdb : (nm == ("__debug__" : Str)) = false := by decide)
    (he : starEach (e :: es) X.env = (false, eval e X.env) :: starEach es X.env := by rfl) (hpl : ((backTo pos (starEach (e :: es) X.env)).any (·.1) || (backToKw pos (keywordEach kws X.env)).any (·.1.isNone)) = false := by rfl) :
    PE X (.Call (.Name nm p) (e :: es) kws pos) (tMakeK C n ks.length sp gV (fun _ _ _ => False) t tk) := by
  obtain ⟨f, fd, ps, g, M, F, hm, b⟩ := c.ex
  exact pe_makeK M F (hr.mono hk) hg hm b (fun _ _ _ _ _ _ _ h => h.elim) ha hkw (hall := hall) (hks := hks) (hdb := hdb) (he := he) (hpl := hpl)
theorem run_fnKS {pins : List (Addr × Obj)} {σ : L2.St} {H : Hp} {s : Shared} {Q : VK} {us ws : List Value} {vs zs : List V} (F : FnOk X.prog X.w X.K X.mg X.base CX k f fd ps sp) (hr : Room k X.A) (hb : KBn X.K fd ps n ks g gV) (hx : PassesAt CX X σ (E σ))
    (I : Inv X pins σ H s) (r : Vals vs us) (rz : Vals zs ws) (l1 : vs.length = n) (l2 : zs.length = ks.length) (h : sp (gV vs zs) H Q (E σ)) : wpAny (model X.prog X.w) X.A (call (.ref f) us (ks.zip ws)) (EP X pins σ Q) X.xe s := by
  refine wpAny_call (codeAny_mono (F.run X.A X.stack s H ⟨us, ks.zip ws⟩ (g us ws) (gV vs zs) Q (E σ) hr I.env0 (hb.to s us ws I.kIn (r.length.symm.trans l1) (rz.length.symm.trans l2)) (hb.rel r rz) h) fun r s' hq => ?_)
  cases r with
  | error e => exact hx pins H s e s' I hq
  | ok fl =>
    cases fl with
    | ret u => exact I.after hq
    | next => exact False.elim hq
    | brk => exact False.elim hq
    | cont => exact False.elim hq
def tMethXK (C : Addr) (m : Str) (q : Nat) (sp : Sp) (gV : List V → List V → List V) (E : L2.St → XK) (ta : TE) (tk : TA) : TE := fun σ H Q => ta σ H fun x H1 => ∃ a dx fs, x = .ref a ∧ H1 a = some (.ins C dx fs) ∧ fs.lookup m = none ∧ tk σ H1 fun zs H2 => zs.length = q ∧ sp (gV [x] zs) H2 Q (E σ)
theorem pe_mtXK {pl : Sem Bool} (tw : Takes X W) (c : MetXK X.prog X.w X.K X.mg X.base k C m ks gV sp) (hr : Room j X.A) (hk : k ≤ j) (he : PE X o ta) (hkw : PK X kws tk)
    (hall : (backToKw pos (keywordEach kws X.env)).all (·.1.isSome) = true := by rfl) (hks : (backToKw pos (keywordEach kws X.env)).filterMap (·.1) = ks := by rfl)
    (hpl : ((backTo pos (starEach [] X.env)).any (·.1) || (backToKw pos (keywordEach kws X.env)).any (·.1.isNone)) = false := by rfl)
    (ht : eval (.Call (.Attribute o m apos) [] kws pos) X.env = (do
      let ov ← eval o X.env
      standAt apos.atName
      let (f, first) ← holding [ov] (getMethod ov m pl)
      callWith pos f first (backTo pos (starEach [] X.env)) (backToKw pos (keywordEach kws X.env))) := by rfl) :
    PE X (.Call (.Attribute o m apos) [] kws pos) (tMethXK C m ks.length sp gV (WE W) ta tk) := by
  obtain ⟨f, fd, ps, g, c, hm, F, hb⟩ := c.ex
  refine ⟨fun pins s σ H Q I h => ?_⟩
  refine PySem.W.methodCall_KW (pl := pl) (thn (he.run pins s σ H _ I h) fun u s1 ⟨x, H1, I1, rx, a, dx, fs, ex, ea, l, q⟩ => ?_) ht
  subst ex
  obtain rfl : u = Value.ref a := rx
  refine getmeth_ok I1 ea c hm l ?_
  refine PySem.W.callWith_KW0 (first := [.ref a]) (h₀ := X.base) I.ok.mod.kin hm.kp hall (thn (hkw.run pos pins s1 σ H1 _ I1 q) fun ws s2 ⟨zs, H2, I2, rz, l2, q2⟩ => ⟨I2.kIn, ?_⟩) hpl
  rw [hks]
  exact run_fnKS (us := [.ref a]) (vs := [.ref a]) F (hr.mono hk) hb (passAt tw σ) I2 (.cons rfl .nil) rz rfl l2 q2
/-- an instance without __bool__ as a test, by its length -/
def tTruI (C : Addr) (sp : Sp) (t : TE) : TT := fun σ H Q => t σ H fun x H1 => ∃ a dx fs, x = .ref a ∧ H1 a = some (.ins C dx fs) ∧ sp [.ref a] H1 (fun v H' => ∃ n : Int, v = .int n ∧ (0 ≤ n ∧ n < 2 ^ 63) ∧ Q (n != 0) H') E0
theorem pt_inst {t : TE} (M : MetD X.prog X.w X.K X.mg X.base k C "__len__" sp) (nb : PySem.W.findIn X.K (.ref C) "__bool__" = some none) (hg : X.A.guards = some []) (hr : Room j X.A) (hk : k + 1 ≤ j) (h : PE X e t)
    (he : ∀ whole, isTrue e X.env whole = (do let v ← whole; standAt e.pos; holding [v] (truthy v)) := by intro _; rfl) : PT X e (tTruI C sp t) := by
  obtain ⟨f, fd, hs, hf, F, hb⟩ := M.ex
  refine ⟨fun pins s σ H Q I hw => ?_⟩
  refine isTrue_plain (thn (h.run pins s σ H _ I hw) fun v s1 ⟨x, H1, I1, r1, q1⟩ => ?_) (he _)
  obtain ⟨a, dx, fs, rfl, ea, hsp⟩ := q1
  obtain rfl : v = Value.ref a := r1
  obtain ⟨mA, J, _⟩ := ins_get I1.hok ea
  obtain ⟨od, J, _⟩ := J.look
  have sb : Sub X (k + 1) X.A := ⟨hr.mono hk, rfl⟩
  refine truthy_len I1.kIn J nb hs hf ?_
  refine wpAny_mono (run_fnG sb.in1 hg F hb I1 (vs := [.ref a]) (.cons rfl .nil) hsp) (fun u s' z => ?_) (fun _ _ z => z)
  obtain ⟨v, H', I', rv, n, rfl, h01, q⟩ := z
  obtain ⟨t, rfl⟩ := rv
  exact ⟨h01, H', I'.tok _, q⟩
end
end Su
/-! ### W1G: how a row of a web is looked at, of a thing of any kind -/
namespace Su.GW
open PySem PySem.Spec PyProof.Rows L2
structure GbW (mg : Str → Option Value) : Prop where
  last : ∃ t, mg "LAST_ROOM" = some (.int 99 t)
  rows : ∃ t, mg "MOST_ROWS" = some (.int 80 t)
  rooms : ∃ t, mg "MOST_ROOMS" = some (.int 12 t)
def wholeG : G → Bool
  | .int _ => true
  | _ => false
/-- a whole number from 0, below n -/
def inG (n : Int) : G → Bool
  | .int i => decide (0 ≤ i) && decide (i < n)
  | _ => false
def valI : G → Int
  | .int i => i
  | _ => 0
def ups (ns : List Int) : List Bool := (ns.zip (ns.drop 1)).map fun p => decide (p.1 < p.2)
def risG (n : Int) (gs : List G) : Bool := (gs.map (inG n)).all id && (ups (gs.map valI)).all id
def roomsG (lo hi : Int) : G → Bool
  | .tup gs => (decide (lo ≤ (gs.length : Int)) && decide ((gs.length : Int) ≤ hi)) && risG 100 gs
  | _ => false
def tosG (n : Int) : G → Bool
  | .tup gs => decide ((gs.length : Int) ≤ n) && risG n gs
  | _ => false
def rowG (n : Int) : G → Bool
  | .tup [x, y] => roomsG 0 6 x && tosG n y
  | _ => false
theorem ups_get {ns : List Int} {i : Nat} {a b : Int} (e1 : ns[i]? = some a) (e2 : ns[1 + i]? = some b) : (ups ns)[i]? = some (decide (a < b)) := by
  unfold ups
  have z : (ns.zip (ns.drop 1))[i]? = some (a, b) := List.getElem?_zip_eq_some.mpr ⟨e1, by rw [List.getElem?_drop]; exact e2⟩
  rw [List.getElem?_map, z]
  rfl
theorem take_one {α : Type} {l : List α} {i : Nat} {x : α} (e : l[i]? = some x) : l.take (i + 1) = l.take i ++ [x] := by
  rw [List.take_add_one, e]
  rfl
theorem ints_of_all {p : Addr} {H : Hp} {n : Int} : ∀ {vs : List V} {gs : List G}, TgL p H vs gs → (gs.map (inG n)).all id = true → vs = (gs.map valI).map V.int
  | _, _, .nil, _ => rfl
  | _, _, .cons (d := d) h t, e => by
    rw [List.map_cons, List.all_cons, Bool.and_eq_true] at e
    rw [List.map_cons, List.map_cons, ← ints_of_all t e.2]
    cases h with
    | int i => rfl
    | _ => cases e.1
def spWhole : Sp := fun vs H Q _ => ∃ (p : Addr) (v : V) (g : G), vs = [v] ∧ Tg p H v g ∧ Q (.bl (wholeG g)) H
def spRoom : Sp := fun vs H Q _ => ∃ (p : Addr) (v : V) (g : G), vs = [v] ∧ Tg p H v g ∧ Q (.bl (inG 100 g)) H
def spRising : Sp := fun vs H Q _ => ∃ (a : Addr) (ns : List Int), vs = [.ref a] ∧ T2 H a (ns.map V.int) ∧ ns.length ≤ 1000 ∧ ∀ H', Same H H' → Q (.bl ((ups ns).all id)) H'
def spRooms : Sp := fun vs H Q _ => ∃ (p : Addr) (v : V) (g : G) (lo hi : Int), vs = [v, .int lo, .int hi] ∧ Tg p H v g ∧ hi ≤ 1000 ∧ ∀ H', Same H H' → Q (.bl (roomsG lo hi g)) H'
def spTos : Sp := fun vs H Q _ => ∃ (p : Addr) (v : V) (g : G) (n : Int), vs = [v, .int n] ∧ Tg p H v g ∧ n ≤ 1000 ∧ ∀ H', Same H H' → Q (.bl (tosG n g)) H'
def spRow : Sp := fun vs H Q _ => ∃ (p : Addr) (v : V) (g : G) (n : Int), vs = [v, .int n] ∧ Tg p H v g ∧ n ≤ 1000 ∧ ∀ H', Same H H' → Q (.bl (rowG n g)) H'
theorem sc_is_whole : FnScope ["thing"] ["thing"] (defScope s_is_whole) := ⟨rfl, rfl, rfl, by decide +kernel, rfl, by decide +kernel, by decide +kernel⟩
theorem sc_is_room : FnScope ["thing"] ["thing"] (defScope s_is_room) := ⟨rfl, rfl, rfl, by decide +kernel, rfl, by decide +kernel, by decide +kernel⟩
theorem sc_are_rising : FnScope ["numbers", "one", "other"] ["numbers"] (defScope s_are_rising) := ⟨rfl, rfl, rfl, by decide +kernel, rfl, by decide +kernel, by decide +kernel⟩
theorem sc_are_rooms : FnScope ["thing", "least", "most", "room"] ["thing", "least", "most"] (defScope s_are_rooms) := ⟨rfl, rfl, rfl, by decide +kernel, rfl, by decide +kernel, by decide +kernel⟩
theorem sc_are_tos : FnScope ["thing", "rows", "to"] ["thing", "rows"] (defScope s_are_tos) := ⟨rfl, rfl, rfl, by decide +kernel, rfl, by decide +kernel, by decide +kernel⟩
theorem sc_is_row : FnScope ["thing", "rows"] ["thing", "rows"] (defScope s_is_row) := ⟨rfl, rfl, rfl, by decide +kernel, rfl, by decide +kernel, by decide +kernel⟩
section
variable {P : Program} {w : World} {K : PySem.W.Frag} {mg : Str → Option Value} {base : Heap}
theorem whole_int {p : Addr} {H : Hp} {v : V} {g : G} (h : Tg p H v g) (e : wholeG g = true) : ∃ i, v = .int i ∧ g = .int i := by
  cases h with
  | int i => exact ⟨i, rfl, rfl⟩
  | _ => cases e
theorem ok_whole (T : At K mg "is_whole" s_is_whole ["thing"]) (B : Bt mg) : Cal P w K mg base 1 "is_whole" ["thing"] spWhole := by
  refine cal_of T sc_is_whole (fun vs H Q E h => ?_) (fun f cdv A outer s H vs Q E hr h => ?_)
  · obtain ⟨p, v, g, rfl, _⟩ := h
    rfl
  · obtain ⟨p, v, g, rfl, hv, q⟩ := h
    refine ⟨_, (pss_one (ps_ret (pe_and (pe_callB call_isi (by rfl) B.isinstance (by decide +kernel) (pa_cons (pv 0) (pa_cons (pe_bltn (v := .ty "int") (u := .type "int") (by rfl) B.int (by decide +kernel) rfl) pa_nil))) (pe_one (pe_not (pe_callB call_isi (by rfl) B.isinstance (by decide +kernel) (pa_cons (pv 0) (pa_cons (pe_bltn (v := .ty "bool") (u := .type "bool") (by rfl) B.bool (by decide +kernel) rfl) pa_nil)))))))), ?_⟩
    refine ⟨_, rfl, v, .ty "int", _, _, _, rfl, .ty "int", hv.ty, kit_int g, _, rfl, iteB (fun e => ?_) (fun e => ?_)⟩
    · refine ⟨_, rfl, v, .ty "bool", _, _, _, rfl, .ty "bool", hv.ty, kit_bool g, _, rfl, ?_⟩
      rw [show (!isBool g) = wholeG g from by cases g <;> first | rfl | cases e]
      exact q
    · rw [show false = wholeG g from by cases g <;> first | rfl | cases e]
      exact q
theorem ok_room (T : At K mg "is_room" s_is_room ["thing"]) (D : GbW mg) (c_is_whole : Cal P w K mg base 1 "is_whole" ["thing"] spWhole) : Cal P w K mg base 2 "is_room" ["thing"] spRoom := by
  obtain ⟨tl, mLast⟩ := D.last
  refine cal_of T sc_is_room (fun vs H Q E h => ?_) (fun f cdv A outer s H vs Q E hr h => ?_)
  · obtain ⟨p, v, g, rfl, _⟩ := h
    rfl
  · obtain ⟨p, v, g, rfl, hv, q⟩ := h
    refine ⟨_, (pss_one (ps_ret (pe_and (pe_own c_is_whole hr (by decide) (by rfl) (pa_cons (pv 0) pa_nil)) (pe_one (pe_chain op_le op_le pe_int (pv 0) (pe_glob (v := .int 99) rfl mLast ⟨_, rfl⟩)))))), ?_⟩
    refine ⟨_, rfl, p, v, g, rfl, hv, _, rfl, iteB (fun e => ?_) (fun e => ?_)⟩
    · obtain ⟨i, rfl, rfl⟩ := whole_int hv e
      refine ⟨_, rfl, _, _, rfl, rfl, _, rfl, iteB (fun e1 => ?_) (fun e1 => ?_)⟩
      · refine ⟨_, _, rfl, rfl, ?_⟩
        have z : decide (i ≤ 99) = inG 100 (.int i) := by
          show decide (i ≤ 99) = (decide (0 ≤ i) && decide (i < 100))
          rw [e1, Bool.true_and]
          exact decide_eq_decide.mpr (by omega)
        rw [← z] at q
        exact q
      · rw [show false = inG 100 (.int i) from by show false = (decide (0 ≤ i) && decide (i < 100)); rw [e1, Bool.false_and]]
        exact q
    · rw [show false = inG 100 g from by cases g <;> first | rfl | cases e]
      exact q
theorem ok_rising (T : At K mg "are_rising" s_are_rising ["numbers"]) (B : Bt mg) : Cal P w K mg base 1 "are_rising" ["numbers"] spRising := by
  refine cal_of T sc_are_rising (fun vs H Q E h => ?_) (fun f cdv A outer s H vs Q E hr h => ?_)
  · obtain ⟨a, ns, rfl, _⟩ := h
    rfl
  · obtain ⟨a, ns, rfl, ha, hl, q⟩ := h
    refine ⟨_, (pss_one (ps_ret (pe_callB (cr_all rfl) (by rfl) B.all (by decide +kernel) (pa_cons (pe_lc (own := [("one", 1), ("other", 2)]) (g := (gTup K 2 (gCons (gName 1) (gCons (gName 2) gNil)))) (tt := tYes) (te := (tOp (rI0 fun i j => .bl (decide (i < j))) (tVar 1) (tVar 2))) (by rfl) sc_are_rising.nd (RZ.pi_zipA (by rfl) B.zip (pa_cons (pv 0) (pa_cons (pe_slice sl_tup2 (pv 0) (po_some pe_int) po_none) pa_nil))) (blkOk_by (own := [("one", 1), ("other", 2)]) (N := ["numbers", "one", "other"]) (sc := defScope s_are_rising) (by decide +kernel)) (fun _ _ _ _ _ => (pg_tup (by rfl) (pgs_cons (pg_name (i := 1) sc_are_rising.nd rfl (Or.inl rfl)) (pgs_cons (pg_name (i := 2) sc_are_rising.nd rfl (Or.inl rfl)) pgs_nil)))) (fun _ _ _ _ _ => pts_nil) (fun _ _ _ _ _ => (pe_cmpR op_lt (pv 1) (pv 2) (nomark _)))) pa_nil)))), ?_⟩
    refine ⟨_, rfl, _, rfl, 1, rfl, a, _, rfl, ha, fun b H1 s1 hb => ?_⟩
    rw [cut_tail, ← List.map_drop] at hb
    refine ⟨a, b, _, _, rfl, .inr ⟨(ha.same s1).sq, hb.sq, fun D nD => ?_⟩⟩
    refine lc_zipT (K := K) (a := a) (b := b) (xs := ns.map V.int) (ys := (ns.drop 1).map V.int) (by rw [List.length_map, List.length_map, List.length_drop]; omega) (fun i H2 => Same H H2 ∧ T2 H2 a (ns.map V.int) ∧ T2 H2 b ((ns.drop 1).map V.int) ∧ H2 D = some (.lst (((ups ns).take i).map V.bl))) ?_ ?_ ?_ ?_
    · have sD : Same H1 (upd H1 D (.lst [])) := same_upd nD
      exact ⟨s1.trans sD, (ha.same s1).same sD, hb.same sD, upd_same⟩
    · rintro i H2 _ ⟨_, h1, h2, _⟩
      exact ⟨h1.sq, h2.sq⟩
    · rintro i x y T H2 hx hy ⟨s2, h1, h2, hD⟩ nT
      have sT : Same H2 (upd H2 T (.tup [x, y])) := same_upd nT
      rw [List.getElem?_map] at hx hy
      rw [List.getElem?_drop] at hy
      obtain ⟨n1, e1, rfl⟩ := Option.map_eq_some_iff.mp hx
      obtain ⟨n2, e2, rfl⟩ := Option.map_eq_some_iff.mp hy
      have hi : i < ns.length := (List.getElem?_eq_some_iff.mp e1).1
      refine ⟨T, _, rfl, SqT.of upd_same, rfl, _, _, rfl, _, _, rfl, rfl, rfl, tyes ?_⟩
      refine ⟨_, rfl, _, rfl, _, _, rfl, rfl, ((ups ns).take i).map V.bl, sT _ _ hD, ?_, ?_⟩
      · rw [List.length_map, List.length_take]
        exact small1000 (by omega)
      · have h3 := sT _ _ hD
        have k3 := (K2.same sT).trans (K2.lst (u := .lst (((ups ns).take (i + 1)).map V.bl)) h3)
        show _ ∧ _ ∧ _ ∧ _
        rw [take_one (ups_get e1 e2), List.map_append] at k3 ⊢
        refine ⟨fun c o ec => ?_, k3 _ _ h1, k3 _ _ h2, upd_same⟩
        rw [upd_ne (ne_of_none (s1 _ _ ec) nD)]
        exact sT _ _ (s2 _ _ ec)
    · rintro H2 ⟨s2, h1, h2, hD⟩
      refine ⟨D, ups ns, rfl, ?_, ?_⟩
      · rw [List.take_of_length_le (by unfold ups; rw [List.length_map, List.length_zip, List.length_map]; omega)] at hD
        exact SqL.of hD
      · exact q H2 s2
theorem ok_rooms (T : At K mg "are_rooms" s_are_rooms ["thing", "least", "most"]) (B : Bt mg) (c_is_room : Cal P w K mg base 2 "is_room" ["thing"] spRoom) (c_are_rising : Cal P w K mg base 1 "are_rising" ["numbers"] spRising) :
    Cal P w K mg base 3 "are_rooms" ["thing", "least", "most"] spRooms := by
  refine cal_of T sc_are_rooms (fun vs H Q E h => ?_) (fun f cdv A outer s H vs Q E hr h => ?_)
  · obtain ⟨p, v, g, lo, hi, rfl, _⟩ := h
    rfl
  · obtain ⟨p, v, g, lo, hi, rfl, hv, hm, q⟩ := h
    refine ⟨_, (pss_cons (ps_if (PW.pt (pw_or (pt_not (pt_val (pe_callB call_isi (by rfl) B.isinstance (by decide +kernel) (pa_cons (pv 0) (pa_cons (pe_bltn (v := .ty "tuple") (u := .type "tuple") (by rfl) B.tuple (by decide +kernel) rfl) pa_nil))))) (pw_or1 (pt_not (pt_chain op_le op_le (pv 1) (pe_callB call_len_seq (by rfl) B.len PySem.boot_len (pa_cons (pv 0) pa_nil)) (pv 2)))))) (pss_one (ps_ret pe_bl)) pss_nil)
      (pss_one (ps_ret (pe_and (pe_callB (cr_all rfl) (by rfl) B.all (by decide +kernel) (pa_cons (pe_lc (own := [("room", 3)]) (g := (gName 3)) (tt := tYes) (te := (tCall spRoom [] E0 (tCons (tVar 3) tNil))) (by rfl) sc_are_rooms.nd (pi_tup (pv 0)) (blkOk_by (own := [("room", 3)]) (N := ["thing", "least", "most", "room"]) (sc := defScope s_are_rooms) (by decide +kernel)) (fun _ _ _ _ _ => (pg_name (i := 3) sc_are_rooms.nd rfl (Or.inl rfl))) (fun _ _ _ _ _ => pts_nil) (fun _ _ _ _ _ => (pe_own c_is_room hr (by decide) (by rfl) (pa_cons (pv 3) pa_nil)))) pa_nil)) (pe_one (pe_own c_are_rising hr (by decide) (by rfl) (pa_cons (pv 0) pa_nil))))))), ?_⟩
    refine ⟨_, rfl, v, .ty "tuple", _, _, _, rfl, .ty "tuple", hv.ty, kit_tuple g, _, rfl, iteB (fun e => ?_) (fun e => ?_)⟩
    · refine iteT ?_
      rw [show false = roomsG lo hi g from by cases g <;> first | rfl | cases e]
      exact q H (Same.refl H)
    cases hv with
    | @tup a vs gs ha t =>
      have hlen : vs.length = gs.length := t.len
      refine ⟨_, rfl, _, rfl, a, _, rfl, .inr ha.sq, _, _, rfl, rfl, _, rfl, iteB (fun e1 => ?_) (fun e1 => ?_)⟩
      · refine ⟨_, rfl, _, _, rfl, rfl, _, rfl, ?_⟩
        rw [hlen] at e1 ⊢
        refine iteB (fun e2 => ?_) (fun e2 => ?_)
        · have e3 : decide ((gs.length : Int) ≤ hi) = false := by simpa using e2
          have z : false = roomsG lo hi (.tup gs) := by
            show false = ((decide (lo ≤ (gs.length : Int)) && decide ((gs.length : Int) ≤ hi)) && risG 100 gs)
            rw [e3, Bool.and_false, Bool.false_and]
          rw [z]
          exact q H (Same.refl H)
        · have e3 : decide ((gs.length : Int) ≤ hi) = true := by simpa using e2
          have small : gs.length ≤ 1000 := by
            have := of_decide_eq_true e3
            omega
          have z : roomsG lo hi (.tup gs) = risG 100 gs := by
            show ((decide (lo ≤ (gs.length : Int)) && decide ((gs.length : Int) ≤ hi)) && risG 100 gs) = _
            rw [e1, e3, Bool.true_and, Bool.true_and]
          refine ⟨_, rfl, a, rfl, ⟨_, ha.sq⟩, fun D nD => ?_⟩
          refine lc_tup (K := K) (a := a) (xs := vs) (fun i H2 => Same H H2 ∧ T2 H2 a vs ∧ H2 D = some (.lst (((gs.map (inG 100)).take i).map V.bl))) ?_ ?_ ?_ ?_
          · have sD : Same H (upd H D (.lst [])) := same_upd nD
            exact ⟨sD, ha.same sD, upd_same⟩
          · rintro i H2 _ ⟨_, h3, _⟩
            exact h3.sq
          · rintro i x H2 hx ⟨s2, h3, hD⟩
            obtain ⟨g1, e4, tg⟩ := t.get hx
            have hi : i < gs.length := (List.getElem?_eq_some_iff.mp e4).1
            refine ⟨rfl, tyes ?_⟩
            refine ⟨_, rfl, p, x, g1, rfl, tg.keep (Keeps.same s2), ((gs.map (inG 100)).take i).map V.bl, hD, (by rw [List.length_map, List.length_take, List.length_map]; exact small1000 (by omega)), ?_⟩
            rw [take_one (x := inG 100 g1) (by rw [List.getElem?_map, e4]; rfl), List.map_append]
            refine ⟨fun c o ec => ?_, K2.lst hD _ _ h3, upd_same⟩
            rw [upd_ne (ne_of_none ec nD)]
            exact s2 _ _ ec
          · rintro H2 ⟨s2, h3, hD⟩
            rw [List.take_of_length_le (by rw [List.length_map]; omega)] at hD
            refine ⟨D, gs.map (inG 100), rfl, SqL.of hD, _, rfl, iteB (fun e5 => ?_) (fun e5 => ?_)⟩
            · rw [ints_of_all t e5] at h3
              refine ⟨_, rfl, a, _, rfl, h3, (by rw [List.length_map]; exact small), fun H3 s3 => ?_⟩
              have q3 := q H3 (s2.trans s3)
              rw [z] at q3
              unfold risG at q3
              rw [e5, Bool.true_and] at q3
              exact q3
            · have q3 := q H2 s2
              rw [z] at q3
              unfold risG at q3
              rw [e5, Bool.false_and] at q3
              exact q3
      · refine ⟨_, rfl, iteT ?_⟩
        rw [hlen] at e1
        have z : false = roomsG lo hi (.tup gs) := by
          show false = ((decide (lo ≤ (gs.length : Int)) && decide ((gs.length : Int) ≤ hi)) && risG 100 gs)
          rw [e1, Bool.false_and, Bool.false_and]
        rw [z]
        exact q H (Same.refl H)
    | _ => cases e
theorem ok_tos (T : At K mg "are_tos" s_are_tos ["thing", "rows"]) (B : Bt mg) (c_is_whole : Cal P w K mg base 1 "is_whole" ["thing"] spWhole) (c_are_rising : Cal P w K mg base 1 "are_rising" ["numbers"] spRising) :
    Cal P w K mg base 2 "are_tos" ["thing", "rows"] spTos := by
  refine cal_of T sc_are_tos (fun vs H Q E h => ?_) (fun f cdv A outer s H vs Q E hr h => ?_)
  · obtain ⟨p, v, g, n, rfl, _⟩ := h
    rfl
  · obtain ⟨p, v, g, n, rfl, hv, hm, q⟩ := h
    refine ⟨_, (pss_cons (ps_if (PW.pt (pw_or (pt_not (pt_val (pe_callB call_isi (by rfl) B.isinstance (by decide +kernel) (pa_cons (pv 0) (pa_cons (pe_bltn (v := .ty "tuple") (u := .type "tuple") (by rfl) B.tuple (by decide +kernel) rfl) pa_nil))))) (pw_or1 (pt_cmpR op_gt (pe_callB call_len_seq (by rfl) B.len PySem.boot_len (pa_cons (pv 0) pa_nil)) (pv 1) (nomark _))))) (pss_one (ps_ret pe_bl)) pss_nil)
      (pss_one (ps_ret (pe_and (pe_callB (cr_all rfl) (by rfl) B.all (by decide +kernel) (pa_cons (pe_lc (own := [("to", 2)]) (g := (gName 2)) (tt := tYes) (te := (tAndV (tCall spWhole [] E0 (tCons (tVar 2) tNil)) (tChain (rI0 fun i j => .bl (decide (i ≤ j))) (rI0 fun i j => .bl (decide (i < j))) (tC (.int 0)) (tVar 2) (tVar 1)))) (by rfl) sc_are_tos.nd (pi_tup (pv 0)) (blkOk_by (own := [("to", 2)]) (N := ["thing", "rows", "to"]) (sc := defScope s_are_tos) (by decide +kernel)) (fun _ _ _ _ _ => (pg_name (i := 2) sc_are_tos.nd rfl (Or.inl rfl))) (fun _ _ _ _ _ => pts_nil) (fun _ _ _ _ _ => (pe_and (pe_own c_is_whole hr (by decide) (by rfl) (pa_cons (pv 2) pa_nil)) (pe_one (pe_chain op_le op_lt pe_int (pv 2) (pv 1)))))) pa_nil)) (pe_one (pe_own c_are_rising hr (by decide) (by rfl) (pa_cons (pv 0) pa_nil))))))), ?_⟩
    refine ⟨_, rfl, v, .ty "tuple", _, _, _, rfl, .ty "tuple", hv.ty, kit_tuple g, _, rfl, iteB (fun e => ?_) (fun e => ?_)⟩
    · refine iteT ?_
      rw [show false = tosG n g from by cases g <;> first | rfl | cases e]
      exact q H (Same.refl H)
    cases hv with
    | @tup a vs gs ha t =>
      have hlen : vs.length = gs.length := t.len
      refine ⟨_, rfl, a, _, rfl, .inr ha.sq, _, rfl, _, _, rfl, rfl, _, rfl, ?_⟩
      rw [hlen]
      refine iteB (fun e1 => ?_) (fun e1 => ?_)
      · have e3 : decide ((gs.length : Int) ≤ n) = false := decide_eq_false (by have := of_decide_eq_true e1; omega)
        have z : false = tosG n (.tup gs) := by
          show false = (decide ((gs.length : Int) ≤ n) && risG n gs)
          rw [e3, Bool.false_and]
        rw [z]
        exact q H (Same.refl H)
      · have e3 : decide ((gs.length : Int) ≤ n) = true := decide_eq_true (by have := of_decide_eq_false e1; omega)
        have small : gs.length ≤ 1000 := by
          have := of_decide_eq_true e3
          omega
        have z : tosG n (.tup gs) = risG n gs := by
          show (decide ((gs.length : Int) ≤ n) && risG n gs) = _
          rw [e3, Bool.true_and]
        refine ⟨_, rfl, a, rfl, ⟨_, ha.sq⟩, fun D nD => ?_⟩
        refine lc_tup (K := K) (a := a) (xs := vs) (fun i H2 => Same H H2 ∧ T2 H2 a vs ∧ H2 D = some (.lst (((gs.map (inG n)).take i).map V.bl))) ?_ ?_ ?_ ?_
        · have sD : Same H (upd H D (.lst [])) := same_upd nD
          exact ⟨sD, ha.same sD, upd_same⟩
        · rintro i H2 _ ⟨_, h3, _⟩
          exact h3.sq
        · rintro i x H2 hx ⟨s2, h3, hD⟩
          obtain ⟨g1, e4, tg⟩ := t.get hx
          have hi : i < gs.length := (List.getElem?_eq_some_iff.mp e4).1
          have fin : ∀ b : Bool, b = inG n g1 → ∃ acc, H2 D = some (.lst acc) ∧ acc.length < sizeLine ∧ (Same H (upd H2 D (.lst (acc ++ [V.bl b]))) ∧ T2 (upd H2 D (.lst (acc ++ [V.bl b]))) a vs ∧ (upd H2 D (.lst (acc ++ [V.bl b]))) D = some (.lst (((gs.map (inG n)).take (i + 1)).map V.bl))) := by
            rintro b rfl
            refine ⟨((gs.map (inG n)).take i).map V.bl, hD, (by rw [List.length_map, List.length_take, List.length_map]; exact small1000 (by omega)), ?_⟩
            rw [take_one (x := inG n g1) (by rw [List.getElem?_map, e4]; rfl), List.map_append]
            refine ⟨fun c o ec => ?_, K2.lst hD _ _ h3, upd_same⟩
            rw [upd_ne (ne_of_none ec nD)]
            exact s2 _ _ ec
          refine ⟨rfl, tyes ?_⟩
          refine ⟨_, rfl, p, x, g1, rfl, tg.keep (Keeps.same s2), _, rfl, iteB (fun e5 => ?_) (fun e5 => ?_)⟩
          · obtain ⟨j, rfl, rfl⟩ := whole_int tg e5
            refine ⟨_, rfl, _, _, rfl, rfl, _, rfl, iteB (fun e6 => ?_) (fun e6 => ?_)⟩
            · refine ⟨_, rfl, _, _, rfl, rfl, fin _ ?_⟩
              show decide (j < n) = (decide (0 ≤ j) && decide (j < n))
              rw [e6, Bool.true_and]
            · refine fin _ ?_
              show false = (decide (0 ≤ j) && decide (j < n))
              rw [e6, Bool.false_and]
          · refine fin _ ?_
            cases g1 <;> first | rfl | cases e5
        · rintro H2 ⟨s2, h3, hD⟩
          rw [List.take_of_length_le (by rw [List.length_map]; omega)] at hD
          refine ⟨D, gs.map (inG n), rfl, SqL.of hD, _, rfl, iteB (fun e5 => ?_) (fun e5 => ?_)⟩
          · rw [ints_of_all t e5] at h3
            refine ⟨_, rfl, a, _, rfl, h3, (by rw [List.length_map]; exact small), fun H3 s3 => ?_⟩
            have q3 := q H3 (s2.trans s3)
            rw [z] at q3
            unfold risG at q3
            rw [e5, Bool.true_and] at q3
            exact q3
          · have q3 := q H2 s2
            rw [z] at q3
            unfold risG at q3
            rw [e5, Bool.false_and] at q3
            exact q3
    | _ => cases e
theorem ok_row (T : At K mg "is_row" s_is_row ["thing", "rows"]) (B : Bt mg) (c_are_rooms : Cal P w K mg base 3 "are_rooms" ["thing", "least", "most"] spRooms) (c_are_tos : Cal P w K mg base 2 "are_tos" ["thing", "rows"] spTos) :
    Cal P w K mg base 4 "is_row" ["thing", "rows"] spRow := by
  refine cal_of T sc_is_row (fun vs H Q E h => ?_) (fun f cdv A outer s H vs Q E hr h => ?_)
  · obtain ⟨p, v, g, n, rfl, _⟩ := h
    rfl
  · obtain ⟨p, v, g, n, rfl, hv, hm, q⟩ := h
    refine ⟨_, (pss_cons (ps_if (PW.pt (pw_or (pt_not (pt_val (pe_callB call_isi (by rfl) B.isinstance (by decide +kernel) (pa_cons (pv 0) (pa_cons (pe_bltn (v := .ty "tuple") (u := .type "tuple") (by rfl) B.tuple (by decide +kernel) rfl) pa_nil))))) (pw_or1 (pt_cmpR op_ne (pe_callB call_len_seq (by rfl) B.len PySem.boot_len (pa_cons (pv 0) pa_nil)) pe_int (nomark _))))) (pss_one (ps_ret pe_bl)) pss_nil)
      (pss_one (ps_ret (pe_and (pe_own c_are_rooms hr (by decide) (by rfl) (pa_cons (pe_ix ix_tup (pv 0) pe_int (fun _ _ => rfl)) (pa_cons pe_int (pa_cons pe_int pa_nil)))) (pe_one (pe_own c_are_tos hr (by decide) (by rfl) (pa_cons (pe_ix ix_tup (pv 0) pe_int (fun _ _ => rfl)) (pa_cons (pv 1) pa_nil)))))))), ?_⟩
    refine ⟨_, rfl, v, .ty "tuple", _, _, _, rfl, .ty "tuple", hv.ty, kit_tuple g, _, rfl, iteB (fun e => ?_) (fun e => ?_)⟩
    · refine iteT ?_
      rw [show false = rowG n g from by cases g <;> first | rfl | cases e]
      exact q H (Same.refl H)
    cases hv with
    | @tup a vs gs ha t =>
      have hlen : vs.length = gs.length := t.len
      refine ⟨_, rfl, a, _, rfl, .inr ha.sq, rfl, _, rfl, ?_⟩
      match gs, vs, t, hlen, ha, q with
      | [], [], _, _, _, q => exact iteT (q H (Same.refl H))
      | [_], [_], _, _, _, q => exact iteT (q H (Same.refl H))
      | _ :: _ :: _ :: _, _ :: _ :: _ :: _, _, _, _, q =>
        refine iteB (fun _ => q H (Same.refl H)) (fun z => ?_)
        simp at z
        omega
      | [x, y], [v1, v2], .cons tx (.cons ty _), _, ha, q =>
        refine iteNS rfl ?_
        refine ⟨_, rfl, _, _, _, _, rfl, rfl, ha.sq, atI_nat (j := 0) rfl, p, v1, x, 0, 6, rfl, tx, by decide, fun H1 s1 => ?_⟩
        refine ⟨_, rfl, iteB (fun e5 => ?_) (fun e5 => ?_)⟩
        · refine ⟨_, rfl, _, _, _, _, rfl, rfl, (ha.same s1).sq, atI_nat (j := 1) rfl, _, rfl, p, v2, y, n, rfl, ty.keep (Keeps.same s1), hm, fun H2 s2 => ?_⟩
          have q3 := q H2 (s1.trans s2)
          rw [show rowG n (.tup [x, y]) = (roomsG 0 6 x && tosG n y) from rfl, e5, Bool.true_and] at q3
          exact q3
        · have q3 := q H1 s1
          rw [show rowG n (.tup [x, y]) = (roomsG 0 6 x && tosG n y) from rfl, e5, Bool.false_and] at q3
          exact q3
    | _ => cases e
end
end Su.GW
/-! ### W2G: the rooms of a web; how a thing of any kind is looked at as a web -/
namespace Su.GW
open PySem PySem.Spec PyProof.Rows L2
def spRoomsIn (w : World) : Sp := fun vs H Q _ => ∃ (p : Addr) (rs : List Rw) (A : List Int), vs = [.ref p] ∧ WebAt H p rs ∧ A.length < 1000 ∧ (∀ k ∈ allRooms rs, k ∈ A) ∧
  ∀ (ms : List Int) (u : Addr) (H' : Hp), ms.Pairwise (· < ·) → (∀ k : Int, k ∈ ms ↔ k ∈ allRooms rs) → Same H H' → H u = none → H' u = some (.lst (ms.map V.int)) → Q (.ref u) H'
def rwOf : G → Rw
  | .tup [.tup rs, .tup ts] => (rs.map valI, ts.map valI)
  | _ => ([], [])
/-- the first that is not so -/
def badAt (f : G → Bool) : List G → Option Nat
  | [] => none
  | g :: gs => if f g = true then (badAt f gs).map (· + 1) else some 0
/-- the rooms, each once -/
def oneEach : List Int → List Int
  | [] => []
  | a :: l => if a ∈ oneEach l then oneEach l else a :: oneEach l
theorem oneEach_mem (k : Int) : ∀ l : List Int, k ∈ oneEach l ↔ k ∈ l
  | [] => Iff.rfl
  | a :: l => by
    unfold oneEach
    by_cases h : a ∈ oneEach l
    · rw [if_pos h, oneEach_mem k l, List.mem_cons]
      constructor
      · exact .inr
      · rintro (rfl | z)
        · exact (oneEach_mem k l).mp h
        · exact z
    · rw [if_neg h, List.mem_cons, List.mem_cons, oneEach_mem k l]
theorem oneEach_nodup : ∀ l : List Int, (oneEach l).Nodup
  | [] => List.nodup_nil
  | a :: l => by
    unfold oneEach
    by_cases h : a ∈ oneEach l
    · rw [if_pos h]
      exact oneEach_nodup l
    · rw [if_neg h]
      exact List.nodup_cons.mpr ⟨h, oneEach_nodup l⟩
theorem len_same {a b : List Int} (na : a.Nodup) (nb : b.Nodup) (h : ∀ k, k ∈ a ↔ k ∈ b) : a.length = b.length :=
  Nat.le_antisymm (nodup_few na fun k hk => (h k).mp hk) (nodup_few nb fun k hk => (h k).mpr hk)
theorem badAt_none {f : G → Bool} : ∀ {gs : List G}, (∀ g ∈ gs, f g = true) → badAt f gs = none
  | [], _ => rfl
  | g :: gs, h => by
    unfold badAt
    rw [if_pos (h g List.mem_cons_self), badAt_none fun x hx => h x (List.mem_cons_of_mem _ hx)]
    rfl
theorem badAt_some {f : G → Bool} : ∀ {gs : List G} {i : Nat} {g : G}, (∀ (j : Nat) (x : G), j < i → gs[j]? = some x → f x = true) → gs[i]? = some g → f g = false → badAt f gs = some i
  | [], _, _, _, e, _ => by simp at e
  | x :: gs, 0, g, _, e, b => by
    obtain rfl := (by simpa using e : x = g)
    unfold badAt
    rw [if_neg (by rw [b]; exact Bool.false_ne_true)]
  | x :: gs, i + 1, g, h, e, b => by
    unfold badAt
    rw [if_pos (h 0 x (Nat.succ_pos _) rfl), badAt_some (gs := gs) (i := i) (fun j y hj ey => h (j + 1) y (Nat.succ_lt_succ hj) (by simpa using ey)) (by simpa using e) b]
    rfl
theorem inG_val {n : Int} {g : G} (h : inG n g = true) : 0 ≤ valI g ∧ valI g < n := by
  cases g with
  | int i =>
    have z : (decide (0 ≤ i) && decide (i < n)) = true := h
    rw [Bool.and_eq_true, decide_eq_true_eq, decide_eq_true_eq] at z
    exact z
  | _ => cases h
theorem rowG_shape {n : Int} {g : G} (e : rowG n g = true) : ∃ x y, g = .tup [x, y] ∧ roomsG 0 6 x = true ∧ tosG n y = true := by
  unfold rowG at e
  split at e
  · rw [Bool.and_eq_true] at e
    exact ⟨_, _, rfl, e.1, e.2⟩
  · cases e
theorem roomsG_shape {lo hi : Int} {g : G} (e : roomsG lo hi g = true) : ∃ rs, g = .tup rs ∧ risG 100 rs = true := by
  unfold roomsG at e
  split at e
  · rw [Bool.and_eq_true] at e
    exact ⟨_, rfl, e.2⟩
  · cases e
theorem tosG_shape {n : Int} {g : G} (e : tosG n g = true) : ∃ rs, g = .tup rs ∧ risG n rs = true := by
  unfold tosG at e
  split at e
  · rw [Bool.and_eq_true] at e
    exact ⟨_, rfl, e.2⟩
  · cases e
theorem tup_at {p : Addr} {H : Hp} {v : V} {gs : List G} {n : Int} (h : Tg p H v (.tup gs)) (e : risG n gs = true) : ∃ a, v = .ref a ∧ T2 H a ((gs.map valI).map V.int) ∧ ∀ k ∈ gs.map valI, 0 ≤ k ∧ k < n := by
  unfold risG at e
  rw [Bool.and_eq_true] at e
  cases h with
  | @tup a vs _ ha t =>
    rw [ints_of_all t e.1] at ha
    refine ⟨a, rfl, ha, fun k hk => ?_⟩
    obtain ⟨gk, hg, rfl⟩ := List.mem_map.mp hk
    exact inG_val ((List.all_eq_true.mp e.1) _ (List.mem_map.mpr ⟨gk, hg, rfl⟩))
theorem rowG_at {p : Addr} {H : Hp} {v : V} {g : G} {n : Int} (h : Tg p H v g) (e : rowG n g = true) : RowAt H v (rwOf g) ∧ ∀ k ∈ (rwOf g).1, 0 ≤ k ∧ k < 100 := by
  obtain ⟨x, y, rfl, ex, ey⟩ := rowG_shape e
  obtain ⟨rs, rfl, e1⟩ := roomsG_shape ex
  obtain ⟨ts, rfl, e2⟩ := tosG_shape ey
  cases h with
  | @tup a vs _ ha t =>
    cases t with
    | cons tx t1 =>
      cases t1 with
      | cons ty t2 =>
        cases t2
        obtain ⟨b, rfl, hb, kb⟩ := tup_at tx e1
        obtain ⟨c, rfl, hc, _⟩ := tup_at ty e2
        exact ⟨⟨a, b, c, rfl, ha, hb, hc⟩, kb⟩
theorem rows_at {p : Addr} {H : Hp} {n : Int} : ∀ {vs : List V} {gs : List G}, TgL p H vs gs → (∀ g ∈ gs, rowG n g = true) → RowsAt H vs (gs.map rwOf) ∧ ∀ k ∈ allRooms (gs.map rwOf), 0 ≤ k ∧ k < 100
  | _, _, .nil, _ => ⟨trivial, fun k hk => by cases hk⟩
  | _, _, .cons (d := d) (ds := ds) h t, e => by
    obtain ⟨a1, a2⟩ := rowG_at h (e d List.mem_cons_self)
    obtain ⟨b1, b2⟩ := rows_at t fun g hg => e g (List.mem_cons_of_mem _ hg)
    refine ⟨⟨a1, b1⟩, fun k hk => ?_⟩
    rcases List.mem_append.mp (show k ∈ (rwOf d).1 ++ allRooms (ds.map rwOf) from hk) with z | z
    · exact a2 k z
    · exact b2 k z
/-- none: a web; some r: it is refused, its row r -/
def lookG : G → Option (Option Nat)
  | .lst gs => if 1 ≤ gs.length ∧ gs.length ≤ 80 then (match badAt (rowG gs.length) gs with
    | some i => some (some i)
    | none => if 12 < (oneEach (allRooms (gs.map rwOf))).length then some none else none) else some none
  | _ => some none
def rowV : Option Nat → V
  | none => .non
  | some i => .int i
def spLook (C : Addr) : Sp := fun vs H Q E => ∃ (p : Addr) (v : V) (g : G), vs = [v] ∧ Tg p H v g ∧ (lookG g = none → ∀ H', Same H H' → Q .non H') ∧
  ∀ r, lookG g = some r → ∀ (H' : Hp) (d : Addr), Same H H' → H d = none → H' d = some (.xd [("row", rowV r)]) → E (.ref C) (some d) H'
theorem allRooms_app (a b : List Rw) : allRooms (a ++ b) = allRooms a ++ allRooms b := by
  unfold allRooms
  rw [List.map_append, List.flatten_append]
theorem allRooms_take {rs : List Rw} {i : Nat} {r : Rw} (h : rs[i]? = some r) : allRooms (rs.take (i + 1)) = allRooms (rs.take i) ++ r.1 := by
  rw [List.take_add_one, h, allRooms_app]
  show _ ++ (r.1 ++ []) = _
  rw [List.append_nil]
theorem allRooms_sub {rs : List Rw} {i : Nat} {k : Int} (h : k ∈ allRooms (rs.take i)) : k ∈ allRooms rs := by
  rw [← List.take_append_drop i rs, allRooms_app]
  exact List.mem_append_left _ h
theorem sc_rooms_in : FnScope ["rows", "rooms", "tos", "room"] ["rows"] (defScope s_rooms_in) := ⟨rfl, rfl, rfl, by decide +kernel, rfl, by decide +kernel, by decide +kernel⟩
theorem sc_look_at_web : FnScope ["thing", "number", "row"] ["thing"] (defScope s_look_at_web) := ⟨rfl, rfl, rfl, by decide +kernel, rfl, by decide +kernel, by decide +kernel⟩
section
variable {P : Program} {w : World} {K : PySem.W.Frag} {mg : Str → Option Value} {base : Heap}
theorem ok_rooms_in (T : At K mg "rooms_in" s_rooms_in ["rows"]) (B : Bt mg) : Cal P w K mg base 1 "rooms_in" ["rows"] (spRoomsIn w) := by
  refine cal_of T sc_rooms_in (fun vs H Q E h => ?_) (fun f cdv A outer s H vs Q E hr h => ?_)
  · obtain ⟨p, rs, A, rfl, _⟩ := h
    rfl
  · obtain ⟨p, rs, A, rfl, ⟨ws, hp, hrs⟩, hA, hin, q⟩ := h
    refine ⟨_, (pss_one (ps_ret (pe_callB (cr_sortedS rfl) (by rfl) B.sorted (by decide +kernel) (pa_cons (pe_sc2 (own := [("rooms", 1), ("tos", 2), ("room", 3)]) (vs1 := [3]) (go := (gTup K 2 (gCons (gName 1) (gCons (gName 2) gNil)))) (wn := iTup K (tVar 1)) (gn := (gName 3)) (te := (tVar 3)) (by rfl) sc_rooms_in.nd (pi_list (pv 0)) (blkOk_by (own := [("rooms", 1), ("tos", 2), ("room", 3)]) (N := ["rows", "rooms", "tos", "room"]) (sc := defScope s_rooms_in) (by decide +kernel)) (by decide) (fun _ _ _ _ _ => (pg_tup (by rfl) (pgs_cons (pg_name (i := 1) sc_rooms_in.nd rfl (Or.inl rfl)) (pgs_cons (pg_name (i := 2) sc_rooms_in.nd rfl (Or.inl rfl)) pgs_nil)))) (fun _ _ _ _ _ => (pi_tup (pv 1))) (fun _ _ _ _ _ => (pg_name (i := 3) sc_rooms_in.nd rfl (Or.inl rfl))) (fun _ _ _ _ _ => (pv 3))) pa_nil)))), ?_⟩
    have hwl := hrs.len
    refine ⟨_, rfl, p, rfl, ⟨_, SqL.of hp⟩, fun D nD => ?_⟩
    refine ⟨fun i m H2 => m = ws.length - i ∧ i ≤ ws.length ∧ Same H H2 ∧ SetIs w H2 D (allRooms (rs.take i)), ⟨ws.length, (Nat.sub_zero _).symm, Nat.zero_le _, same_upd nD, ⟨_, 0, [], upd_same, List.nodup_nil, rfl, fun k => by simp, fun k => by simp [allRooms]⟩⟩, ?_⟩
    rintro i m H2 ⟨rfl, hi, s2, set2⟩
    by_cases hlt : i < ws.length
    · have hx : ws[i]? = some ws[i] := List.getElem?_eq_getElem hlt
      obtain ⟨r, er, a, b, c, ea, ha, hb, hc⟩ := hrs.get hx
      refine .inr ⟨⟨ws, ws[i], SqL.of (s2 _ _ hp), hx⟩, fun H3 => Same H H3 ∧ SetIs w H3 D (allRooms (rs.take (i + 1))), fun H' h => ⟨ws.length - (i + 1), by omega, rfl, hlt, h⟩, fun x H' y => ?_⟩
      obtain ⟨e1, y⟩ := y
      have ex : x = .ref a := by
        have z := y ws (SqL.of (s2 _ _ hp))
        rw [hx] at z
        injection z with z
        rw [← z, ea]
      rw [e1]
      clear e1 y
      subst ex
      refine ⟨a, _, rfl, (ha.same s2).sq, rfl, _, _, rfl, _, _, rfl, rfl, rfl, ?_⟩
      refine ⟨_, rfl, b, rfl, ⟨_, (hb.same s2).sq⟩, ?_⟩
      refine ⟨fun j k H3 => k = r.1.length - j ∧ j ≤ r.1.length ∧ Same H H3 ∧ SetIs w H3 D (allRooms (rs.take i) ++ r.1.take j), ⟨r.1.length, (Nat.sub_zero _).symm, Nat.zero_le _, s2, by rw [List.take_zero, List.append_nil]; exact set2⟩, ?_⟩
      rintro j k H3 ⟨rfl, hj, s3, set3⟩
      by_cases hjt : j < r.1.length
      · have hy : (r.1.map V.int)[j]? = some (V.int r.1[j]) := by
          rw [List.getElem?_map, List.getElem?_eq_getElem hjt]
          rfl
        refine .inr ⟨⟨_, _, (hb.same s3).sq, hy⟩, fun H4 => Same H H4 ∧ SetIs w H4 D (allRooms (rs.take i) ++ r.1.take (j + 1)), fun H' h => ⟨r.1.length - (j + 1), by omega, rfl, hjt, h⟩, fun y H' yl => ?_⟩
        obtain ⟨e2, yl⟩ := yl
        have ey : y = .int r.1[j] := by
          have z := yl _ (hb.same s3).sq
          rw [hy] at z
          injection z with z
          exact z.symm
        rw [e2]
        clear e2 yl
        subst ey
        refine ⟨rfl, _, rfl, ?_⟩
        have sub3 : ∀ k ∈ allRooms (rs.take i) ++ r.1.take j, k ∈ A := by
          intro k hk
          rcases List.mem_append.mp hk with z | z
          · exact hin k (allRooms_sub z)
          · refine hin k (allRooms_sub (i := i + 1) ?_)
            rw [allRooms_take er]
            exact List.mem_append_right _ (List.mem_of_mem_take z)
        obtain ⟨S, n, eD, few, nx⟩ := set3.add (A := A) (by omega) sub3 r.1[j]
        refine ⟨_, S, n, rfl, eD, few, fun c o ec => ?_, ?_⟩
        · rw [upd_ne (ne_of_none ec nD)]
          exact s3 _ _ ec
        · rw [List.take_add_one, List.getElem?_eq_getElem hjt, ← List.append_assoc]
          exact nx _ upd_same
      · have e : j = r.1.length := by omega
        subst e
        rw [List.take_length] at set3
        refine .inl ⟨⟨_, (hb.same s3).sq, by rw [List.length_map]; exact Nat.le_refl _⟩, s3, ?_⟩
        rw [allRooms_take er]
        exact set3
    · have e : i = ws.length := by omega
      subst e
      rw [hwl, List.take_length] at set2
      refine .inl ⟨⟨ws, SqL.of (s2 _ _ hp), Nat.le_refl _⟩, ?_⟩
      refine ⟨D, _, rfl, set2, fun ms u pw mem nu => ?_⟩
      exact q ms u _ pw mem (s2.trans (same_upd nu)) (s2.free nu) upd_same
theorem ok_look {C fI : Addr} {newId initId : String} {bmB : List Value} (OW : XC.Own P K mg "NoWeb" "row" C fI "ValueError" newId initId bmB) (T : At K mg "look_at_web" s_look_at_web ["thing"]) (B : Bt mg) (D : GbW mg) (c_is_row : Cal P w K mg base 4 "is_row" ["thing", "rows"] spRow) (c_rooms_in : Cal P w K mg base 1 "rooms_in" ["rows"] (spRoomsIn w)) :
    CalX P w K mg base 5 "look_at_web" ["thing"] (spLook C) := by
  obtain ⟨tr, mRows⟩ := D.rows
  obtain ⟨tm, mRooms⟩ := D.rooms
  refine cal_ofX T sc_look_at_web (fun vs H Q E h => ?_) (fun f cdv A outer s H vs Q E hr h => ?_)
  · obtain ⟨p, v, g, rfl, _⟩ := h
    rfl
  · obtain ⟨p, v, g, rfl, hv, qy, qn⟩ := h
    refine ⟨_, (pss_cons (ps_if (PW.pt (pw_or (pt_not (pt_val (pe_callB call_isi (by rfl) B.isinstance (by decide +kernel) (pa_cons (pv 0) (pa_cons (pe_bltn (v := .ty "list") (u := .type "list") (by rfl) B.list (by decide +kernel) rfl) pa_nil))))) (pw_or1 (pt_not (pt_chain op_le op_le pe_int (pe_callB call_len_seq (by rfl) B.len PySem.boot_len (pa_cons (pv 0) pa_nil)) (pe_glob (v := .int 80) rfl mRows ⟨_, rfl⟩)))))) (pss_one (ps_raiseX rfl OW hr (takes_of rfl rfl rfl rfl) (pa_cons pe_non pa_nil))) pss_nil)
      (pss_cons (ps_for (passes_of rfl) rfl (pi_enum (by rfl) B.enumerate (pa_cons (pv 0) pa_nil)) (pg_tup (by rfl) (pgs_cons (pg_name (i := 1) sc_look_at_web.nd rfl (Or.inl rfl)) (pgs_cons (pg_name (i := 2) sc_look_at_web.nd rfl (Or.inl rfl)) pgs_nil))) (pss_one (ps_if (pt_not (pt_val (pe_own c_is_row hr (by decide) (by rfl) (pa_cons (pv 2) (pa_cons (pe_callB call_len_seq (by rfl) B.len PySem.boot_len (pa_cons (pv 0) pa_nil)) pa_nil))))) (pss_one (ps_raiseX rfl OW hr (takes_of rfl rfl rfl rfl) (pa_cons (pv 1) pa_nil))) pss_nil)))
      (pss_one (ps_if (pt_cmpR op_gt (pe_callB call_len_seq (by rfl) B.len PySem.boot_len (pa_cons (pe_own c_rooms_in hr (by decide) (by rfl) (pa_cons (pv 0) pa_nil)) pa_nil)) (pe_glob (v := .int 12) rfl mRooms ⟨_, rfl⟩) (nomark _)) (pss_one (ps_raiseX rfl OW hr (takes_of rfl rfl rfl rfl) (pa_cons pe_non pa_nil))) pss_nil)))), ?_⟩
    refine ⟨_, rfl, v, .ty "list", _, _, _, rfl, .ty "list", hv.ty, kit_list g, _, rfl, iteB (fun e => ?_) (fun e => ?_)⟩
    · refine iteT ?_
      have z : lookG g = some none := by
        cases g <;> first | rfl | cases e
      exact ⟨_, rfl, fun d hd => qn none z _ d (same_upd hd) hd upd_same⟩
    cases hv with
    | @lst a vs gs na ha t =>
      have hlen : vs.length = gs.length := t.len
      have lk : lookG (.lst gs) = if 1 ≤ gs.length ∧ gs.length ≤ 80 then (match badAt (rowG gs.length) gs with
        | some i => some (some i)
        | none => if 12 < (oneEach (allRooms (gs.map rwOf))).length then some none else none) else some none := rfl
      refine ⟨_, rfl, a, _, rfl, .inl (SqL.of ha), _, _, rfl, rfl, _, rfl, iteB (fun e1 => ?_) (fun e1 => ?_)⟩
      · refine ⟨_, _, rfl, rfl, _, rfl, ?_⟩
        have l1 := of_decide_eq_true e1
        refine iteB (fun e2 => ?_) (fun e2 => ?_)
        · have l2 : ¬ (vs.length : Int) ≤ 80 := by simpa using e2
          have z : lookG (.lst gs) = some none := by
            rw [lk, if_neg (by omega)]
          exact ⟨_, rfl, fun d hd => qn none z _ d (same_upd hd) hd upd_same⟩
        have l2 : (vs.length : Int) ≤ 80 := by simpa using e2
        rw [if_pos (by omega)] at lk
        refine ⟨_, rfl, a, _, rfl, SqL.of ha, ?_⟩
        refine for_enumS (K := K) (a := a) (xs := vs) (fun i σ H2 => ∃ y1 y2 : Option V, σ = [some (.ref a), y1, y2] ∧ Same H H2 ∧ ∀ (j : Nat) (x : G), j < i → gs[j]? = some x → rowG gs.length x = true) ?_ ?_ ?_ ?_
        · exact ⟨none, none, rfl, Same.refl H, fun j x hj => absurd hj (Nat.not_lt_zero _)⟩
        · rintro i σ H2 _ ⟨_, _, _, s2, _⟩
          exact SqL.of (s2 _ _ ha)
        · rintro i x σ H2 T hx ⟨y1, y2, rfl, s2, good⟩ nT
          obtain ⟨g1, e4, tg⟩ := t.get hx
          have sT : Same H2 (upd H2 T (.tup [.int (i : Nat), x])) := same_upd nT
          refine ⟨T, _, rfl, SqT.of upd_same, rfl, _, _, rfl, _, _, rfl, rfl, ?_⟩
          refine ⟨_, rfl, _, rfl, a, _, rfl, .inl (SqL.of (sT _ _ (s2 _ _ ha))), p, x, g1, vs.length, rfl, tg.keep (Keeps.same (s2.trans sT)), by omega, fun H3 s3 => ?_⟩
          have s03 := (s2.trans sT).trans s3
          refine ⟨_, rfl, ?_⟩
          rw [hlen]
          refine iteB (fun e5 => ?_) (fun e5 => ?_)
          · have b : rowG gs.length g1 = false := by simpa using e5
            have z : lookG (.lst gs) = some (some i) := by
              rw [lk, badAt_some good e4 b]
            exact ⟨_, rfl, _, rfl, fun d hd => qn (some i) z _ d (s03.trans (same_upd hd)) (s03.free hd) upd_same⟩
          · have b : rowG gs.length g1 = true := by simpa using e5
            refine ⟨_, _, rfl, s03, fun j y hj ey => ?_⟩
            rcases Nat.lt_succ_iff_lt_or_eq.mp hj with h | rfl
            · exact good j y h ey
            · rw [e4] at ey
              cases ey
              exact b
        · rintro σ H2 ⟨y1, y2, rfl, s2, good⟩
          rw [hlen] at good
          have all : ∀ g ∈ gs, rowG gs.length g = true := fun g hg => by
            obtain ⟨j, hj, ej⟩ := List.getElem_of_mem hg
            exact good j g hj (by rw [List.getElem?_eq_getElem hj, ej])
          obtain ⟨ra, rb⟩ := rows_at t all
          rw [badAt_none all] at lk
          refine ⟨_, rfl, a, gs.map rwOf, (List.range 100).map fun i => ((i : Nat) : Int), rfl, ⟨vs, s2 _ _ ha, ra.keep (K2.same s2)⟩, by rw [List.length_map, List.length_range]; decide, fun k hk => ?_, fun ms u H3 pw mem s3 nu hu => ?_⟩
          · have := rb k hk
            exact List.mem_map.mpr ⟨k.toNat, List.mem_range.mpr (by omega), by omega⟩
          · have lm : ms.length = (oneEach (allRooms (gs.map rwOf))).length := len_same (pw.imp fun h => Int.ne_of_lt h) (oneEach_nodup _) fun k => (mem k).trans (oneEach_mem k _).symm
            refine ⟨u, _, rfl, .inl (SqL.of hu), _, _, rfl, rfl, _, rfl, iteB (fun z => ?_) (fun z => ?_)⟩
            · have l3 := of_decide_eq_true z
              rw [List.length_map] at l3
              have zz : lookG (.lst gs) = some none := by
                rw [lk]
                exact if_pos (by omega)
              exact ⟨_, rfl, fun d hd => qn none zz _ d ((s2.trans s3).trans (same_upd hd)) ((s2.trans s3).free hd) upd_same⟩
            · have l3 := of_decide_eq_false z
              rw [List.length_map] at l3
              have zz : lookG (.lst gs) = none := by
                rw [lk]
                exact if_neg (by omega)
              exact qy zz H3 (s2.trans s3)
      · refine ⟨_, rfl, iteT ?_⟩
        have l1 := of_decide_eq_false e1
        have z : lookG (.lst gs) = some none := by
          rw [lk, if_neg (by omega)]
        exact ⟨_, rfl, fun d hd => qn none z _ d (same_upd hd) hd upd_same⟩
    | _ => cases e
end
end Su.GW
/-! ### L0: steps and undoings of a walk; a walk that is refused -/
namespace Su
open PySem PySem.Spec PyProof.Rows L2
theorem ne_ins_sh {C W dx dk k x : Addr} {H : Hp} {vr vp vk va vl vz vw v1 v2 : V} {nr fr : Int} (hx : H x = some (.ins W dx (wkF vr vp vk va vl))) (hk : H k = some (.ins C dk (shF vz vw v1 v2 nr fr))) : k ≠ x := fun z => by
  rw [z, hx] at hk
  injection hk with hk
  injection hk with _ _ hk
  cases hk
theorem KP.but2 {W dx x l : Addr} {H H' : Hp} {fs : List (Str × V)} {ys : List V} (b : But2 x l H H') (hx : H x = some (.ins W dx fs)) (hl : H l = some (.lst ys)) : KP H H' := fun a xs h => by
  obtain ⟨ob, eo, ed⟩ := h
  exact ⟨ob, b _ _ eo (fun z => by rw [z, hx] at eo; cases eo) (fun z => by rw [z, hl] at eo; cases eo), ed⟩
theorem K2.but2 {W dx x l : Addr} {H H' : Hp} {fs : List (Str × V)} {ys : List V} (b : But2 x l H H') (hx : H x = some (.ins W dx fs)) (hl : H l = some (.lst ys)) : K2 H H' := by
  rintro a xs (⟨ob, h, d⟩ | h)
  · exact .inl ⟨ob, b _ _ h (fun z => by rw [z, hx] at h; cases h) (fun z => by rw [z, hl] at h; cases h), d⟩
  · exact .inr (b _ _ h (fun z => by rw [z, hx] at h; cases h) (fun z => by rw [z, hl] at h; cases h))
theorem ShV.but2 {C W dx x l k : Addr} {H H' : Hp} {vr vp vk va vl : V} {ys : List V} {n : Nat} {st : Str} {xs bs : List Int} {nr fr : Int} (h : ShV C H k n st xs bs nr fr) (b : But2 x l H H') (hx : H x = some (.ins W dx (wkF vr vp vk va vl))) (hl : H l = some (.lst ys)) : ShV C H' k n st xs bs nr fr := by
  obtain ⟨d, a1, a2, h1, h2, h3⟩ := h.ex
  have kp := KP.but2 b hx hl
  exact ⟨⟨d, a1, a2, b _ _ h1 (ne_ins_sh hx h1) (fun z => by rw [z, hl] at h1; cases h1), kp _ _ h2, kp _ _ h3⟩, h.ok, h.way⟩
theorem WebAt.but2 {W dx x l r : Addr} {H H' : Hp} {fs : List (Str × V)} {ys : List V} {rs : List Rw} (h : WebAt H r rs) (b : But2 x l H H') (hx : H x = some (.ins W dx fs)) (hl : H l = some (.lst ys)) (rl : r ≠ l) : WebAt H' r rs := by
  obtain ⟨ws, e, hr⟩ := h
  exact ⟨ws, b _ _ e (fun z => by rw [z, hx] at e; cases e) rl, hr.keep (K2.but2 b hx hl)⟩
theorem step_any {C W CR CS p x r l : Addr} {sg : St19} {v1 v2 : V} {g1 g2 : G} {H : Hp} {QQ : VK} {EE : XK} (wk : WkJ C W H x r l sg) (okw : WebOk sg.rs) (orow : ∀ q, sg.at_ = some q → q < sg.rs.length) (ofew : sg.run.length < sizeLine) (rl : r ≠ l) (tv1 : Tg p H v1 g1) (tv2 : Tg p H v2 g2) (h1 : sg.at_ = none → Rais EE CS "to" v2 H) (h2 : ∀ (q : Nat) (row : Rw), sg.at_ = some q → sg.rs[q]? = some row → (askG row.1 g1 = false → Rais EE CR "room" v1 H) ∧ (askG row.1 g1 = true → askG row.2 g2 = false → Rais EE CS "to" v2 H) ∧
      (∀ o' to : Option Int, g1 = optG o' → g2 = optG to → PickOk o' row.1 → PickOk to row.2 → ∀ H', But2 x l H H' → WkJ C W H' x r l (sg.next q o' (to.map Int.toNat)) → QQ (optB (ansF (lyF sg sg.run.length) (q, o'))) H')) : spStepW C W CR CS [.ref x, v1, v2] H QQ EE := by
  obtain ⟨dx, k, a, ys, hx, hk, ha, hl, yl, yy⟩ := wk.ex
  have fewS : ys.length < sizeLine := by
    rw [yl]
    exact ofew
  refine ⟨p, x, dx, r, k, l, .ref a, sg.at_, sg.rs, v1, v2, g1, g2, ys, _, _, _, _, _, _, rfl, tv1, tv2, hx, wk.web, okw, hl, fewS, hk, h1, fun q eq => ?_⟩
  have er : sg.rs[q]? = some (sg.rs[q]'(orow q eq)) := List.getElem?_eq_getElem _
  generalize sg.rs[q]'(orow q eq) = row at er
  obtain ⟨ha1, ha2, ha3⟩ := h2 q row eq er
  refine ⟨row, er, ha1, ha2, fun o to e1 e2 p1 p2 H' t k' b hx' hl' pt hk' => ha3 o to e1 e2 p1 p2 H' b ?_⟩
  have rok := okw.row row (List.mem_of_getElem? er)
  have eto : atV (to.map Int.toNat) = optI to := by
    cases to with
    | none => rfl
    | some z =>
      have := rok.tos.lo z p2
      show V.int ((z.toNat : Nat) : Int) = V.int z
      rw [show ((z.toNat : Nat) : Int) = z by omega]
  have hlyL := next_lyL (s := sg) (q := q) (o := o) (to := to.map Int.toNat)
  have hnrL := next_nrL (s := sg) (q := q) (o := o) (to := to.map Int.toNat)
  have hfrL := next_frL (s := sg) (q := q) (o := o) (to := to.map Int.toNat)
  refine ⟨⟨dx, k', a, ys ++ [.ref t], ?_, ?_, (KP.but2 b hx hl) _ _ ha, hl', ?_, fun i sp ei => ?_⟩, wk.web.but2 b hx hl rl⟩
  · show H' x = some (.ins W dx (wkF (.ref r) (atV (to.map Int.toNat)) (.ref k') (.ref a) (.ref l)))
    rw [eto]
    exact hx'
  · rw [next_len, hlyL, hnrL, hfrL]
    exact hk'
  · rw [List.length_append, next_len, yl]
    rfl
  · by_cases z : i < sg.run.length
    · have e2 : sg.run[i]? = some sp := by
        have y : (sg.run ++ [(q, o)])[i]? = some sp := ei
        rw [List.getElem?_append_left z] at y
        exact y
      obtain ⟨t1, k1, e3, p3, h3⟩ := yy i sp e2
      rw [next_ly (Nat.le_of_lt z), next_nr (Nat.le_of_lt z), next_fr (Nat.le_of_lt z)]
      refine ⟨t1, k1, ?_, (KP.but2 b hx hl) _ _ p3, h3.but2 b hx hl⟩
      rw [List.getElem?_append_left (by omega)]
      exact e3
    · have hi : i < (sg.next q o (to.map Int.toNat)).run.length := (List.getElem?_eq_some_iff.mp ei).1
      rw [next_len] at hi
      obtain rfl : i = sg.run.length := by omega
      have e2 : sp = (q, o) := by
        have y : (sg.run ++ [(q, o)])[sg.run.length]? = some sp := ei
        rw [List.getElem?_append_right (Nat.le_refl _), Nat.sub_self] at y
        exact (Option.some.inj y).symm
      subst e2
      rw [next_ly (Nat.le_refl _), next_nr (Nat.le_refl _), next_fr (Nat.le_refl _)]
      refine ⟨t, k, ?_, pt, hk.but2 b hx hl⟩
      rw [List.getElem?_append_right (by omega), yl, Nat.sub_self]
      rfl
theorem step_ok {C W CR CS p x r l : Addr} {sg : St19} {v1 v2 : V} {g1 g2 : G} {H : Hp} {QQ : VK} {EE : XK} (wk : WkJ C W H x r l sg) (ok : StOk sg) (rl : r ≠ l) (tv1 : Tg p H v1 g1) (tv2 : Tg p H v2 g2) (h1 : sg.at_ = none → Rais EE CS "to" v2 H) (h2 : ∀ (q : Nat) (row : Rw), sg.at_ = some q → sg.rs[q]? = some row → (askG row.1 g1 = false → Rais EE CR "room" v1 H) ∧ (askG row.1 g1 = true → askG row.2 g2 = false → Rais EE CS "to" v2 H) ∧
      (∀ o' to : Option Int, g1 = optG o' → g2 = optG to → PickOk o' row.1 → PickOk to row.2 → ∀ H', But2 x l H H' → WkJ C W H' x r l (sg.next q o' (to.map Int.toNat)) → QQ (optB (ansF (lyF sg sg.run.length) (q, o'))) H')) : spStepW C W CR CS [.ref x, v1, v2] H QQ EE :=
  step_any wk ok.web ok.row (small1000 (by have := ok.few; omega)) rl tv1 tv2 h1 h2
theorem undo_ok {C W CB x r l : Addr} {sg : St19} {H : Hp} {Q : VK} {E : XK} (wk : WkJ C W H x r l sg) (rl : r ≠ l) {sp : Stp} (esp : sg.run[sg.run.length - 1]? = some sp) (q : ∀ H1, But2 x l H H1 → WkJ C W H1 x r l (sg.back sp.1) → Q .non H1) : spUndoW W CB [.ref x] H Q E := by
  obtain ⟨dx, k, a, ys, hx, hk, ha, hl, yl, yy⟩ := wk.ex
  have hn0 : sg.run.length ≠ 0 := fun z => by
    have := (List.getElem?_eq_some_iff.mp esp).1
    omega
  obtain ⟨t, ki, e3, p3, h3⟩ := yy _ sp esp
  have eys : ys = ys.dropLast ++ [.ref t] := by
    have ne : ys ≠ [] := fun z => by
      rw [z] at yl
      exact hn0 yl.symm
    have z := List.dropLast_concat_getLast ne
    rw [List.getLast_eq_getElem] at z
    rw [← yl] at e3
    have y := (List.getElem?_eq_some_iff.mp e3).2
    rw [y] at z
    exact z.symm
  refine ⟨x, dx, l, _, _, _, _, ys, rfl, hx, hl, .inr ⟨ys.dropLast, t, _, _, _, eys, p3, fun H1 b1 hx1 hl1 => q H1 b1 ?_⟩⟩
  refine ⟨⟨dx, ki, a, ys.dropLast, hx1, ?_, (KP.but2 b1 hx hl) _ _ ha, hl1, ?_, fun i sp2 ei => ?_⟩, wk.web.but2 b1 hx hl rl⟩
  · rw [back_len, back_ly (Nat.le_refl _), back_nr (Nat.le_refl _), back_fr (Nat.le_refl _)]
    exact h3.but2 b1 hx hl
  · rw [List.length_dropLast, back_len, yl]
  · have hi : i < (sg.back sp.1).run.length := (List.getElem?_eq_some_iff.mp ei).1
    rw [back_len] at hi
    have e4 : sg.run[i]? = some sp2 := by
      have y : sg.run.dropLast[i]? = some sp2 := ei
      rw [List.dropLast_eq_take, List.getElem?_take, if_pos (by omega)] at y
      exact y
    obtain ⟨t1, k1, e5, p5, h5⟩ := yy i sp2 e4
    rw [back_ly (by omega), back_nr (by omega), back_fr (by omega)]
    refine ⟨t1, k1, ?_, (KP.but2 b1 hx hl) _ _ p5, h5.but2 b1 hx hl⟩
    rw [List.dropLast_eq_take, List.getElem?_take, if_pos (by omega)]
    exact e5
theorem ShV.by_ {C : Addr} {H H' : Hp} {x : Addr} {n : Nat} {st : Str} {xs bs : List Int} {nr fr : Int} (h : ShV C H x n st xs bs nr fr) (kp : KP H H') (ki : ∀ c C2 d fs, H c = some (.ins C2 d fs) → H' c = some (.ins C2 d fs)) : ShV C H' x n st xs bs nr fr := by
  obtain ⟨d, a, b, h1, h2, h3⟩ := h.ex
  exact ⟨⟨d, a, b, ki _ _ _ _ h1, kp _ _ h2, kp _ _ h3⟩, h.ok, h.way⟩
theorem WkJ.by_ {C W : Addr} {H H' : Hp} {x r l : Addr} {s : St19} (h : WkJ C W H x r l s) (kp : KP H H') (k2 : K2 H H') (ki : ∀ c C2 d fs, H c = some (.ins C2 d fs) → H' c = some (.ins C2 d fs)) (er : ∀ u, H r = some u → H' r = some u) (el : ∀ u, H l = some u → H' l = some u) : WkJ C W H' x r l s := by
  obtain ⟨dx, k, a, ys, hx, hk, ha, hl, yl, yy⟩ := h.ex
  obtain ⟨ws, ew, hw⟩ := h.web
  refine ⟨⟨dx, k, a, ys, ki _ _ _ _ hx, hk.by_ kp ki, kp _ _ ha, el _ hl, yl, fun i sp e => ?_⟩, ws, er _ ew, hw.keep k2⟩
  obtain ⟨t, k1, e1, p1, h1⟩ := yy i sp e
  exact ⟨t, k1, e1, kp _ _ p1, h1.by_ kp ki⟩
/-- all stays but the list at u -/
def But1 (u : Addr) (H H' : Hp) : Prop := ∀ c o, H c = some o → c ≠ u → H' c = some o
theorem KP.but1 {u : Addr} {H H' : Hp} {ys : List V} (b : But1 u H H') (e : H u = some (.lst ys)) : KP H H' := fun a xs h => by
  obtain ⟨ob, ea, ed⟩ := h
  exact ⟨ob, b _ _ ea (fun z => by rw [z, e] at ea; cases ea), ed⟩
theorem K2.but1 {u : Addr} {H H' : Hp} {ys : List V} (b : But1 u H H') (e : H u = some (.lst ys)) : K2 H H' := by
  rintro a xs (⟨ob, h, d⟩ | h)
  · exact .inl ⟨ob, b _ _ h (fun z => by rw [z, e] at h; cases h), d⟩
  · exact .inr (b _ _ h (fun z => by rw [z, e] at h; cases h))
theorem WkJ.but1 {C W : Addr} {H H' : Hp} {x r l u : Addr} {s : St19} {ys : List V} (h : WkJ C W H x r l s) (b : But1 u H H') (e : H u = some (.lst ys)) (ru : r ≠ u) (lu : l ≠ u) : WkJ C W H' x r l s :=
  h.by_ (KP.but1 b e) (K2.but1 b e) (fun c C2 d fs ec => b _ _ ec (fun z => by rw [z, e] at ec; cases ec)) (fun z ez => b _ _ ez ru) (fun z ez => b _ _ ez lu)
theorem ne_fresh {H H' : Hp} {c u : Addr} {o : HO} (s : Same H H') (e : H c = some o) (n : H u = none) : c ≠ u := fun z => by
  rw [z, n] at e
  cases e
/-- no shelf, by its class -/
def NotS (K : PySem.W.Frag) (C : Addr) (H : Hp) (u : V) : Prop := ∀ H', Same H H' → ∃ t, TyX K H' u t ∧ PySem.W.kitOne K t (.ref C) = some false
def spInitX (K : PySem.W.Frag) (C W CN CF : Addr) : Sp := fun vs H Q E => ∃ (p x dx : Addr) (v u : V) (g : G), vs = [.ref x, v, u] ∧ H x = some (.ins W dx []) ∧ Tg p H v g ∧
  ((∃ r, GW.lookG g = some r ∧ Rais E CN "row" (GW.rowV r) H) ∨ (GW.lookG g = none ∧ NotS K C H u ∧ Rais E CF "part" (.str "way") H))
section
variable {P : Program} {w : World} {K : PySem.W.Frag} {mg : Str → Option Value} {base : Heap}
theorem okW_initX {C W CN CF fF : Addr} {BF nF iF : String} {bF : List Value} (IS : IsS K mg C) (ONF : XC.Own P K mg "NoShelf" "part" CF fF BF nF iF bF) (B : Bt mg) {f : Addr} {fd : FuncData} (F : Fun K "__init__" "Walk.__init__" sW_init f fd)
    (c_look_at_web : CalX P w K mg base 5 "look_at_web" ["thing"] (GW.spLook CN)) (m_twin : MetS P w K mg base 8 C "twin" (spTwin C)) (m_counts : MetS P w K mg base 1 C "counts" (spTwo C "near" "far")) (WC : WkC K W) : FnOk P w K mg base (L2.CX P w) 9 f fd ["self", "web", "shelf"] (spInitX K C W CN CF) := by
  refine F.okX scW_init (fun vs H Q E h => ?_) (fun cdv A outer s H vs Q E hr h => ?_)
  · obtain ⟨p, x, dx, v, u, g, rfl, _⟩ := h
    rfl
  · obtain ⟨p, x, dx, v, u, g, rfl, hx, hv, h⟩ := h
    refine ⟨_, (pss_cons (ps_expr (pe_ownX (takes_of rfl rfl rfl rfl) c_look_at_web hr (by decide) (by rfl) (pa_cons (pv 1) pa_nil)))
      (pss_cons (ps_if (pt_not (pt_val (pe_callB call_isi (by rfl) B.isinstance (by decide +kernel) (pa_cons (pv 2) (pa_cons (pe_glob (v := .ref C) (by rfl) IS.gl rfl) pa_nil))))) (pss_one (ps_raiseX rfl ONF hr (takes_of rfl rfl rfl rfl) (pa_cons pe_str pa_nil))) pss_nil)
      (pss_cons (ps_fld (pv 0) (pe_callTy call_list_of (by rfl) B.list (by decide +kernel) (pa_cons (pv 1) pa_nil)) (by rfl))
      (pss_cons (ps_fld (pv 0) pe_int (by rfl))
      (pss_cons (ps_fld (pv 0) (pe_mtS m_twin hr (by decide) (pv 2)) (by rfl))
      (pss_cons (ps_fld (pv 0) (pe_mtS m_counts hr (by decide) (pv 2)) (by rfl))
      (pss_one (ps_fld (pv 0) (pe_lst pa_nil) (by rfl))))))))), ?_⟩
    refine ⟨_, rfl, p, v, g, rfl, hv, fun e H1 s1 => ?_, fun r e H1 d s1 nd hd => ?_⟩
    · rcases h with ⟨r, e2, _⟩ | ⟨_, ns, ra⟩
      · rw [e] at e2
        cases e2
      · obtain ⟨t, ty, kt⟩ := ns H1 s1
        refine ⟨_, rfl, _, _, _, _, _, rfl, .own C, ty, kt, _, rfl, iteT ?_⟩
        exact ⟨_, rfl, fun d nd => ra _ d (s1.trans (same_upd nd)) (none_back s1 nd) upd_same⟩
    · rcases h with ⟨r2, e2, ra⟩ | ⟨e2, _⟩
      · rw [e] at e2
        cases e2
        exact ra H1 d s1 nd hd
      · rw [e] at e2
        cases e2
end
end Su
/-! ### L1: _law_made, _law_over, _law_no_room -/
namespace Su
open PySem PySem.Spec PyProof.Rows L2
/-- the error classes: HandError, NoWeb, NoShelf, NoBack, NoRoom, NoStep -/
structure ErrM (K : PySem.W.Frag) (mg : Str → Option Value) (CH CN CF CB CR CS : Addr) : Prop where
  he : mg "HandError" = some (.ref CH)
  nw : mg "NoWeb" = some (.ref CN)
  nf : mg "NoShelf" = some (.ref CF)
  nb : mg "NoBack" = some (.ref CB)
  nr : mg "NoRoom" = some (.ref CR)
  ns : mg "NoStep" = some (.ref CS)
  ve : mg "ValueError" = none
  ie : mg "IndexError" = none
  le : mg "LookupError" = none
  xw : ExcT K CN
  xf : ExcT K CF
  xr : ExcT K CR
  xs : ExcT K CS
  nofw : PySem.W.findIn K (.ref CN) "row" = some none
  noff : PySem.W.findIn K (.ref CF) "part" = some none
  nofr : PySem.W.findIn K (.ref CR) "room" = some none
  nofs : PySem.W.findIn K (.ref CS) "to" = some none
  wh : PySem.W.exmOne K (.ref CN) (.ref CH) = some true
  fh : PySem.W.exmOne K (.ref CF) (.ref CH) = some true
  rr : PySem.W.exmOne K (.ref CR) (.ref CR) = some true
  ss : PySem.W.exmOne K (.ref CS) (.ref CS) = some true
  kww : PySem.W.kitOne K (.ref CN) (.ref CN) = some true
  kwf : PySem.W.kitOne K (.ref CN) (.ref CF) = some false
  kfw : PySem.W.kitOne K (.ref CF) (.ref CN) = some false
  kff : PySem.W.kitOne K (.ref CF) (.ref CF) = some true
  kfv : PySem.W.kitOne K (.ref CF) (.type "ValueError") = some true
  kfb : PySem.W.kitOne K (.ref CF) (.ref CB) = some false
  ksi : PySem.W.kitOne K (.ref CS) (.type "IndexError") = some true
  kso : PySem.W.kitAny K (.ref CS) [.ref CH, .ref CR] = some false
  krl : PySem.W.kitOne K (.ref CR) (.type "LookupError") = some true
  kro : PySem.W.kitAny K (.ref CR) [.ref CH, .type "IndexError"] = some false
def spMade (K : PySem.W.Frag) (C : Addr) : Sp := fun vs H Q _ => ∃ (p : Addr) (v u : V) (g : G) (a : Str) (b : V), vs = [v, u] ∧ Tg p H v g ∧ ((∃ r, GW.lookG g = some r ∧ a = "web" ∧ b = GW.rowV r) ∨ (GW.lookG g = none ∧ NotS K C H u ∧ a = "shelf" ∧ b = .str "way")) ∧
  ∀ (L : Addr) (H' : Hp), Same H H' → H L = none → H' L = some (.lst [.str a, b]) → Q (.ref L) H'
theorem sc_law_made : FnScope ["_law_web_here", "_law_one", "_law_error", "e"] ["_law_web_here", "_law_one"] (defScope s_law_made) := ⟨rfl, rfl, rfl, by decide +kernel, rfl, by decide +kernel, by decide +kernel⟩
section
variable {P : Program} {w : World} {K : PySem.W.Frag} {mg : Str → Option Value} {base : Heap}
theorem ok_made {C W CH CN CF CB CR CS : Addr} (ES : ErrM K mg CH CN CF CB CR CS) (T : At K mg "_law_made" s_law_made ["_law_web_here", "_law_one"]) (B : Bt mg) (c_WalkX : MakX P w K mg base 9 "Walk" W ["self", "web", "shelf"] (spInitX K C W CN CF)) : Cal P w K mg base 11 "_law_made" ["_law_web_here", "_law_one"] (spMade K C) := by
  refine cal_of T sc_law_made (fun vs H Q E h => ?_) (fun f cdv A outer s H vs Q E hr h => ?_)
  · obtain ⟨p, v, u, g, a, b, rfl, _⟩ := h
    rfl
  obtain ⟨p, v, u, g, a, b, rfl, hv, h, q⟩ := h
  have hHE := ES.he
  refine ⟨_, (pss_cons (ps_set (i := 2) sc_law_made.nd rfl (Or.inl rfl) pe_non)
      (pss_cons (ps_try_keep (i := 3) (Wo := fun _ _ _ _ => False) rfl rfl rfl sc_law_made.nd rfl rfl ⟨rfl, by decide, Or.inl hHE⟩ takes0 (fun W pn xe tk _ => (pss_one (ps_expr (pe_makeX tk c_WalkX hr (by decide) (by rfl) (pa_cons (pv 0) (pa_cons (pv 1) pa_nil)))))) (fun a oe pn => (pss_one (ps_set (i := 2) sc_law_made.nd rfl (Or.inl rfl) (pv 3)))))
      (pss_cons (ps_if (PW.pt (pw_and (pt_val (pe_callB call_isiE (by rfl) B.isinstance (by decide +kernel) (pa_cons (pv 2) (pa_cons (pe_glob (v := .ref CN) (by rfl) ES.nw rfl) pa_nil)))) (pw_and1 (pt_not (pt_val (pe_callB call_isiE (by rfl) B.isinstance (by decide +kernel) (pa_cons (pv 2) (pa_cons (pe_glob (v := .ref CF) (by rfl) ES.nf rfl) pa_nil)))))))) (pss_one (ps_ret (pe_lst (pa_cons pe_str (pa_cons (pe_xfld (pv 2)) pa_nil))))) pss_nil)
      (pss_cons (ps_if (PW.pt (pw_and (pt_val (pe_callB call_isiE (by rfl) B.isinstance (by decide +kernel) (pa_cons (pv 2) (pa_cons (pe_glob (v := .ref CF) (by rfl) ES.nf rfl) pa_nil)))) (pw_and (pt_val (pe_callB call_isiE (by rfl) B.isinstance (by decide +kernel) (pa_cons (pv 2) (pa_cons (pe_bltn (v := .ty "ValueError") (u := .type "ValueError") (by rfl) ES.ve (by decide +kernel) rfl) pa_nil)))) (pw_and1 (pt_not (pt_val (pe_callB call_isiE (by rfl) B.isinstance (by decide +kernel) (pa_cons (pv 2) (pa_cons (pe_glob (v := .ref CB) (by rfl) ES.nb rfl) pa_nil))))))))) (pss_one (ps_ret (pe_lst (pa_cons pe_str (pa_cons (pe_xfld (pv 2)) pa_nil))))) pss_nil)
      (pss_one (ps_ret (pe_lst (pa_cons pe_str (pa_cons pe_non pa_nil))))))))), ?_⟩
  refine ⟨_, rfl, _, rfl, fun x dx nx ndx ne => ?_⟩
  have nx1 : (upd H dx (.own x)) x = none := by
    rw [upd_ne (Ne.symm ne)]
    exact nx
  have s0 : Same H (upd (upd H dx (.own x)) x (.ins W dx [])) := (same_upd ndx).trans (same_upd nx1)
  rcases h with ⟨r, e, ea, eb⟩ | ⟨e, ns, ea, eb⟩
  · refine ⟨p, x, dx, v, u, g, rfl, upd_same, hv.keep (Keeps.same s0), .inl ⟨r, e, fun H1 d s1 nd hd => ?_⟩⟩
    refine ⟨true, ES.wh, fun _ a2 na => ?_, fun z => by cases z⟩
    have da : d ≠ a2 := ne_of_none hd na
    have ha : (upd H1 a2 (exK a2 (.ref CN) (some d))) a2 = some (exK a2 (.ref CN) (some d)) := upd_same
    have hd2 : (upd H1 a2 (exK a2 (.ref CN) (some d))) d = some (.xd [("row", GW.rowV r)]) := by
      rw [upd_ne da]
      exact hd
    have s2 := (s0.trans s1).trans (same_upd (o := exK a2 (.ref CN) (some d)) na)
    have xd : XdAt (upd H1 a2 (exK a2 (.ref CN) (some d))) (some d) := fun dd ed => by
      cases ed
      exact ⟨_, hd2⟩
    refine ⟨_, rfl, ?_⟩
    refine ⟨_, rfl, a2, CN, some d, .ref CN, .ref CN, true, rfl, .own CN, ES.xw, ha, xd, ES.kww, _, rfl, iteT ?_⟩
    refine ⟨_, rfl, a2, CN, some d, .ref CF, .ref CF, false, rfl, .own CF, ES.xw, ha, xd, ES.kwf, _, rfl, iteT ?_⟩
    refine ⟨_, rfl, a2, CN, d, _, GW.rowV r, rfl, ES.xw, ES.nofw, ha, hd2, (by simp [List.lookup]), (by show 2 ≤ sizeLine; decide), fun L nL => q L _ (s2.trans (same_upd nL)) (none_back s2 nL) ?_⟩
    rw [upd_same, ea, eb]
  · refine ⟨p, x, dx, v, u, g, rfl, upd_same, hv.keep (Keeps.same s0), .inr ⟨e, fun H' s' => ns H' (s0.trans s'), fun H1 d s1 nd hd => ?_⟩⟩
    refine ⟨true, ES.fh, fun _ a2 na => ?_, fun z => by cases z⟩
    have da : d ≠ a2 := ne_of_none hd na
    have ha : (upd H1 a2 (exK a2 (.ref CF) (some d))) a2 = some (exK a2 (.ref CF) (some d)) := upd_same
    have hd2 : (upd H1 a2 (exK a2 (.ref CF) (some d))) d = some (.xd [("part", .str "way")]) := by
      rw [upd_ne da]
      exact hd
    have s2 := (s0.trans s1).trans (same_upd (o := exK a2 (.ref CF) (some d)) na)
    have xd : XdAt (upd H1 a2 (exK a2 (.ref CF) (some d))) (some d) := fun dd ed => by
      cases ed
      exact ⟨_, hd2⟩
    refine ⟨_, rfl, ?_⟩
    refine ⟨_, rfl, a2, CF, some d, .ref CN, .ref CN, false, rfl, .own CN, ES.xf, ha, xd, ES.kfw, _, rfl, iteF ?_⟩
    refine ⟨_, rfl, a2, CF, some d, .ref CF, .ref CF, true, rfl, .own CF, ES.xf, ha, xd, ES.kff, _, rfl, iteT ?_⟩
    refine ⟨_, rfl, a2, CF, some d, .ty "ValueError", .type "ValueError", true, rfl, .ty "ValueError", ES.xf, ha, xd, ES.kfv, _, rfl, iteT ?_⟩
    refine ⟨_, rfl, a2, CF, some d, .ref CB, .ref CB, false, rfl, .own CB, ES.xf, ha, xd, ES.kfb, _, rfl, iteT ?_⟩
    refine ⟨_, rfl, a2, CF, d, _, .str "way", rfl, ES.xf, ES.noff, ha, hd2, (by simp [List.lookup]), (by show 2 ≤ sizeLine; decide), fun L nL => q L _ (s2.trans (same_upd nL)) (none_back s2 nL) ?_⟩
    rw [upd_same, ea, eb]
end
end Su
/-! ### L2: _law_over, _law_no_room -/
namespace Su
open PySem PySem.Spec PyProof.Rows L2
def spOver (C W : Addr) : Sp := fun vs H Q _ => ∃ (x r l : Addr) (s : St19), vs = [.ref x] ∧ WkJ C W H x r l s ∧ StOk s ∧ r ≠ l ∧ s.at_ = none ∧ ∀ H', Same H H' → Q (.bl true) H'
def spNoRoom (C W : Addr) : Sp := fun vs H Q _ => ∃ (p x r l : Addr) (s : St19) (v : V) (g : G) (q : Nat) (row : Rw), vs = [.ref x, v] ∧ WkJ C W H x r l s ∧ StOk s ∧ r ≠ l ∧ s.at_ = some q ∧ s.rs[q]? = some row ∧ Tg p H v g ∧ Shw g ∧ askG row.1 g = false ∧ ∀ H', Same H H' → Q (.bl true) H'
abbrev outV : List V := [.non, .int 0, .str "x"]
abbrev outG : List G := [.non, .int 0, .str "x"]
abbrev outD : PyData := .list [.list [.none, .bool true, .bool false], .list [.int 0, .bool true, .bool false], .list [.str "x", .bool true, .bool false]]
theorem out_fine : Fine outD 2 1000 := ⟨by decide +kernel, by decide +kernel, by decide +kernel, by decide +kernel, by decide +kernel, by decide +kernel⟩
theorem pick_ask2 {ks : List Int} : ∀ {o : Option Int}, PickOk o ks → askG ks (optG o) = true
  | none, h => by
    have h : ks = [] := h
    subst h
    rfl
  | some k, h => by
    have h : k ∈ ks := h
    cases ks with
    | nil => cases h
    | cons a l => exact decide_eq_true h
theorem sc_law_over : FnScope ["_law_walk", "_law_found", "_law_one", "_law_two", "e"] ["_law_walk"] (defScope s_law_over) := ⟨rfl, rfl, rfl, by decide +kernel, rfl, by decide +kernel, by decide +kernel⟩
theorem sc_law_no_room : FnScope ["_law_walk", "_law_thing", "e", "_law_good"] ["_law_walk", "_law_thing"] (defScope s_law_no_room) := ⟨rfl, rfl, rfl, by decide +kernel, rfl, by decide +kernel, by decide +kernel⟩
section
variable {P : Program} {w : World} {K : PySem.W.Frag} {mg : Str → Option Value} {base : Heap}
theorem ok_over {C W CH CN CF CB CR CS : Addr} (ES : ErrM K mg CH CN CF CB CR CS) (T : At K mg "_law_over" s_law_over ["_law_walk"]) (B : Bt mg) (m_step : MetX P w K mg base 9 W "step" ["self", "room", "to"] (spStepW C W CR CS)) : CalG P w K mg base 10 "_law_over" ["_law_walk"] (spOver C W) := by
  refine cal_ofG T sc_law_over (fun vs H Q E h => ?_) (fun f cdv A outer s H vs Q E hg hr h => ?_)
  · obtain ⟨x, r, l, s, rfl, _⟩ := h
    rfl
  obtain ⟨x, r, l, sg, rfl, wk, ok, rl, eat, q⟩ := h
  have hNS := ES.ns
  refine ⟨_, (pss_cons (ps_set (i := 1) sc_law_over.nd rfl (Or.inl rfl) (pe_lst pa_nil))
      (pss_cons (ps_for PassesOwn.never rfl (pi_list (pe_lst (pa_cons (pe_tupF (pa_cons pe_non (pa_cons pe_non pa_nil))) (pa_cons (pe_tupF (pa_cons pe_int (pa_cons pe_int pa_nil))) (pa_cons (pe_tupF (pa_cons pe_bl (pa_cons pe_str pa_nil))) pa_nil))))) (pg_tup (by rfl) (pgs_cons (pg_name (i := 2) sc_law_over.nd rfl (Or.inl rfl)) (pgs_cons (pg_name (i := 3) sc_law_over.nd rfl (Or.inl rfl)) pgs_nil))) (pss_one (ps_try_in (i := 4) (Wo := fun _ _ _ _ => False) rfl rfl rfl sc_law_over.nd rfl rfl ⟨rfl, by decide, Or.inl hNS⟩ takes0 (fun W pn xe tk _ => (pss_one (ps_expr (pe_mtX tk m_step hr (by decide) (pv 0) (pa_cons (pv 2) (pa_cons (pv 3) pa_nil)))))) (fun a pn => (pss_one (ps_expr (pe_bm PySem.F.plainAttrs_list PySem.F.slot_list_append PySem.F.type_list_append mt_append (pv 1) (pa_cons (pe_lst (pa_cons (pe_xfld (pv 4)) (pa_cons (pe_callB call_isiE (by rfl) B.isinstance (by decide +kernel) (pa_cons (pv 4) (pa_cons (pe_bltn (v := .ty "IndexError") (u := .type "IndexError") (by rfl) ES.ie (by decide +kernel) rfl) pa_nil))) (pa_cons (pe_callB call_isiET (by rfl) B.isinstance (by decide +kernel) (pa_cons (pv 4) (pa_cons (pe_tupF (pa_cons (pe_glob (v := .ref CH) (by rfl) ES.he rfl) (pa_cons (pe_glob (v := .ref CR) (by rfl) ES.nr rfl) pa_nil))) pa_nil))) pa_nil)))) pa_nil))))))))
      (pss_one (ps_ret (pe_cmpR op_eq (pe_callB (call_reprD hg hr.units) (by rfl) B.repr (by decide +kernel) (pa_cons (pv 1) pa_nil)) (pe_callB (call_reprD hg hr.units) (by rfl) B.repr (by decide +kernel) (pa_cons (pe_lst (pa_cons (pe_lst (pa_cons pe_non (pa_cons pe_bl (pa_cons pe_bl pa_nil)))) (pa_cons (pe_lst (pa_cons pe_int (pa_cons pe_bl (pa_cons pe_bl pa_nil)))) (pa_cons (pe_lst (pa_cons pe_str (pa_cons pe_bl (pa_cons pe_bl pa_nil)))) pa_nil)))) pa_nil)) (nomark _)))))), ?_⟩
  refine ⟨(by show 0 ≤ sizeLine; decide), fun u nu => ?_⟩
  have su := same_upd (o := .lst []) nu
  have eu : (upd H u (.lst [])) u = some (.lst []) := upd_same
  generalize upd H u (.lst []) = H0 at su eu ⊢
  refine ⟨(by show 2 ≤ sizeLine; decide), fun t1 H1 s1 nt1 pt1 => ⟨(by show 2 ≤ sizeLine; decide), fun t2 H2 s2 nt2 pt2 => ⟨(by show 2 ≤ sizeLine; decide), fun t3 H3 s3 nt3 pt3 => ?_⟩⟩⟩
  refine ⟨(by show 3 ≤ sizeLine; decide), fun LL nLL => ?_⟩
  have sLL := same_upd (o := .lst [V.ref t1, V.ref t2, V.ref t3]) nLL
  have eLL : (upd H3 LL (.lst [V.ref t1, V.ref t2, V.ref t3])) LL = some (.lst [V.ref t1, V.ref t2, V.ref t3]) := upd_same
  generalize upd H3 LL (.lst [V.ref t1, V.ref t2, V.ref t3]) = H4 at sLL eLL ⊢
  have s04 : Same H0 H4 := ((s1.trans s2).trans s3).trans sLL
  have p1 : PTup H4 t1 [.non, .non] := pt1.same ((s2.trans s3).trans sLL)
  have p2 : PTup H4 t2 [.int 5, .int 0] := pt2.same (s3.trans sLL)
  have p3 : PTup H4 t3 [.bl true, .str "x"] := pt3.same sLL
  have wk4 := wk.same (su.trans s04)
  obtain ⟨ru, lu⟩ : r ≠ u ∧ l ≠ u := by
    obtain ⟨_, _, _, _, _, _, _, e1, _⟩ := wk.ex
    obtain ⟨_, e2, _⟩ := wk.web
    exact ⟨ne_of_none e2 nu, ne_of_none e1 nu⟩
  have eu4 := s04 _ _ eu
  have sH4 := su.trans s04
  clear s1 s2 s3 sLL s04 eu su pt1 pt2 pt3
  refine ⟨LL, rfl, ⟨_, SqL.of eLL⟩, ?_⟩
  refine for_list (K := K) (a := LL) (xs := [V.ref t1, V.ref t2, V.ref t3]) (fun j σ HH => ∃ (y2 y3 : Option V) (as : List Addr), σ = [some (.ref x), some (.ref u), y2, y3, none] ∧ (∀ c o, H4 c = some o → c ≠ u → HH c = some o) ∧ as.length = j ∧ HH u = some (.lst (as.map V.ref)) ∧ ∀ (i : Nat) (a : Addr), as[i]? = some a → H4 a = none ∧ ∃ o, outV[i]? = some o ∧ HH a = some (.lst [o, .bl true, .bl false])) ?_ ?_ ?_ ?_
  · exact ⟨none, none, [], rfl, fun c o e _ => e, rfl, eu4, fun i a e => by cases e⟩
  · rintro j σ HH _ ⟨_, _, _, _, kp, _, _, _⟩
    exact SqL.of (kp _ _ eLL (fun z => by rw [z, eu4] at eLL; cases eLL))
  · rintro j v σ HH hv ⟨y2, y3, as, rfl, kp, la, hu, has⟩
    have b1 : But1 u H4 HH := kp
    have wkH := wk4.but1 b1 eu4 ru lu
    have kP := KP.but1 b1 eu4
    obtain ⟨dx0, k0, a0, ys0, hx0, _⟩ := wkH.ex
    obtain ⟨t, v1, v2, g1, g2, rfl, pt, tg1, tg2, eo⟩ : ∃ (t : Addr) (v1 v2 : V) (g1 g2 : G), v = .ref t ∧ PTup HH t [v1, v2] ∧ Tg x HH v1 g1 ∧ Tg x HH v2 g2 ∧ outV[j]? = some v2 := by
      match j, hv with
      | 0, hv =>
        cases hv
        exact ⟨t1, _, _, _, _, rfl, kP _ _ p1, .non, .non, rfl⟩
      | 1, hv =>
        cases hv
        exact ⟨t2, _, _, _, _, rfl, kP _ _ p2, .int 5, .int 0, rfl⟩
      | 2, hv =>
        cases hv
        exact ⟨t3, _, _, _, _, rfl, kP _ _ p3, .bl true, .str "x", rfl⟩
      | j + 3, hv => cases hv
    have jl : j < 3 := (List.getElem?_eq_some_iff.mp hv).1
    refine ⟨t, _, rfl, pt.sq, rfl, _, _, rfl, _, _, rfl, rfl, ?_⟩
    refine ⟨_, rfl, x, dx0, _, rfl, hx0, rfl, _, rfl, _, rfl, ?_⟩
    dsimp only [tNil]
    show spStepW C W CR CS [V.ref x, v1, v2] HH _ _
    refine step_ok wkH ok rl tg1 tg2 (fun _ => ?_) (fun q row z => ?_)
    rotate_left
    · rw [eat] at z
      cases z
    intro H5 d s5 nd hd
    refine ⟨true, ES.ss, fun _ a pn na => ?_, fun z => by cases z⟩
    have da : d ≠ a := ne_of_none hd na
    have ha : (upd H5 a (exK a (.ref CS) (some d))) a = some (exK a (.ref CS) (some d)) := upd_same
    have hd2 : (upd H5 a (exK a (.ref CS) (some d))) d = some (.xd [("to", v2)]) := by
      rw [upd_ne da]
      exact hd
    have s6 := s5.trans (same_upd (o := exK a (.ref CS) (some d)) na)
    have xd : ∀ {H3 : Hp}, Same (upd H5 a (exK a (.ref CS) (some d))) H3 → XdAt H3 (some d) := fun s3 dd ed => by
      cases ed
      exact ⟨_, s3 _ _ hd2⟩
    have hu6 := s6 _ _ hu
    refine ⟨_, rfl, .inl ⟨rfl, _, SqL.of hu6⟩, ?_⟩
    refine ⟨_, rfl, a, CS, d, _, v2, rfl, ES.xs, ES.nofs, ha, hd2, (by simp [List.lookup]), ?_⟩
    refine ⟨_, rfl, a, CS, some d, .ty "IndexError", .type "IndexError", true, rfl, .ty "IndexError", ES.xs, ha, xd (Same.refl _), ES.ksi, ?_⟩
    refine ⟨_, rfl, (by show 2 ≤ sizeLine; decide), fun tp H7 s7 ntp htp => ?_⟩
    refine ⟨a, CS, tp, some d, [.ref CH, .ref CR], [.ref CH, .ref CR], false, rfl, .inl htp, .cons (.own CH) (.cons (.own CR) .nil), ES.xs, s7 _ _ ha, xd s7, ES.kso, ?_⟩
    refine ⟨(by show 3 ≤ sizeLine; decide), fun L nL => ?_⟩
    have s8 := same_upd (o := .lst [v2, V.bl true, V.bl false]) nL
    have s68 := (s6.trans s7).trans s8
    have nLH : HH L = none := none_back (s6.trans s7) nL
    have hu8 := s68 _ _ hu
    refine ⟨u, _, _, rfl, rfl, hu8, small1000 (by rw [List.length_map]; omega), ?_⟩
    have Lu : L ≠ u := fun z => by
      rw [z, hu] at nLH
      cases nLH
    refine ⟨_, _, as ++ [L], rfl, fun c o e n => ?_, ?_, ?_, fun i b eb => ?_⟩
    · rw [upd_ne n]
      exact s68 _ _ (kp _ _ e n)
    · rw [List.length_append, la]
      rfl
    · rw [upd_same, List.map_append]
      rfl
    · by_cases z : i < as.length
      · rw [List.getElem?_append_left z] at eb
        obtain ⟨nb, o, eo2, hb⟩ := has i b eb
        refine ⟨nb, o, eo2, ?_⟩
        rw [upd_ne (fun y => by rw [y, eu4] at nb; cases nb)]
        exact s68 _ _ hb
      · have hi := (List.getElem?_eq_some_iff.mp eb).1
        rw [List.length_append] at hi
        obtain rfl : i = as.length := by
          have : i < as.length + 1 := hi
          omega
        rw [List.getElem?_append_right (Nat.le_refl _), Nat.sub_self] at eb
        cases eb
        refine ⟨?_, v2, by rw [la]; exact eo, ?_⟩
        · cases e : H4 L with
          | none => rfl
          | some o =>
            rw [kp _ _ e Lu] at nLH
            cases nLH
        · rw [upd_ne Lu]
          exact upd_same
  · rintro σ HH ⟨y2, y3, as, rfl, kp, la, hu, has⟩
    obtain ⟨a0, a1, a2, rfl⟩ : ∃ a0 a1 a2, as = [a0, a1, a2] := by
      match as, la with
      | [b0, b1, b2], _ => exact ⟨b0, b1, b2, rfl⟩
    obtain ⟨_, o0, e0, h0⟩ := has 0 a0 rfl
    obtain ⟨_, o1, e1, h1⟩ := has 1 a1 rfl
    obtain ⟨_, o2, e2, h2⟩ := has 2 a2 rfl
    cases e0
    cases e1
    cases e2
    refine ⟨_, rfl, u, outD, 2, 1000, rfl, .lst (SqL.of hu) (.cons (.lst (SqL.of h0) (.cons .non (.cons (.bl _) (.cons (.bl _) .nil)))) (.cons (.lst (SqL.of h1) (.cons (.int 0) (.cons (.bl _) (.cons (.bl _) .nil)))) (.cons (.lst (SqL.of h2) (.cons (.str _) (.cons (.bl _) (.cons (.bl _) .nil)))) .nil))), out_fine, by decide, by decide, ?_⟩
    refine ⟨(by show 3 ≤ sizeLine; decide), fun M1 n1 => ⟨(by show 3 ≤ sizeLine; decide), fun M2 n2 => ⟨(by show 3 ≤ sizeLine; decide), fun M3 n3 => ⟨(by show 3 ≤ sizeLine; decide), fun M4 n4 => ?_⟩⟩⟩⟩
    have q1 := same_upd (o := .lst [V.non, V.bl true, V.bl false]) n1
    have q2 := same_upd (o := .lst [V.int 0, V.bl true, V.bl false]) n2
    have q3 := same_upd (o := .lst [V.str "x", V.bl true, V.bl false]) n3
    have q4 := same_upd (o := .lst [V.ref M1, V.ref M2, V.ref M3]) n4
    refine ⟨M4, outD, 2, 1000, rfl, .lst (SqL.of upd_same) (.cons (.lst (SqL.of (q4 _ _ (q3 _ _ (q2 _ _ upd_same)))) (.cons .non (.cons (.bl _) (.cons (.bl _) .nil)))) (.cons (.lst (SqL.of (q4 _ _ (q3 _ _ upd_same))) (.cons (.int 0) (.cons (.bl _) (.cons (.bl _) .nil)))) (.cons (.lst (SqL.of (q4 _ _ upd_same)) (.cons (.str _) (.cons (.bl _) (.cons (.bl _) .nil)))) .nil))), out_fine, by decide, by decide, ?_⟩
    refine ⟨rfl, ?_⟩
    rw [decide_eq_true rfl]
    refine q _ fun c o e => q4 _ _ (q3 _ _ (q2 _ _ (q1 _ _ (kp _ _ (sH4 _ _ e) (ne_of_none e nu)))))
theorem ok_noroom {C W CH CN CF CB CR CS : Addr} (ES : ErrM K mg CH CN CF CB CR CS) (T : At K mg "_law_no_room" s_law_no_room ["_law_walk", "_law_thing"]) (B : Bt mg) (m_step : MetX P w K mg base 9 W "step" ["self", "room", "to"] (spStepW C W CR CS)) : CalG P w K mg base 10 "_law_no_room" ["_law_walk", "_law_thing"] (spNoRoom C W) := by
  refine cal_ofG T sc_law_no_room (fun vs H Q E h => ?_) (fun f cdv A outer s H vs Q E hg hr h => ?_)
  · obtain ⟨p, x, r, l, s, v, g, q0, row, rfl, _⟩ := h
    rfl
  obtain ⟨p, x, r, l, sg, v, g, q0, row, rfl, wk, ok, rl, eat, er, tv, sh, eg, q⟩ := h
  have hNR := ES.nr
  refine ⟨_, (pss_cons (ps_try_in (i := 2) (Wo := fun _ _ _ _ => False) rfl rfl rfl sc_law_no_room.nd rfl rfl ⟨rfl, by decide, Or.inl hNR⟩ takes0 (fun W pn xe tk _ => (pss_one (ps_expr (pe_mtX tk m_step hr (by decide) (pv 0) (pa_cons (pv 1) (pa_cons pe_int pa_nil)))))) (fun a pn => (pss_cons (ps_set (i := 3) sc_law_no_room.nd rfl (Or.inl rfl) (pe_and (pe_callB call_isiE (by rfl) B.isinstance (by decide +kernel) (pa_cons (pv 2) (pa_cons (pe_bltn (v := .ty "LookupError") (u := .type "LookupError") (by rfl) ES.le (by decide +kernel) rfl) pa_nil))) (pe_one (pe_not (pe_callB call_isiET (by rfl) B.isinstance (by decide +kernel) (pa_cons (pv 2) (pa_cons (pe_tupF (pa_cons (pe_glob (v := .ref CH) (by rfl) ES.he rfl) (pa_cons (pe_bltn (v := .ty "IndexError") (u := .type "IndexError") (by rfl) ES.ie (by decide +kernel) rfl) pa_nil))) pa_nil)))))))
      (pss_one (ps_ret (pe_and (pv 3) (pe_one (pe_cmpR op_eq (pe_callB (call_reprG hg hr.units) (by rfl) B.repr (by decide +kernel) (pa_cons (pe_xfld (pv 2)) pa_nil)) (pe_callB (call_reprG hg hr.units) (by rfl) B.repr (by decide +kernel) (pa_cons (pv 1) pa_nil)) (nomark _)))))))))
      (pss_one (ps_ret pe_bl))), ?_⟩
  obtain ⟨dx0, k0, a0, ys0, hx0, _⟩ := wk.ex
  refine ⟨_, rfl, x, dx0, _, rfl, hx0, rfl, _, rfl, ?_⟩
  dsimp only [tCons, tC, tNil]
  show spStepW C W CR CS [V.ref x, v, .int 0] H _ _
  refine step_ok wk ok rl tv (.int 0) (fun z => ?_) (fun q1 row1 e1 er1 => ⟨fun _ => ?_, fun z => ?_, fun o to ez _ po _ => ?_⟩)
  · rw [eat] at z
    cases z
  · rw [eat] at e1
    cases e1
    rw [er] at er1
    cases er1
    intro H5 d s5 nd hd
    refine ⟨true, ES.rr, fun _ a pn na => ?_, fun z => by cases z⟩
    have da : d ≠ a := ne_of_none hd na
    have ha : (upd H5 a (exK a (.ref CR) (some d))) a = some (exK a (.ref CR) (some d)) := upd_same
    have hd2 : (upd H5 a (exK a (.ref CR) (some d))) d = some (.xd [("room", v)]) := by
      rw [upd_ne da]
      exact hd
    have s6 := s5.trans (same_upd (o := exK a (.ref CR) (some d)) na)
    have xd : ∀ {H3 : Hp}, Same (upd H5 a (exK a (.ref CR) (some d))) H3 → XdAt H3 (some d) := fun s3 dd ed => by
      cases ed
      exact ⟨_, s3 _ _ hd2⟩
    refine ⟨_, rfl, a, CR, some d, .ty "LookupError", .type "LookupError", true, rfl, .ty "LookupError", ES.xr, ha, xd (Same.refl _), ES.krl, _, rfl, ?_⟩
    refine ⟨_, rfl, (by show 2 ≤ sizeLine; decide), fun tp H7 s7 ntp htp => ?_⟩
    refine ⟨a, CR, tp, some d, [.ref CH, .ty "IndexError"], [.ref CH, .type "IndexError"], false, rfl, .inl htp, .cons (.own CH) (.cons (.ty "IndexError") .nil), ES.xr, s7 _ _ ha, xd s7, ES.kro, ?_⟩
    have tv7 := tv.keep (Keeps.same (p := p) (s6.trans s7))
    refine ⟨_, rfl, _, rfl, _, rfl, ?_⟩
    refine ⟨_, rfl, a, CR, d, _, v, rfl, ES.xr, ES.nofr, s7 _ _ ha, s7 _ _ hd2, (by simp [List.lookup]), p, v, g, rfl, tv7, sh, _, rfl, p, v, g, rfl, tv7, sh, rfl, ?_⟩
    rw [decide_eq_true rfl]
    exact q _ (s6.trans s7)
  · rw [eat] at e1
    cases e1
    rw [er] at er1
    cases er1
    rw [eg] at z
    cases z
  · rw [eat] at e1
    cases e1
    rw [er] at er1
    cases er1
    rw [ez, pick_ask2 po] at eg
    cases eg
end
end Su
/-! ### U1: what asks do to a lay, told without a heap (k06) -/
namespace Su
open PySem PySem.Spec PyProof.Rows L2
theorem putAt_in (xs : List Int) (s : Nat) (r : Int) : r ∈ putAt xs s r := by simp [putAt]
/-- behind an ask the room is there -/
theorem ask_in (way : Str) (xs bs : List Int) (r : Int) : r ∈ (askF way xs bs r).1 := by
  unfold askF
  split
  · exact putAt_in _ _ _
  · split
    · rename_i h
      exact h.2
    · exact List.mem_cons_self
theorem ask_first {xs bs : List Int} {r : Int} (h : r ∈ xs) : askF "first" xs bs r = (xs, bs) := by
  unfold askF
  rw [if_neg (by decide +kernel), if_pos ⟨rfl, h⟩]
/-- asked again, nothing moves but bits -/
theorem ask_again {way : Str} {xs bs : List Int} {r : Int} (hw : way ≠ "tree") : askF way (askF way xs bs r).1 (askF way xs bs r).2 r = askF way xs bs r := by
  by_cases hf : way = "first"
  · subst hf
    exact ask_first (ask_in _ _ _ _)
  · have e : ∀ ys cs : List Int, askF way ys cs r = (putF ys r, cs) := fun ys cs => by
      unfold askF
      rw [if_neg hw, if_neg (fun z => hf z.1)]
    rw [e, e]
    show (putF (putF xs r) r, bs) = (putF xs r, bs)
    have g : goneAt (putF xs r) r = 0 := by
      unfold goneAt putF
      rw [if_pos List.mem_cons_self]
      simp
    have : putF (putF xs r) r = putF xs r := by
      rw [putF, g]
      simp [putF]
    rw [this]
theorem zip_self_ne : ∀ l : List Int, ((l.zip l).filter fun p => decide (p.1 ≠ p.2)) = []
  | [] => rfl
  | x :: l => by
    rw [List.zip_cons_cons, List.filter_cons, if_neg (by simp)]
    exact zip_self_ne l
/-- a tree changes one slot at most -/
theorem putAt_moved {xs : List Int} {s : Nat} {r : Int} (h : s < xs.length) : (((putAt xs s r).zip xs).filter fun p => decide (p.1 ≠ p.2)).length ≤ 1 := by
  have e : xs = xs.take s ++ [xs[s]] ++ xs.drop (s + 1) := by
    rw [List.append_assoc, List.singleton_append, List.getElem_cons_drop, List.take_append_drop]
  have : (putAt xs s r).zip xs = (xs.take s).zip (xs.take s) ++ [(r, xs[s])] ++ (xs.drop (s + 1)).zip (xs.drop (s + 1)) := by
    conv => lhs; arg 2; rw [e]
    rw [putAt, List.zip_append (by simp <;> omega), List.zip_append (by simp)]
    rfl
  rw [this, List.filter_append, List.filter_append, zip_self_ne, zip_self_ne, List.nil_append, List.append_nil]
  exact List.length_filter_le _ _
theorem aw_led2 : ∀ bs ∈ allBits 1, ∀ s ∈ List.range 2, ledF 4 (awayF 4 bs 0 (((2 : Nat) : Int) / 2) (s : Nat)) 0 0 (((2 : Nat) : Int) / 2) ≠ ((s : Nat) : Int) := by decide +kernel
theorem aw_led4 : ∀ bs ∈ allBits 3, ∀ s ∈ List.range 4, ledF 4 (awayF 4 bs 0 (((4 : Nat) : Int) / 2) (s : Nat)) 0 0 (((4 : Nat) : Int) / 2) ≠ ((s : Nat) : Int) := by decide +kernel
theorem aw_led8 : ∀ bs ∈ allBits 7, ∀ s ∈ List.range 8, ledF 4 (awayF 4 bs 0 (((8 : Nat) : Int) / 2) (s : Nat)) 0 0 (((8 : Nat) : Int) / 2) ≠ ((s : Nat) : Int) := by decide +kernel
/-- a tree of two slots and more leads away from the slot just asked for -/
theorem away_led {n : Nat} {bs : List Int} (h : TreeOk n bs) (n2 : 1 < n) {s : Nat} (hs : s < n) : ledF 4 (awayF 4 bs 0 ((n : Int) / 2) (s : Nat)) 0 0 ((n : Int) / 2) ≠ (s : Int) := by
  have hb := mem_allBits _ _ h.bt
  have hr := List.mem_range.mpr hs
  rcases h.sz with rfl | rfl | rfl | rfl
  · omega
  · exact aw_led2 _ hb _ hr
  · exact aw_led4 _ hb _ hr
  · exact aw_led8 _ hb _ hr
theorem putAt_get {xs : List Int} {s : Nat} {r : Int} (h : s < xs.length) : (putAt xs s r)[s]? = some r := by
  rw [putAt, List.append_assoc, List.getElem?_append_right (by rw [List.length_take]; omega), List.length_take, Nat.min_eq_left (by omega), Nat.sub_self]
  rfl
theorem putAt_other {xs : List Int} {s t : Nat} {r : Int} (h : t ≠ s) (ht : t < xs.length) (hs : s < xs.length) : (putAt xs s r)[t]? = xs[t]? := by
  by_cases e : t < s
  · rw [putAt, List.append_assoc, List.getElem?_append_left (by rw [List.length_take]; omega), List.getElem?_take, if_pos e]
  · rw [putAt, List.getElem?_append_right (by rw [List.length_append, List.length_take]; simp; omega), List.getElem?_drop, List.length_append, List.length_take, Nat.min_eq_left (by omega)]
    congr 1
    simp
    omega
/-- .. so the room asked for last stays, where another one is not found -/
theorem tree_fresh {xs bs : List Int} {r r2 : Int} (h : TreeOk xs.length bs) (n2 : 1 < xs.length) (hb : TreeOk xs.length (askF "tree" xs bs r).2) (no : r2 ∉ (askF "tree" xs bs r).1) :
    r ∈ (askF "tree" (askF "tree" xs bs r).1 (askF "tree" xs bs r).2 r2).1 := by
  have e : ∀ ys cs q, askF "tree" ys cs q = (putAt ys (treeAt ys cs q) q, awayF 4 cs 0 ((ys.length : Int) / 2) (treeAt ys cs q : Nat)) := fun ys cs q => by
    unfold askF
    rw [if_pos rfl]
  rw [e xs bs r] at hb no ⊢
  have hs := treeAt_lt (r := r) h
  generalize es : treeAt xs bs r = s at hs hb no ⊢
  replace hb : TreeOk xs.length (awayF 4 bs 0 ((xs.length : Int) / 2) (s : Nat)) := hb
  rw [e]
  have len := putAt_len (r := r) hs
  have ht : treeAt (putAt xs s r) (awayF 4 bs 0 ((xs.length : Int) / 2) (s : Nat)) r2 < xs.length := by
    have := treeAt_lt (xs := putAt xs s r) (r := r2) (by rw [len]; exact hb)
    rw [len] at this
    exact this
  have ne : s ≠ treeAt (putAt xs s r) (awayF 4 bs 0 ((xs.length : Int) / 2) (s : Nat)) r2 := by
    unfold treeAt
    rw [if_neg no, len]
    have a := away_led h n2 hs
    have b := led_ok hb
    omega
  exact List.mem_of_getElem? ((putAt_other ne (by rw [len]; exact hs) (by rw [len]; exact ht)).trans (putAt_get hs))
/-! other names -/
theorem idxOf_map {f : Int → Int} {r : Int} : ∀ {xs : List Int}, (∀ x ∈ xs, f x = f r → x = r) → (xs.map f).idxOf (f r) = xs.idxOf r
  | [], _ => rfl
  | x :: xs, h => by
    rw [List.map_cons, List.idxOf_cons, List.idxOf_cons, idxOf_map fun y hy => h y (List.mem_cons_of_mem _ hy)]
    by_cases e : x = r
    · rw [e, beq_self_eq_true, beq_self_eq_true]
    · have : ¬ f x = f r := fun z => e (h x List.mem_cons_self z)
      rw [beq_eq_false_iff_ne.mpr e, beq_eq_false_iff_ne.mpr this]
theorem mem_map_iff {f : Int → Int} {r : Int} {xs : List Int} (h : ∀ x ∈ xs, f x = f r → x = r) : f r ∈ xs.map f ↔ r ∈ xs := by
  rw [List.mem_map]
  constructor
  · rintro ⟨x, hx, e⟩
    rw [← h x hx e]
    exact hx
  · exact fun hx => ⟨r, hx, rfl⟩
theorem goneAt_map {f : Int → Int} {r : Int} {xs : List Int} (h : ∀ x ∈ xs, f x = f r → x = r) : goneAt (xs.map f) (f r) = goneAt xs r := by
  unfold goneAt
  rw [List.length_map]
  by_cases e : r ∈ xs
  · rw [if_pos e, if_pos ((mem_map_iff h).mpr e), idxOf_map h]
  · rw [if_neg e, if_neg fun z => e ((mem_map_iff h).mp z)]
theorem putF_map {f : Int → Int} {r : Int} {xs : List Int} (h : ∀ x ∈ xs, f x = f r → x = r) : putF (xs.map f) (f r) = (putF xs r).map f := by
  unfold putF
  rw [goneAt_map h, List.map_cons, List.map_append, List.map_take, List.map_drop]
theorem treeAt_map {f : Int → Int} {r : Int} {xs bs : List Int} (h : ∀ x ∈ xs, f x = f r → x = r) : treeAt (xs.map f) bs (f r) = treeAt xs bs r := by
  unfold treeAt
  rw [List.length_map]
  by_cases e : r ∈ xs
  · rw [if_pos e, if_pos ((mem_map_iff h).mpr e), idxOf_map h]
  · rw [if_neg e, if_neg fun z => e ((mem_map_iff h).mp z)]
/-- asks don't look at what a room is called -/
theorem ask_map {way : Str} {f : Int → Int} {r : Int} {xs bs : List Int} (h : ∀ x ∈ xs, f x = f r → x = r) : askF way (xs.map f) bs (f r) = ((askF way xs bs r).1.map f, (askF way xs bs r).2) := by
  unfold askF
  by_cases e : way = "tree"
  · rw [if_pos e, if_pos e, treeAt_map h, List.length_map]
    simp only [putAt, List.map_append, List.map_take, List.map_drop, List.map_cons, List.map_nil]
  · rw [if_neg e, if_neg e]
    by_cases e2 : way = "first" ∧ r ∈ xs
    · rw [if_pos e2, if_pos ⟨e2.1, (mem_map_iff h).mpr e2.2⟩]
    · rw [if_neg e2, if_neg fun z => e2 ⟨z.1, (mem_map_iff h).mp z.2⟩, putF_map h]
/-! what was asked for last stands ahead -/
theorem take_filter {r : Int} : ∀ (L : List Int) (m : Nat), L.count r ≤ 1 → (L.filter fun x => !decide (x = r)).take m = ((L.take (m + 1)).filter fun x => !decide (x = r)).take m
  | [], m, _ => by simp
  | x :: L, m, h => by
    rw [List.take_succ_cons, List.filter_cons, List.filter_cons]
    by_cases e : x = r
    · subst e
      have h0 : x ∉ L := by
        intro z
        have := List.count_pos_iff.mpr z
        rw [List.count_cons_self] at h
        omega
      rw [if_neg (by simp), if_neg (by simp), filter_none h0, filter_none (fun z => h0 (List.mem_of_mem_take z)), List.take_take, Nat.min_self]
    · rw [if_pos (by simp [e]), if_pos (by simp [e])]
      cases m with
      | zero => rfl
      | succ m =>
        rw [List.take_succ_cons, List.take_succ_cons, take_filter L m (by rw [List.count_cons_of_ne e] at h; exact h)]
theorem put_take {r : Int} {L : List Int} {n : Nat} (h : L.count r ≤ 1) (n0 : 0 < n) (hn : n ≤ L.length) : putF (L.take n) r = (r :: L.filter fun x => !decide (x = r)).take n := by
  have len : (L.take n).length = n := by rw [List.length_take]; omega
  have c : (L.take n).count r ≤ 1 := Nat.le_trans (List.Sublist.count_le r (List.take_sublist n L)) h
  rw [← put_filter c (by omega), len]
  obtain ⟨m, rfl⟩ : ∃ m, n = m + 1 := ⟨n - 1, by omega⟩
  rw [List.take_succ_cons, List.take_succ_cons, ← take_filter L m h]
/-- a row of rooms and slots: each room once, where it stands first -/
def keepF : List Int → List Int
  | [] => []
  | r :: rs => r :: (keepF rs).filter fun x => decide (x < 0) || !decide (x = r)
theorem keepF_sub {x : Int} : ∀ {rs : List Int}, x ∈ keepF rs → x ∈ rs
  | [], h => h
  | r :: rs, h => by
    rcases List.mem_cons.mp h with rfl | h
    · exact List.mem_cons_self
    · exact List.mem_cons_of_mem _ (keepF_sub (List.mem_filter.mp h).1)
theorem keepF_count {x : Int} (h0 : 0 ≤ x) : ∀ rs : List Int, (keepF rs).count x ≤ 1
  | [] => by simp [keepF]
  | r :: rs => by
    have ih := keepF_count h0 rs
    rw [keepF]
    by_cases e : r = x
    · subst e
      rw [List.count_cons_self, List.count_eq_zero_of_not_mem (fun z => by have := (List.mem_filter.mp z).2; simp at this; omega)]
      omega
    · rw [List.count_cons_of_ne e]
      exact Nat.le_trans (List.Sublist.count_le x List.filter_sublist) ih
theorem keepF_cons {r : Int} (h0 : 0 ≤ r) (rs : List Int) : keepF (r :: rs) = r :: (keepF rs).filter fun x => !decide (x = r) := by
  rw [keepF]
  congr 1
  refine List.filter_congr fun x _ => ?_
  by_cases e : x = r
  · subst e
    simp
    omega
  · simp [e]
theorem keepF_self : ∀ {xs : List Int}, (∀ v, v ≠ -1 → xs.count v ≤ 1) → (∀ x ∈ xs, -1 ≤ x) → keepF xs = xs
  | [], _, _ => rfl
  | r :: rs, h1, h2 => by
    have ih : keepF rs = rs := keepF_self (fun v hv => Nat.le_trans (List.Sublist.count_le v (List.sublist_cons_self r rs)) (h1 v hv)) fun x hx => h2 x (List.mem_cons_of_mem _ hx)
    rw [keepF, ih, List.filter_eq_self.mpr]
    intro x hx
    by_cases e : x = r
    · subst e
      have := List.count_pos_iff.mpr hx
      by_cases z : x = -1
      · subst z
        rfl
      · have := h1 x z
        rw [List.count_cons_self] at this
        omega
    · simp [e]
theorem keepF_len {r : Int} (h0 : 0 ≤ r) (rs : List Int) : (keepF rs).length ≤ (keepF (r :: rs)).length := by
  rw [keepF_cons h0, List.length_cons]
  have := filter_len r (keepF rs)
  have := keepF_count h0 rs
  omega
/-- the slots of a shelf of the way "last", behind a row of asks (told backwards) -/
def stF (cells : List Int) : List Int → List Int
  | [] => cells
  | r :: rs => putF (stF cells rs) r
theorem stF_is {n : Nat} {cells : List Int} (sl : Slots n cells) (n0 : 0 < n) : ∀ {rs : List Int}, (∀ r ∈ rs, 0 ≤ r) → n ≤ (keepF (rs ++ cells)).length ∧ stF cells rs = (keepF (rs ++ cells)).take n
  | [], _ => by
    rw [List.nil_append, keepF_self sl.one fun x hx => (sl.rng x hx).1]
    exact ⟨Nat.le_of_eq sl.len.symm, by rw [← sl.len, List.take_length]; rfl⟩
  | r :: rs, h => by
    obtain ⟨h1, h2⟩ := stF_is sl n0 (rs := rs) fun x hx => h x (List.mem_cons_of_mem _ hx)
    have r0 := h r List.mem_cons_self
    rw [List.cons_append]
    refine ⟨Nat.le_trans h1 (keepF_len r0 _), ?_⟩
    rw [stF, h2, put_take (keepF_count r0 _) n0 h1, keepF_cons r0]
/-- as _law_lasts finds it -/
theorem lasts_is : ∀ (rs acc : List Int), rs.foldl (fun a x => if x < 0 ∨ x ∉ a then a ++ [x] else a) acc = acc ++ (keepF rs).filter fun x => decide (x < 0 ∨ x ∉ acc)
  | [], acc => by simp [keepF]
  | r :: rs, acc => by
    rw [List.foldl_cons, lasts_is rs, keepF, List.filter_cons, List.filter_filter]
    by_cases e : r < 0 ∨ r ∉ acc
    · rw [if_pos e, if_pos (by simpa using e), List.append_assoc, List.singleton_append]
      congr 2
      refine List.filter_congr fun x _ => ?_
      rw [Bool.eq_iff_iff]
      simp only [decide_eq_true_eq, Bool.and_eq_true, Bool.or_eq_true, Bool.not_eq_true', decide_eq_false_iff_not, List.mem_append, List.mem_singleton]
      by_cases x0 : x < 0 <;> simp [x0]
    · rw [if_neg e, if_neg (by simpa using e)]
      congr 1
      refine List.filter_congr fun x _ => ?_
      rw [Bool.eq_iff_iff]
      simp only [decide_eq_true_eq, Bool.and_eq_true, Bool.or_eq_true, Bool.not_eq_true', decide_eq_false_iff_not]
      constructor
      · intro z
        refine ⟨z, ?_⟩
        by_cases x0 : x < 0
        · exact .inl x0
        · refine .inr fun er => ?_
          subst er
          exact e z
      · exact fun z => z.1
theorem keepF_app {n : Nat} : ∀ rs : List Int, keepF (rs ++ List.replicate n (-1)) = keepF rs ++ List.replicate n (-1)
  | [] => by
    refine keepF_self (fun v hv => ?_) fun x hx => by rw [(List.mem_replicate.mp hx).2]; omega
    show (List.replicate n (-1)).count v ≤ 1
    rw [List.count_eq_zero_of_not_mem fun z => hv (List.mem_replicate.mp z).2]
    omega
  | r :: rs => by
    rw [List.cons_append, keepF, keepF_app rs, List.filter_append, keepF, List.cons_append]
    congr 2
    refine List.filter_eq_self.mpr fun x hx => ?_
    rw [(List.mem_replicate.mp hx).2]
    rfl
theorem empty_slots {n : Nat} : Slots n (List.replicate n (-1)) := ⟨List.length_replicate, fun x hx => by rw [(List.mem_replicate.mp hx).2]; omega, fun v hv => by rw [List.count_eq_zero_of_not_mem fun z => hv (List.mem_replicate.mp z).2]; omega⟩
/-- what a shelf of the way "last" holds, a greater one holds, too -/
theorem last_in {n m : Nat} (n0 : 0 < n) (hm : n ≤ m) {rs : List Int} (h : ∀ r ∈ rs, 0 ≤ r) {x : Int} (x0 : 0 ≤ x) (hx : x ∈ stF (List.replicate n (-1)) rs) : x ∈ stF (List.replicate m (-1)) rs := by
  rw [(stF_is empty_slots n0 h).2, keepF_app, List.take_append] at hx
  rw [(stF_is empty_slots (by omega) h).2, keepF_app, List.take_append]
  rcases List.mem_append.mp hx with z | z
  · refine List.mem_append.mpr (.inl ?_)
    have e : (keepF rs).take n = ((keepF rs).take m).take n := by rw [List.take_take, Nat.min_eq_left hm]
    rw [e] at z
    exact List.mem_of_mem_take z
  · have := (List.mem_replicate.mp (List.mem_of_mem_take z)).2
    omega
end Su
/-! ### V2: shelves made with fewer arguments (k06) -/
namespace Su
open PySem PySem.Spec PyProof.Rows L2
theorem rep_ints (i : Int) (n : Nat) : (List.replicate n [V.int i]).flatten = (List.replicate n i).map V.int := by
  rw [List.map_replicate, List.flatten_replicate_singleton]
/-- the bits of a new shelf -/
def newB (n : Nat) (st : Str) : List Int := List.replicate (bitsN n st).toNat 0
theorem lay_new {n : Nat} {st : Str} {xs : List Int} (sl : Slots n xs) (n1 : 1 ≤ n) (n8 : n ≤ 8) (nt : st = "tree" → n = 1 ∨ n = 2 ∨ n = 4 ∨ n = 8) : LayOk st n xs (newB n st) := by
  refine ⟨sl, n1, n8, fun e => ⟨nt e, ?_⟩, fun e => ?_⟩
  · unfold newB bitsN
    rw [if_pos e]
    refine ⟨?_, fun x hx => .inl (List.mem_replicate.mp hx).2⟩
    rw [List.length_replicate]
    omega
  · unfold newB bitsN
    rw [if_neg e]
    rfl
theorem part_of {n : Nat} {st : Str} {xs bs : List Int} {gc gm : G} (h : LayOk st n xs bs) (hw : inV (.str st) wayVs = true) (hc : gc = .tup (xs.map G.int) ∨ gc = .non) (hm : gm = .tup (bs.map G.int) ∨ gm = .non) : partG (.int n) (.str st) gc gm = none := by
  have z := part_lay h hw
  unfold partG at z ⊢
  split at z
  · rename_i e1
    rw [if_pos e1]
    split at z
    · rename_i e2
      rw [if_pos e2]
      split at z
      · cases z
      · rename_i e3
        split at z
        · cases z
        · rename_i e4
          rw [if_neg, if_neg]
          · rcases hm with rfl | rfl
            · exact e4
            · exact fun y => by cases y
          · rcases hc with rfl | rfl
            · exact e3
            · exact fun y => by cases y
    · cases z
  · cases z
def spInit3 (C : Addr) : Sp := fun vs H Q _ => ∃ (x dx a : Addr) (n : Nat) (st : Str) (xs : List Int), vs = [.ref x, .int n, .str st, .ref a, .non] ∧ H x = some (.ins C dx []) ∧ PTup H a (xs.map V.int) ∧ LayOk st n xs (newB n st) ∧ inV (.str st) wayVs = true ∧
  ∀ b H', But x H H' → PTup H' b ((newB n st).map V.int) → H' x = some (.ins C dx (shF (.int n) (.str st) (.ref a) (.ref b) 0 0)) → Q .non H'
def spInit2 (C : Addr) : Sp := fun vs H Q _ => ∃ (x dx : Addr) (n : Nat) (st : Str), vs = [.ref x, .int n, .str st, .non, .non] ∧ H x = some (.ins C dx []) ∧ LayOk st n (List.replicate n (-1)) (newB n st) ∧ inV (.str st) wayVs = true ∧
  ∀ a b H', But x H H' → PTup H' a ((List.replicate n (-1)).map V.int) → PTup H' b ((newB n st).map V.int) → H' x = some (.ins C dx (shF (.int n) (.str st) (.ref a) (.ref b) 0 0)) → Q .non H'
section
variable {P : Program} {w : World} {K : PySem.W.Frag} {mg : Str → Option Value} {base : Heap}
theorem ok_init3 {C : Addr} (SC : ShC K C) (D : Gb K mg) (B : Bt mg) {f : Addr} {fd : FuncData} {dvs : List V} {kws : List (Str × V)} (F : FunD K "__init__" "Shelf.__init__" (defArgs sS_init) (defBody sS_init) (defScope sS_init) dvs kws f fd)
    (c_wrong_part : Cal P w K mg base 5 "wrong_part" ["size", "way", "slots", "bits"] spPart) (c_how_many_bits : Cal P w K mg base 1 "how_many_bits" ["size", "way"] spHow) : FnOk P w K mg base CX0 6 f fd ["self", "size", "way", "slots", "bits"] (spInit3 C) := by
  obtain ⟨te, mEmpty⟩ := D.empty
  refine FunD.ok (CX := CX0) F scS_init (fun vs H Q E h => ?_) (fun cdv A outer s H vs Q E hr h => ?_)
  · obtain ⟨x, dx, a, n, st, xs, rfl, _⟩ := h
    rfl
  · obtain ⟨x, dx, a, n, st, xs, rfl, hx, ha, ok, hw, q⟩ := h
    refine ⟨_, (pss_cons (ps_set (i := 5) scS_init.nd rfl (Or.inl rfl) (pe_own c_wrong_part hr (by decide) (by rfl) (pa_cons (pv 1) (pa_cons (pv 2) (pa_cons (pv 3) (pa_cons (pv 4) pa_nil))))))
      (pss_cons (ps_if (pt_cmpR op_notN (pv 5) pe_non (nomark _)) (pss_one ps_never) pss_nil)
      (pss_cons (ps_fld (pv 0) (pv 1) (by rfl))
      (pss_cons (ps_fld (pv 0) (pv 2) (by rfl))
      (pss_cons (ps_fld (pv 0) (pe_ifExp (pt_cmpR op_isN (pv 3) pe_non (nomark _)) (pe_op op_repF (pe_tupF (pa_cons (pe_glob (v := .int (-1)) rfl mEmpty ⟨_, rfl⟩) pa_nil)) (pv 1)) (pe_callTy call_tupleT (by rfl) B.tuple (by decide +kernel) (pa_cons (pv 3) pa_nil))) (by rfl))
      (pss_cons (ps_fld (pv 0) (pe_ifExp (pt_cmpR op_isN (pv 4) pe_non (nomark _)) (pe_op op_repF (pe_tupF (pa_cons pe_int pa_nil)) (pe_own c_how_many_bits hr (by decide) (by rfl) (pa_cons (pv 1) (pa_cons (pv 2) pa_nil)))) (pe_callTy call_tupleT (by rfl) B.tuple (by decide +kernel) (pa_cons (pv 4) pa_nil))) (by rfl))
      (pss_cons (ps_fld (pv 0) pe_int (by rfl))
      (pss_one (ps_fld (pv 0) pe_int (by rfl)))))))))), ?_⟩
    have l1 : xs.length ≤ 100 := by
      have := ok.sl.len
      have := ok.few
      omega
    refine ⟨_, rfl, _, rfl, _, rfl, _, rfl, 0, .int n, .str st, .ref a, .non, .int n, .str st, .tup (xs.map G.int), .non, rfl, .int n, .str st, .tup (.inl ha) (tg_ints xs), .non, (by show (xs.map G.int).length ≤ 100; rw [List.length_map]; exact l1), (by trivial), fun H1 s1 => ?_⟩
    rw [part_of ok hw (.inl rfl) (.inr rfl)]
    refine ⟨_, rfl, rfl, _, rfl, iteB (fun z => by cases z) (fun _ => ?_)⟩
    have hx1 := s1 _ _ hx
    refine ⟨_, rfl, _, rfl, x, C, dx, [], rfl, hx1, SC.cl, SC.many, (by decide), ?_⟩
    refine ⟨_, rfl, _, rfl, x, C, dx, _, rfl, upd_same, SC.cl, SC.kept, (by show 1 < 1000; decide), ?_⟩
    have hx3 : (upd (upd H1 x (.ins C dx (L2.putF "many" (.int n) []))) x (.ins C dx (L2.putF "kept_by" (.str st) (L2.putF "many" (.int n) [])))) x = some (.ins C dx [("many", .int n), ("kept_by", .str st)]) := upd_same
    have b3 : But x H (upd (upd H1 x (.ins C dx (L2.putF "many" (.int n) []))) x (.ins C dx (L2.putF "kept_by" (.str st) (L2.putF "many" (.int n) [])))) := ((But.same s1).trans (But.upd x _ _)).trans (But.upd x _ _)
    generalize upd (upd H1 x (.ins C dx (L2.putF "many" (.int n) []))) x (.ins C dx (L2.putF "kept_by" (.str st) (L2.putF "many" (.int n) []))) = H3 at hx3 b3 ⊢
    refine ⟨_, rfl, rfl, _, rfl, iteB (fun z => by cases z) (fun _ => ?_)⟩
    refine ⟨_, rfl, a, _, rfl, (ha.but b3 hx).sq, ?_⟩
    refine ⟨_, rfl, x, C, dx, _, rfl, hx3, SC.cl, SC.slots, (by show 2 < 1000; decide), ?_⟩
    have hx4 : (upd H3 x (.ins C dx (L2.putF "slots" (.ref a) [("many", .int n), ("kept_by", .str st)]))) x = some (.ins C dx [("many", .int n), ("kept_by", .str st), ("slots", .ref a)]) := upd_same
    have b4 := b3.trans (But.upd x H3 (.ins C dx (L2.putF "slots" (.ref a) [("many", .int n), ("kept_by", .str st)])))
    generalize upd H3 x (.ins C dx (L2.putF "slots" (.ref a) [("many", .int n), ("kept_by", .str st)])) = H4 at hx4 b4 ⊢
    refine ⟨_, rfl, rfl, _, rfl, iteB (fun _ => ?_) (fun z => by cases z)⟩
    refine ⟨(by show 1 ≤ sizeLine; decide), fun t H6 s6 nt pt => ?_⟩
    have hb : 0 ≤ bitsN n st ∧ bitsN n st ≤ 1000 := by
      have := ok.pos
      have := ok.few
      unfold bitsN
      split <;> omega
    refine ⟨_, rfl, _, rfl, n, st, rfl, t, bitsN n st, [V.int 0], rfl, rfl, pt, (by simp), hb.1, hb.2, (by show 1 ≤ 1000; decide), fun b H7 s7 hv => ?_⟩
    rw [rep_ints] at hv
    have hx7 := s7 _ _ (s6 _ _ hx4)
    have b7 := (b4.trans (But.same s6)).trans (But.same s7)
    refine ⟨_, rfl, x, C, dx, _, rfl, hx7, SC.cl, SC.bits, (by show 3 < 1000; decide), ?_⟩
    refine ⟨_, rfl, x, C, dx, _, rfl, upd_same, SC.cl, SC.near, (by show 4 < 1000; decide), ?_⟩
    refine ⟨_, rfl, x, C, dx, _, rfl, upd_same, SC.cl, SC.far, (by show 5 < 1000; decide), ?_⟩
    exact q b _ (((b7.trans (But.upd x _ _)).trans (But.upd x _ _)).trans (But.upd x _ _)) (((hv.but (But.upd x _ _) hx7).but (But.upd x _ _) upd_same).but (But.upd x _ _) upd_same) upd_same
theorem ok_init2 {C : Addr} (SC : ShC K C) (D : Gb K mg) (B : Bt mg) {f : Addr} {fd : FuncData} {dvs : List V} {kws : List (Str × V)} (F : FunD K "__init__" "Shelf.__init__" (defArgs sS_init) (defBody sS_init) (defScope sS_init) dvs kws f fd)
    (c_wrong_part : Cal P w K mg base 5 "wrong_part" ["size", "way", "slots", "bits"] spPart) (c_how_many_bits : Cal P w K mg base 1 "how_many_bits" ["size", "way"] spHow) : FnOk P w K mg base CX0 6 f fd ["self", "size", "way", "slots", "bits"] (spInit2 C) := by
  obtain ⟨te, mEmpty⟩ := D.empty
  refine FunD.ok (CX := CX0) F scS_init (fun vs H Q E h => ?_) (fun cdv A outer s H vs Q E hr h => ?_)
  · obtain ⟨x, dx, n, st, rfl, _⟩ := h
    rfl
  · obtain ⟨x, dx, n, st, rfl, hx, ok, hw, q⟩ := h
    refine ⟨_, (pss_cons (ps_set (i := 5) scS_init.nd rfl (Or.inl rfl) (pe_own c_wrong_part hr (by decide) (by rfl) (pa_cons (pv 1) (pa_cons (pv 2) (pa_cons (pv 3) (pa_cons (pv 4) pa_nil))))))
      (pss_cons (ps_if (pt_cmpR op_notN (pv 5) pe_non (nomark _)) (pss_one ps_never) pss_nil)
      (pss_cons (ps_fld (pv 0) (pv 1) (by rfl))
      (pss_cons (ps_fld (pv 0) (pv 2) (by rfl))
      (pss_cons (ps_fld (pv 0) (pe_ifExp (pt_cmpR op_isN (pv 3) pe_non (nomark _)) (pe_op op_repF (pe_tupF (pa_cons (pe_glob (v := .int (-1)) rfl mEmpty ⟨_, rfl⟩) pa_nil)) (pv 1)) (pe_callTy call_tupleT (by rfl) B.tuple (by decide +kernel) (pa_cons (pv 3) pa_nil))) (by rfl))
      (pss_cons (ps_fld (pv 0) (pe_ifExp (pt_cmpR op_isN (pv 4) pe_non (nomark _)) (pe_op op_repF (pe_tupF (pa_cons pe_int pa_nil)) (pe_own c_how_many_bits hr (by decide) (by rfl) (pa_cons (pv 1) (pa_cons (pv 2) pa_nil)))) (pe_callTy call_tupleT (by rfl) B.tuple (by decide +kernel) (pa_cons (pv 4) pa_nil))) (by rfl))
      (pss_cons (ps_fld (pv 0) pe_int (by rfl))
      (pss_one (ps_fld (pv 0) pe_int (by rfl)))))))))), ?_⟩
    refine ⟨_, rfl, _, rfl, _, rfl, _, rfl, 0, .int n, .str st, .non, .non, .int n, .str st, .non, .non, rfl, .int n, .str st, .non, .non, (by trivial), (by trivial), fun H1 s1 => ?_⟩
    rw [part_of ok hw (.inr rfl) (.inr rfl)]
    refine ⟨_, rfl, rfl, _, rfl, iteB (fun z => by cases z) (fun _ => ?_)⟩
    have hx1 := s1 _ _ hx
    refine ⟨_, rfl, _, rfl, x, C, dx, [], rfl, hx1, SC.cl, SC.many, (by decide), ?_⟩
    refine ⟨_, rfl, _, rfl, x, C, dx, _, rfl, upd_same, SC.cl, SC.kept, (by show 1 < 1000; decide), ?_⟩
    have hx3 : (upd (upd H1 x (.ins C dx (L2.putF "many" (.int n) []))) x (.ins C dx (L2.putF "kept_by" (.str st) (L2.putF "many" (.int n) [])))) x = some (.ins C dx [("many", .int n), ("kept_by", .str st)]) := upd_same
    have b3 : But x H (upd (upd H1 x (.ins C dx (L2.putF "many" (.int n) []))) x (.ins C dx (L2.putF "kept_by" (.str st) (L2.putF "many" (.int n) [])))) := ((But.same s1).trans (But.upd x _ _)).trans (But.upd x _ _)
    generalize upd (upd H1 x (.ins C dx (L2.putF "many" (.int n) []))) x (.ins C dx (L2.putF "kept_by" (.str st) (L2.putF "many" (.int n) []))) = H3 at hx3 b3 ⊢
    refine ⟨_, rfl, rfl, _, rfl, iteB (fun _ => ?_) (fun z => by cases z)⟩
    refine ⟨(by show 1 ≤ sizeLine; decide), fun t0 H8 s8 nt0 pt0 => ?_⟩
    have n8 := ok.few
    have n1 := ok.pos
    refine ⟨_, rfl, t0, n, [V.int (-1)], rfl, rfl, pt0, (by simp), by omega, by omega, (by show 1 ≤ 1000; decide), fun a H9 s9 ha => ?_⟩
    rw [rep_ints] at ha
    replace hx3 := s9 _ _ (s8 _ _ hx3)
    replace b3 := (b3.trans (But.same s8)).trans (But.same s9)
    refine ⟨_, rfl, x, C, dx, _, rfl, hx3, SC.cl, SC.slots, (by show 2 < 1000; decide), ?_⟩
    have hx4 : (upd H9 x (.ins C dx (L2.putF "slots" (.ref a) [("many", .int n), ("kept_by", .str st)]))) x = some (.ins C dx [("many", .int n), ("kept_by", .str st), ("slots", .ref a)]) := upd_same
    have ha4 := ha.but (But.upd x H9 (.ins C dx (L2.putF "slots" (.ref a) [("many", .int n), ("kept_by", .str st)]))) hx3
    have b4 := b3.trans (But.upd x H9 (.ins C dx (L2.putF "slots" (.ref a) [("many", .int n), ("kept_by", .str st)])))
    generalize upd H9 x (.ins C dx (L2.putF "slots" (.ref a) [("many", .int n), ("kept_by", .str st)])) = H4 at hx4 b4 ha4 ⊢
    refine ⟨_, rfl, rfl, _, rfl, iteB (fun _ => ?_) (fun z => by cases z)⟩
    refine ⟨(by show 1 ≤ sizeLine; decide), fun t H6 s6 nt pt => ?_⟩
    have hb : 0 ≤ bitsN n st ∧ bitsN n st ≤ 1000 := by
      have := ok.pos
      have := ok.few
      unfold bitsN
      split <;> omega
    refine ⟨_, rfl, _, rfl, n, st, rfl, t, bitsN n st, [V.int 0], rfl, rfl, pt, (by simp), hb.1, hb.2, (by show 1 ≤ 1000; decide), fun b H7 s7 hv => ?_⟩
    rw [rep_ints] at hv
    have ha7 := (ha4.same s6).same s7
    have hx7 := s7 _ _ (s6 _ _ hx4)
    have b7 := (b4.trans (But.same s6)).trans (But.same s7)
    refine ⟨_, rfl, x, C, dx, _, rfl, hx7, SC.cl, SC.bits, (by show 3 < 1000; decide), ?_⟩
    refine ⟨_, rfl, x, C, dx, _, rfl, upd_same, SC.cl, SC.near, (by show 4 < 1000; decide), ?_⟩
    refine ⟨_, rfl, x, C, dx, _, rfl, upd_same, SC.cl, SC.far, (by show 5 < 1000; decide), ?_⟩
    exact q a b _ (((b7.trans (But.upd x _ _)).trans (But.upd x _ _)).trans (But.upd x _ _)) (((ha7.but (But.upd x _ _) hx7).but (But.upd x _ _) upd_same).but (But.upd x _ _) upd_same) (((hv.but (But.upd x _ _) hx7).but (But.upd x _ _) upd_same).but (But.upd x _ _) upd_same) upd_same
end
/-- the class, called with fewer arguments -/
structure MakD (P : Program) (w : World) (K : PySem.W.Frag) (mg : Str → Option Value) (base : Heap) (k : Nat) (C : Addr) (dvs : List V) (sp : Sp) : Prop where
  ex : ∃ (f : Addr) (fd : FuncData) (ds : List Value), L2.Mk K C f ∧ FnOk P w K mg base CX0 k f fd ["self", "size", "way", "slots", "bits"] sp ∧ mg "Shelf" = some (.ref C) ∧ Vals dvs ds ∧ Binds K fd ["self", "size", "way", "slots", "bits"] ds
theorem pe_shelfD {X : Cx} {k j : Nat} {C : Addr} {sp : Sp} {e : Expr} {es : List Expr} {t : TA} {pos p : Pos} {dvs : List V} (c : MakD X.prog X.w X.K X.mg X.base k C dvs sp) (hr : Room j X.A) (hk : k + 1 ≤ j) (hg : Gl X "Shelf") (ha : PA X (e :: es) t)
    (he : starEach (e :: es) X.env = (false, eval e X.env) :: starEach es X.env := by rfl) (hpl : (backTo pos (starEach es X.env)).any (·.1) = false := by rfl) :
    PE X (.Call (.Name "Shelf" p) (e :: es) [] pos) (tMake C sp dvs E0 t) := by
  obtain ⟨f, fd, ds, M, F, hm, v, b⟩ := c.ex
  exact pe_make M F (hr.mono hk) hg hm b v (fun _ _ _ _ _ _ _ h => h.elim) ha (he := he) (hpl := hpl)
theorem mak3_of {P : Program} {w : World} {K : PySem.W.Frag} {mg : Str → Option Value} {base : Heap} {C f : Addr} {fd : FuncData} {k : Nat} {sp : Sp} (M : L2.Mk K C f) (hm : mg "Shelf" = some (.ref C)) (F : FunD K "__init__" "Shelf.__init__" (defArgs sS_init) (defBody sS_init) (defScope sS_init) [.int 4, .str "last", .non, .non] [] f fd) (o : FnOk P w K mg base CX0 k f fd ["self", "size", "way", "slots", "bits"] sp) : MakD P w K mg base k C [.non] sp := by
  obtain ⟨ds, h1, h2⟩ := F.binds1 (ps := ["self", "size", "way", "slots", "bits"]) 4 3 (by simp) rfl fun T kV doc pm an cdv ct us its hu hi => match us, its, hu, hi with | [_, _, _, _], [_, _, _, _], _, _ => ⟨_, rfl, rfl⟩
  exact ⟨f, fd, ds, M, o, hm, h1, h2⟩
theorem mak2_of {P : Program} {w : World} {K : PySem.W.Frag} {mg : Str → Option Value} {base : Heap} {C f : Addr} {fd : FuncData} {k : Nat} {sp : Sp} (M : L2.Mk K C f) (hm : mg "Shelf" = some (.ref C)) (F : FunD K "__init__" "Shelf.__init__" (defArgs sS_init) (defBody sS_init) (defScope sS_init) [.int 4, .str "last", .non, .non] [] f fd) (o : FnOk P w K mg base CX0 k f fd ["self", "size", "way", "slots", "bits"] sp) : MakD P w K mg base k C [.non, .non] sp := by
  obtain ⟨ds, h1, h2⟩ := F.binds1 (ps := ["self", "size", "way", "slots", "bits"]) 3 2 (by simp) rfl fun T kV doc pm an cdv ct us its hu hi => match us, its, hu, hi with | [_, _, _], [_, _, _, _], _, _ => ⟨_, rfl, rfl⟩
  exact ⟨f, fd, ds, M, o, hm, h1, h2⟩
end Su
/-! ### L3: _law_long -/
namespace Su
open PySem PySem.Spec PyProof.Rows L2
def spShelfW (C W : Addr) : Sp := fun vs H Q E => ∃ (x dx k : Addr) (vr vp va vl : V), vs = [.ref x] ∧ H x = some (.ins W dx (wkF vr vp (.ref k) va vl)) ∧ spTwin C [.ref k] H Q E
def spLenW (W : Addr) : Sp := fun vs H Q _ => ∃ (x dx l : Addr) (vr vp vk va : V) (ys : List V), vs = [.ref x] ∧ H x = some (.ins W dx (wkF vr vp vk va (.ref l))) ∧ H l = some (.lst ys) ∧ Q (.int ys.length) H
section
variable {X : Cx} {k j : Nat} {C : Addr} {x : Str} {ps : List Str} {sp : Sp} {p pos : Pos} {dvs : List V}
theorem pe_shelf0 (c : MakD X.prog X.w X.K X.mg X.base k C dvs sp) (hr : Room j X.A) (hk : k + 1 ≤ j) (hg : Gl X "Shelf") : PE X (.Call (.Name "Shelf" p) [] [] pos) (tMake C sp dvs E0 tNil) := by
  obtain ⟨f, fd, ds, M, F, hm, v, b⟩ := c.ex
  exact pe_make0 M F (hr.mono hk) hg hm b v (fun _ _ _ _ _ _ _ h => h.elim)
theorem pe_ownG0 (C : CalG X.prog X.w X.K X.mg X.base k x ps sp) (hgd : X.A.guards = some []) (hr : Room j X.A) (hk : k ≤ j) (hg : Gl X x) (hdb : (x == ("__debug__" : Str)) = false := by decide) :
    PE X (.Call (.Name x p) [] [] pos) (tCall sp [] E0 tNil) := by
  obtain ⟨f, fd, F, hm, kp, b⟩ := C.ex
  refine ⟨fun pins s σ H Q I h => ?_⟩
  refine wpAny_Call_Name_kw (ld_glob I hg hm ?_ hdb)
  refine PySem.W.callWith_K0 I.kIn kp ?_
  exact run_fnG ⟨hr.mono hk, rfl⟩ hgd F b I (us := []) (vs := []) .nil h
end
theorem mk3 {C x dx a : Addr} {G : Hp} {n : Nat} {st : Str} {xs : List Int} {Q : VK} {E : XK} (nx : G x = none) (ndx : G dx = none) (ne : dx ≠ x) (ta : PTup G a (xs.map V.int)) (ok : LayOk st n xs (newB n st)) (hw : inV (.str st) wayVs = true) (q : ∀ G', Same G G' → ShV C G' x n st xs (newB n st) 0 0 → Q .non G') : spInit3 C [.ref x, .int n, .str st, .ref a, .non] (upd (upd G dx (.own x)) x (.ins C dx [])) Q E := by
  have nx1 : (upd G dx (.own x)) x = none := by
    rw [upd_ne (Ne.symm ne)]
    exact nx
  have s0 : Same G (upd (upd G dx (.own x)) x (.ins C dx [])) := (same_upd ndx).trans (same_upd nx1)
  refine ⟨x, dx, a, n, st, xs, rfl, upd_same, ta.same s0, ok, hw, fun b G1 k1 pb hx => ?_⟩
  have s1 : Same G G1 := fun c o e => k1 c o (s0 _ _ e) (ne_of_none e nx)
  exact q G1 s1 ⟨⟨dx, a, b, hx, ta.same s1, pb⟩, ok, hw⟩
theorem mk2 {C x dx : Addr} {G : Hp} {n : Nat} {st : Str} {Q : VK} {E : XK} (nx : G x = none) (ndx : G dx = none) (ne : dx ≠ x) (ok : LayOk st n (List.replicate n (-1)) (newB n st)) (hw : inV (.str st) wayVs = true) (q : ∀ G', Same G G' → ShV C G' x n st (List.replicate n (-1)) (newB n st) 0 0 → Q .non G') : spInit2 C [.ref x, .int n, .str st, .non, .non] (upd (upd G dx (.own x)) x (.ins C dx [])) Q E := by
  have nx1 : (upd G dx (.own x)) x = none := by
    rw [upd_ne (Ne.symm ne)]
    exact nx
  have s0 : Same G (upd (upd G dx (.own x)) x (.ins C dx [])) := (same_upd ndx).trans (same_upd nx1)
  refine ⟨x, dx, n, st, rfl, upd_same, ok, hw, fun a b G1 k1 pa pb hx => ?_⟩
  have s1 : Same G G1 := fun c o e => k1 c o (s0 _ _ e) (ne_of_none e nx)
  exact q G1 s1 ⟨⟨dx, a, b, hx, pa, pb⟩, ok, hw⟩
/-- a walk that was made -/
theorem mkW {C W x dx wb sh : Addr} {G : Hp} {rs : List Rw} {n : Nat} {st : Str} {xs bs : List Int} {nr fr : Int} {Q : VK} {E : XK} (nx : G x = none) (ndx : G dx = none) (ne : dx ≠ x) (hw : WebAt G wb rs) (ok : WebOk rs) (hs : ShV C G sh n st xs bs nr fr)
    (q : ∀ G' r l, Same G G' → G r = none → G l = none → r ≠ l → WkJ C W G' x r l ⟨rs, some 0, [], n, st, (xs, bs), nr, fr⟩ → Q .non G') : spInitW C W [.ref x, .ref wb, .ref sh] (upd (upd G dx (.own x)) x (.ins W dx [])) Q E := by
  have nx1 : (upd G dx (.own x)) x = none := by
    rw [upd_ne (Ne.symm ne)]
    exact nx
  have s0 : Same G (upd (upd G dx (.own x)) x (.ins W dx [])) := (same_upd ndx).trans (same_upd nx1)
  refine ⟨x, dx, wb, sh, rs, n, st, xs, bs, nr, fr, rfl, upd_same, hw.same s0, ok, hs.same s0, fun G7 r k a l b7 nr7 nl7 nk7 rl7 hx7 hW7 hk7 ha7 hl7 => ?_⟩
  have s67 : Same G G7 := fun c u e => b7 c u (s0 _ _ e) (ne_of_none e nx)
  refine q G7 r l s67 (none_back s0 nr7) (none_back s0 nl7) rl7 ⟨⟨dx, k, a, [], hx7, ?_, ha7, hl7, rfl, fun i sp e => by cases e⟩, hW7⟩
  have z1 : nrF (⟨rs, some 0, [], n, st, (xs, bs), nr, fr⟩ : St19) 0 = nr := by
    show nr + ((([] : List (Option Bool)).count (some true) : Nat) : Int) = nr
    rw [List.count_nil]
    omega
  have z2 : frF (⟨rs, some 0, [], n, st, (xs, bs), nr, fr⟩ : St19) 0 = fr := by
    show fr + ((([] : List (Option Bool)).count (some false) : Nat) : Int) = fr
    rw [List.count_nil]
    omega
  show ShV C G7 k n st xs bs (nrF _ 0) (frF _ 0)
  rw [z1, z2]
  exact hk7
abbrev ringR : List Rw := [([], [0])]
theorem ring_ok : WebOk ringR := by
  refine ⟨by decide, by decide, fun r hr => ?_, [], by decide, fun k hk => by simp [allRooms] at hk⟩
  obtain rfl := List.mem_singleton.mp hr
  exact ⟨⟨.nil, fun k hk => (List.not_mem_nil hk).elim, fun k hk => (List.not_mem_nil hk).elim⟩, by decide, ⟨by simp, fun k hk => by rw [List.mem_singleton.mp hk]; omega, fun k hk => by rw [List.mem_singleton.mp hk]; decide⟩⟩
theorem slots_rep (n : Nat) : Slots n (List.replicate n (-1)) := ⟨List.length_replicate, fun x hx => by rw [(List.mem_replicate.mp hx).2]; omega, fun v hv => by
  rw [List.count_eq_zero_of_not_mem (fun z => hv (List.mem_replicate.mp z).2)]
  omega⟩
def spLong : Sp := fun vs H Q _ => vs = [] ∧ ∀ H', Same H H' → Q (.bl true) H'
structure LongC (P : Program) (w : World) (K : PySem.W.Frag) (mg : Str → Option Value) (base : Heap) (C W CR CS : Addr) : Prop where
  shelf1 : MakD P w K mg base 6 C [.str "last", .non, .non] (spInit2 C)
  walk : MakN P w K mg base 9 "Walk" W ["self", "web", "shelf"] (spInitW C W)
  step : MetX P w K mg base 9 W "step" ["self", "room", "to"] (spStepW C W CR CS)
  len : MetD P w K mg base 1 W "__len__" (spLenW W)
  at_ : MetS P w K mg base 1 W "at" (spFld W "place")
  run : MetS P w K mg base 1 W "run" (spRunW W)
theorem sc_law_long : FnScope ["_law_rows", "_law_walk", "_law_turn"] [] (defScope s_law_long) := ⟨rfl, rfl, rfl, by decide +kernel, rfl, by decide +kernel, by decide +kernel⟩
section
variable {P : Program} {w : World} {K : PySem.W.Frag} {mg : Str → Option Value} {base : Heap}
theorem ok_long {C W CR CS : Addr} (LC : LongC P w K mg base C W CR CS) (T : At K mg "_law_long" s_law_long []) (B : Bt mg) : CalG P w K mg base 11 "_law_long" [] spLong := by
  obtain ⟨c_Shelf1, c_Walk, m_step, m_len, m_at, m_run⟩ := LC
  refine cal_ofG T sc_law_long (fun vs H Q E h => ?_) (fun f cdv A outer s H vs Q E hg hr h => ?_)
  · obtain ⟨rfl, _⟩ := h
    rfl
  obtain ⟨rfl, q⟩ := h
  refine ⟨_, (pss_cons (ps_set (i := 0) sc_law_long.nd rfl (Or.inl rfl) (pe_lst (pa_cons (pe_tupF (pa_cons (pe_tupF pa_nil) (pa_cons (pe_tupF (pa_cons pe_int pa_nil)) pa_nil))) pa_nil)))
      (pss_cons (ps_set (i := 1) sc_law_long.nd rfl (Or.inl rfl) (pe_makeN c_Walk hr (by decide) (by rfl) (pa_cons (pv 0) (pa_cons (pe_shelfD c_Shelf1 hr (by decide) (by rfl) (pa_cons pe_int pa_nil)) pa_nil))))
      (pss_cons (ps_for PassesOwn.never rfl (pi_range1 (by rfl) B.range (pa_cons pe_int pa_nil)) (pg_name (i := 2) sc_law_long.nd rfl (Or.inl rfl)) (pss_one (ps_expr (pe_mtX takes0 m_step hr (by decide) (pv 1) (pa_cons pe_non (pa_cons pe_int pa_nil))))))
      (pss_one (ps_ret (pe_and (pe_cmpR op_eq (pe_callB (call_lenI m_len hg hr (by decide)) (by rfl) B.len PySem.boot_len (pa_cons (pv 1) pa_nil)) pe_int (nomark _)) (pe_and (pe_cmpR op_eq (pe_mtS m_at hr (by decide) (pv 1)) pe_int (nomark _)) (pe_one (pe_cmpR op_eq (pe_callB call_len_seq (by rfl) B.len PySem.boot_len (pa_cons (pe_mtS m_run hr (by decide) (pv 1)) pa_nil)) pe_int (nomark _)))))))))), ?_⟩
  refine ⟨(by show 0 ≤ sizeLine; decide), fun t1 H1 s1 nt1 pt1 => ⟨(by show 1 ≤ sizeLine; decide), fun t2 H2 s2 nt2 pt2 => ⟨(by show 2 ≤ sizeLine; decide), fun t3 H3 s3 nt3 pt3 => ⟨(by show 1 ≤ sizeLine; decide), fun L nL => ?_⟩⟩⟩⟩
  have sL := same_upd (o := .lst [V.ref t3]) nL
  have eL : (upd H3 L (.lst [V.ref t3])) L = some (.lst [V.ref t3]) := upd_same
  have hW : WebAt (upd H3 L (.lst [V.ref t3])) L ringR := ⟨_, eL, ⟨t3, t1, t2, rfl, .inl (pt3.same sL), .inl (pt1.same ((s2.trans s3).trans sL)), .inl (pt2.same (s3.trans sL))⟩, trivial⟩
  have s0 : Same H (upd H3 L (.lst [V.ref t3])) := ((s1.trans s2).trans s3).trans sL
  generalize upd H3 L (.lst [V.ref t3]) = H4 at hW s0 ⊢
  clear sL eL s1 s2 s3 pt1 pt2 pt3 nL
  refine ⟨_, rfl, fun sh dsh nsh ndsh ne => ?_⟩
  refine mk2 (n := 1) nsh ndsh ne (lay_new (slots_rep 1) (by decide) (by decide) (fun z => .inl rfl)) (by decide +kernel) fun H5 s5 hs => ⟨rfl, ?_⟩
  refine fun x dx nx ndx ne2 => ?_
  refine mkW nx ndx ne2 (hW.same s5) ring_ok hs fun H6 r l s6 nr nl rl wk => ⟨rfl, ?_⟩
  have s06 := (s0.trans s5).trans s6
  have nlH : H l = none := none_back (s0.trans s5) nl
  have nxH : H x = none := none_back (s0.trans s5) nx
  refine ⟨20001, rfl, by decide, by decide, ?_⟩
  rw [show (20001 : Int).toNat = 20001 from rfl]
  refine for_range (lo := 0) (n := 20001) (fun j σ HH => ∃ (y2 : Option V), σ = [some (.ref L), some (.ref x), y2] ∧ WkJ C W HH x r l ⟨ringR, some 0, List.replicate j (0, none), 1, "last", ([-1], []), 0, 0⟩ ∧ Same H HH) ?_ ?_ ?_
  · exact ⟨none, rfl, wk, s06⟩
  · clear wk
    rintro j σ HH hj ⟨y2, rfl, wk, sH⟩
    obtain ⟨dx0, k0, a0, ys0, hx0, _⟩ := wk.ex
    refine ⟨_, rfl, x, dx0, _, rfl, hx0, rfl, ?_⟩
    dsimp only [tCons, tC, tNil]
    show spStepW C W CR CS [V.ref x, .non, .int 0] HH _ _
    refine step_any (p := x) wk ring_ok (fun q e => by cases e; exact Nat.zero_lt_one) (by show (List.replicate j ((0, none) : Stp)).length < sizeLine; rw [List.length_replicate]; exact Nat.lt_trans hj (by show 20001 < sizeLine; decide)) rl .non (.int 0) (fun z => by cases z) (fun q1 row1 e1 er1 => ?_)
    cases e1
    cases er1
    refine ⟨fun z => ?_, fun _ z => ?_, fun o to e1 e2 p1 p2 H7 b7 wk7 => ?_⟩
    · cases z
    · exact absurd z (by decide)
    · obtain rfl : o = none := by
        cases o with
        | none => rfl
        | some k => cases e1
      obtain rfl : to = some 0 := by
        cases to with
        | none => cases e2
        | some k =>
          cases e2
          rfl
      refine ⟨_, rfl, ?_, fun c u e => b7 c u (sH _ _ e) (ne_of_none e nxH) (ne_of_none e nlH)⟩
      have e3 : List.replicate (j + 1) ((0, none) : Stp) = List.replicate j (0, none) ++ [(0, none)] := List.replicate_succ'
      rw [e3]
      exact wk7
  · clear wk
    rintro σ HH ⟨y2, rfl, wk, sH⟩
    have e20 : (List.replicate 20001 ((0, none) : Stp)).length = 20001 := List.length_replicate
    generalize List.replicate 20001 ((0, none) : Stp) = run at wk e20
    obtain ⟨dx0, k0, a0, ys0, hx0, _, _, hl0, yl0, yy0⟩ := wk.ex
    have yl : ys0.length = 20001 := yl0.trans e20
    have hen : EntsAt HH ys0 run := ⟨yl0, fun i sp e => by
      obtain ⟨t, k, e1, p, _⟩ := yy0 i sp e
      exact ⟨_, e1, t, k, rfl, p⟩⟩
    refine ⟨_, rfl, x, dx0, _, rfl, hx0, x, dx0, l, _, _, _, _, ys0, rfl, hx0, hl0, _, rfl, ⟨by omega, by omega⟩, rfl, _, rfl, ?_⟩
    rw [show decide (V.int (ys0.length : Int) = V.int 20001) = true from decide_eq_true (by rw [yl]; rfl), if_pos rfl]
    refine ⟨_, rfl, x, dx0, _, rfl, hx0, rfl, x, dx0, _, .int 0, rfl, hx0, rfl, rfl, _, rfl, ?_⟩
    rw [decide_eq_true rfl, if_pos rfl]
    refine ⟨_, rfl, x, dx0, _, rfl, hx0, rfl, x, dx0, l, _, _, _, _, ys0, run, rfl, hx0, hl0, hen, (by rw [e20]; decide), fun L1 H7 s7 nL1 hr1 => ?_⟩
    obtain ⟨rv, erv, hrv⟩ := hr1
    refine ⟨L1, rv, rfl, .inl (SqL.of erv), rfl, ?_⟩
    rw [show decide (V.int (rv.length : Int) = V.int 20001) = true from decide_eq_true (by rw [hrv.len, e20]; rfl)]
    exact q _ (sH.trans s7)
end
end Su
/-! ### R0: webs as things -/
namespace Su.GW
open PySem PySem.Spec PyProof.Rows L2
def rowT (r : Rw) : G := .tup [.tup (r.1.map G.int), .tup (r.2.map G.int)]
theorem tg_row {p : Addr} {H : Hp} {v : V} {r : Rw} (h : RowAt H v r) : Tg p H v (rowT r) := by
  obtain ⟨a, b, c, rfl, h1, h2, h3⟩ := h
  exact .tup h1 (.cons (.tup h2 (TgL.ints _)) (.cons (.tup h3 (TgL.ints _)) .nil))
theorem tg_rows {p : Addr} {H : Hp} : ∀ {vs : List V} {rs : List Rw}, RowsAt H vs rs → TgL p H vs (rs.map rowT)
  | [], [], _ => .nil
  | _ :: _, _ :: _, h => .cons (tg_row h.1) (tg_rows h.2)
  | [], _ :: _, h => h.elim
  | _ :: _, [], h => h.elim
theorem tg_web {p a : Addr} {H : Hp} {rs : List Rw} (h : WebAt H a rs) (n : a ≠ p) : Tg p H (.ref a) (.lst (rs.map rowT)) := by
  obtain ⟨ws, e, r⟩ := h
  exact .lst n e (tg_rows r)
theorem val_ints (ns : List Int) : (ns.map G.int).map valI = ns := by
  rw [List.map_map]
  exact List.map_id' ns
theorem rw_row (r : Rw) : rwOf (rowT r) = r := by
  show ((r.1.map G.int).map valI, (r.2.map G.int).map valI) = r
  rw [val_ints, val_ints]
theorem ups_all : ∀ {ns : List Int}, ns.Pairwise (· < ·) → (ups ns).all id = true
  | [], _ => rfl
  | [a], _ => rfl
  | a :: b :: l, h => by
    have h1 := List.pairwise_cons.mp h
    have ih := ups_all h1.2
    show (decide (a < b) && (ups (b :: l)).all id) = true
    rw [decide_eq_true (h1.1 b List.mem_cons_self), ih]
    rfl
theorem ris_ints {n : Int} {ns : List Int} (h : Ris 0 (n - 1) ns) : risG n (ns.map G.int) = true := by
  unfold risG
  rw [val_ints, ups_all h.pw, Bool.and_true, List.all_eq_true]
  intro b hb
  obtain ⟨g, hg, rfl⟩ := List.mem_map.mp hb
  obtain ⟨k, hk, rfl⟩ := List.mem_map.mp hg
  show (decide (0 ≤ k) && decide (k < n)) = true
  have := h.lo k hk
  have := h.hi k hk
  rw [decide_eq_true (by omega : 0 ≤ k), decide_eq_true (by omega : k < n)]
  rfl
theorem row_row {n : Nat} {r : Rw} (ok : RowOk n r) : rowG n (rowT r) = true := by
  show (((decide ((0 : Int) ≤ ((r.1.map G.int).length : Int)) && decide (((r.1.map G.int).length : Int) ≤ 6)) && risG 100 (r.1.map G.int)) && (decide (((r.2.map G.int).length : Int) ≤ (n : Int)) && risG n (r.2.map G.int))) = true
  have h1 := ok.few
  have h2 := ris_len ok.tos
  rw [ris_ints (n := 100) ok.rooms, ris_ints (n := (n : Int)) ok.tos, List.length_map, List.length_map, decide_eq_true (by omega : (0 : Int) ≤ (r.1.length : Int)), decide_eq_true (by omega : (r.1.length : Int) ≤ 6), decide_eq_true (by omega : (r.2.length : Int) ≤ (n : Int))]
  rfl
theorem rw_rows (rs : List Rw) : (rs.map rowT).map rwOf = rs := by
  rw [List.map_map]
  have e : (rwOf ∘ rowT) = id := funext fun r => rw_row r
  rw [e, List.map_id]
theorem look_web {rs : List Rw} (ok : WebOk rs) : lookG (.lst (rs.map rowT)) = none := by
  have h1 := ok.pos
  have h2 := ok.few
  obtain ⟨S, hS, hin⟩ := ok.all
  show (if 1 ≤ (rs.map rowT).length ∧ (rs.map rowT).length ≤ 80 then (match badAt (rowG ((rs.map rowT).length : Nat)) (rs.map rowT) with
    | some i => some (some i)
    | none => if 12 < (oneEach (allRooms ((rs.map rowT).map rwOf))).length then some none else none) else some none) = none
  rw [List.length_map, if_pos ⟨h1, h2⟩, badAt_none fun g hg => ?_, rw_rows]
  · show (if 12 < (oneEach (allRooms rs)).length then some none else none) = none
    rw [if_neg]
    have := nodup_few (S := S) (oneEach_nodup (allRooms rs)) fun k hk => hin k ((oneEach_mem k _).mp hk)
    omega
  · obtain ⟨r, hr, rfl⟩ := List.mem_map.mp hg
    exact row_row (ok.row r hr)
theorem in_ints (x : Int) : ∀ xs : List Int, inV (.int x) (xs.map V.int) = decide (x ∈ xs)
  | [] => rfl
  | y :: xs => by
    have ih := in_ints x xs
    unfold inV at ih ⊢
    rw [List.map_cons, List.any_cons, ih]
    show ((y == x) || decide (x ∈ xs)) = decide (x ∈ y :: xs)
    by_cases e : y = x
    · subst e
      simp
    · have e2 : ¬ x = y := fun z => e z.symm
      simp [e, e2]
theorem flat_ints : ∀ xs : List Int, (xs.map V.int).all flatV = true
  | [] => rfl
  | x :: xs => by
    show (flatV (V.int x) && (xs.map V.int).all flatV) = true
    rw [flat_ints xs]
    rfl
end Su.GW
/-! ### L4a: things that are no webs; pairs of a text and a value -/
namespace Su
open PySem PySem.Spec PyProof.Rows L2
structure OkN (n : Nat) (g : G) : Prop where
  ok : okD g = true
  cl : (toD g).canLay0 = true
  dp : (toD g).depth ≤ n
theorem okN_all {n : Nat} : ∀ {gs : List G}, (∀ g ∈ gs, OkN n g) → okDs gs = true ∧ PyData.canLayAll0 (toDs gs) = true ∧ PyData.depthAll (toDs gs) ≤ n
  | [], _ => ⟨rfl, by simp [toDs, PyData.canLayAll0], by simp [toDs, PyData.depthAll]⟩
  | g :: gs, h => by
    obtain ⟨a, b, d⟩ := okN_all fun x hx => h x (List.mem_cons_of_mem _ hx)
    have c := h g List.mem_cons_self
    refine ⟨?_, ?_, ?_⟩
    · simp only [okDs, c.ok, a, Bool.and_self]
    · simp only [toDs, PyData.canLayAll0, c.cl, b, Bool.and_self]
    · simp only [toDs, PyData.depthAll]
      have := c.dp
      omega
theorem OkN.tup {n : Nat} {gs : List G} (h : ∀ g ∈ gs, OkN n g) : OkN (n + 1) (.tup gs) := by
  obtain ⟨a, b, d⟩ := okN_all h
  exact ⟨by simp only [okD, a], by simp only [toD, PyData.canLay0, b], by simp only [toD, PyData.depth]; omega⟩
theorem OkN.int {n : Nat} (i : Int) : OkN n (.int i) := ⟨rfl, rfl, by simp [toD, PyData.depth]⟩
theorem OkN.non {n : Nat} : OkN n .non := ⟨rfl, rfl, by simp [toD, PyData.depth]⟩
theorem OkN.ints {n : Nat} (ns : List Int) : OkN (n + 1) (.tup (ns.map G.int)) := OkN.tup fun g hg => by
  obtain ⟨i, _, rfl⟩ := List.mem_map.mp hg
  exact OkN.int i
theorem OkN.row (r : Rw) : OkN 2 (GW.rowT r) := OkN.tup fun g hg => by
  simp only [List.mem_cons, List.not_mem_nil, or_false] at hg
  rcases hg with rfl | rfl
  · exact OkN.ints _
  · exact OkN.ints _
theorem OkN.e {n : Nat} {g : G} (h : OkN n g) (hn : n ≤ 4) : OkE g := ⟨h.ok, h.cl, Nat.le_trans h.dp hn⟩
abbrev oddRow : G := .tup [.tup [.int 3, .int 3], .tup []]
abbrev farRow : G := .tup [.tup [], .tup [.int 7]]
theorem OkN.odd : OkN 2 oddRow := OkN.tup fun g hg => by
  simp only [List.mem_cons, List.not_mem_nil, or_false] at hg
  rcases hg with rfl | rfl
  · exact OkN.ints [3, 3]
  · exact OkN.ints []
theorem OkN.far : OkN 2 farRow := OkN.tup fun g hg => by
  simp only [List.mem_cons, List.not_mem_nil, or_false] at hg
  rcases hg with rfl | rfl
  · exact OkN.ints []
  · exact OkN.ints [7]
/-- a thing that is no web, and the row that is told of it -/
structure BadT (g : G) (b : V) : Prop where
  look : ∃ r, GW.lookG g = some r ∧ GW.rowV r = b
  kind : (∃ gs, g = .lst gs ∧ gs ≠ [] ∧ b = .int ((gs.length : Int) - 1) ∧ ∀ x ∈ gs, OkE x) ∨ (b = .non ∧ (g = .lst [] ∨ ∀ gs, g ≠ .lst gs))
theorem bad_non : BadT .non .non := ⟨⟨none, rfl, rfl⟩, .inr ⟨rfl, .inr fun gs e => by cases e⟩⟩
theorem bad_nil : BadT (.lst []) .non := ⟨⟨none, rfl, rfl⟩, .inr ⟨rfl, .inl rfl⟩⟩
theorem bad_dct : BadT .dct .non := ⟨⟨none, rfl, rfl⟩, .inr ⟨rfl, .inr fun gs e => by cases e⟩⟩
theorem bad_tup (gs : List G) : BadT (.tup gs) .non := ⟨⟨none, rfl, rfl⟩, .inr ⟨rfl, .inr fun gs e => by cases e⟩⟩
theorem bad_int (i : Int) : BadT (.int i) .non := ⟨⟨none, rfl, rfl⟩, .inr ⟨rfl, .inr fun gs e => by cases e⟩⟩
theorem bad_none : BadT (.lst [.non]) (.int 0) := ⟨⟨some 0, rfl, rfl⟩, .inl ⟨[.non], rfl, by simp, rfl, fun x hx => by
  rw [List.mem_singleton.mp hx]
  exact (OkN.non (n := 0)).e (by decide)⟩⟩
theorem bad_far : BadT (.lst [farRow]) (.int 0) := ⟨⟨some 0, by decide +kernel, rfl⟩, .inl ⟨[farRow], rfl, by simp, rfl, fun x hx => by
  rw [List.mem_singleton.mp hx]
  exact OkN.far.e (by decide)⟩⟩
theorem bad_more {rs : List Rw} (ok : WebOk rs) (few : rs.length ≤ 5) : BadT (.lst (rs.map GW.rowT ++ [oddRow])) (.int rs.length) := by
  have hl : (rs.map GW.rowT ++ [oddRow]).length = rs.length + 1 := by
    rw [List.length_append, List.length_map]
    rfl
  refine ⟨⟨some rs.length, ?_, rfl⟩, .inl ⟨_, rfl, by simp, ?_, fun x hx => ?_⟩⟩
  · have h1 : 1 ≤ (rs.map GW.rowT ++ [oddRow]).length ∧ (rs.map GW.rowT ++ [oddRow]).length ≤ 80 := by
      rw [hl]
      omega
    have h2 : GW.badAt (GW.rowG ((rs.map GW.rowT ++ [oddRow]).length : Int)) (rs.map GW.rowT ++ [oddRow]) = some rs.length := by
      refine GW.badAt_some (fun j x hj hx => ?_) (g := oddRow) ?_ rfl
      · rw [List.getElem?_append_left (by rw [List.length_map]; exact hj), List.getElem?_map] at hx
        obtain ⟨r, er, rfl⟩ := Option.map_eq_some_iff.mp hx
        have rok := ok.row r (List.mem_of_getElem? er)
        rw [hl]
        exact GW.row_row (n := rs.length + 1) ⟨rok.rooms, rok.few, rok.tos.pw, rok.tos.lo, fun k hk => by have := rok.tos.hi k hk; omega⟩
      · rw [List.getElem?_append_right (by rw [List.length_map]; exact Nat.le_refl _), List.length_map, Nat.sub_self]
        rfl
    show (if 1 ≤ (rs.map GW.rowT ++ [oddRow]).length ∧ (rs.map GW.rowT ++ [oddRow]).length ≤ 80 then _ else _) = _
    rw [if_pos h1, h2]
  · rw [hl]
    congr 1
    omega
  · rcases List.mem_append.mp hx with h | h
    · obtain ⟨r, _, rfl⟩ := List.mem_map.mp h
      exact (OkN.row r).e (by decide)
    · rw [List.mem_singleton.mp h]
      exact OkN.odd.e (by decide)
/-- a value of which nothing else is told -/
inductive BV : V → PyData → Prop
  | non : BV .non .none
  | int (i : Int) : BV (.int i) (.int i)
  | way : BV (.str "way") (.str "way")
theorem BV.dp {K : PySem.W.Frag} {H : Hp} {b : V} {d : PyData} (h : BV b d) : Dp K H b d := by
  cases h with
  | non => exact .non
  | int i => exact .int i
  | way => exact .str _
theorem pair_ok {a : Str} {b : V} {d : PyData} (ha : PyData.strOk a = true) (h : BV b d) : SeqAt.shaped (.list [.str a, d]) = true ∧ PyData.eqv (.list [.str a, d]) (.list [.str a, d]) = true := by
  have c : (PyData.list [.str a, d]).canLay0 = true := by
    simp only [PyData.canLay0, PyData.canLayAll0, Bool.and_true]
    rw [ha]
    cases h with
    | non => rfl
    | int i => rfl
    | way => decide +kernel
  refine ⟨?_, SeqAt.eqv_refl _ c⟩
  unfold SeqAt.shaped
  rw [c, Bool.true_and, decide_eq_true_eq]
  cases h <;> simp [PyData.depth, PyData.depthAll]
theorem BadT.bv {g : G} {b : V} (h : BadT g b) : ∃ d, BV b d := by
  rcases h.kind with ⟨_, _, _, e, _⟩ | ⟨e, _⟩
  · subst e
    exact ⟨_, BV.int _⟩
  · subst e
    exact ⟨_, BV.non⟩
theorem StOk.back {s : St19} (h : StOk s) {sp : Stp} (e : s.run[s.run.length - 1]? = some sp) : StOk (s.back sp.1) := by
  have hm := List.mem_of_getElem? e
  refine ⟨h.web, ?_, fun q eq => ?_, fun z hz => h.stp z (List.dropLast_subset _ hz)⟩
  · rw [back_len]
    have := h.few
    omega
  · cases eq
    exact (h.stp sp hm).1
theorem StOk.next {s : St19} (h : StOk s) {q : Nat} {row : Rw} {o to : Option Int} (er : s.rs[q]? = some row) (ho : PickOk o row.1) (ht : PickOk to row.2) (few : s.run.length < 100) : StOk (s.next q o (to.map Int.toNat)) := by
  have rok := h.web.row row (List.mem_of_getElem? er)
  refine ⟨h.web, ?_, fun z ez => ?_, fun z hz => ?_⟩
  · rw [next_len]
    omega
  · cases to with
    | none => cases ez
    | some k =>
      cases ez
      have h1 := rok.tos.lo k ht
      have h2 := rok.tos.hi k ht
      show k.toNat < s.rs.length
      omega
  · have hz2 : z ∈ s.run ++ [(q, o)] := hz
    rcases List.mem_append.mp hz2 with y | y
    · exact h.stp z y
    · have e : z = (q, o) := List.mem_singleton.mp y
      subst e
      refine ⟨(List.getElem?_eq_some_iff.mp er).1, fun k ek => ?_⟩
      have ek2 : o = some k := ek
      subst ek2
      have h1 := rok.rooms.lo k ho
      have h2 := rok.rooms.hi k ho
      omega
theorem lay_ok {st : Str} {n : Nat} {xs bs : List Int} (h : LayOk st n xs bs) : SeqAt.shaped (layD xs bs) = true ∧ PyData.eqv (layD xs bs) (layD xs bs) = true := ⟨h.fine.shaped (by decide), SeqAt.eqv_refl _ h.fine.cl⟩
abbrev rows2 : List Rw := [([7, 8], [0, 1]), ([], [])]
theorem rows2_ok : WebOk rows2 := by
  refine ⟨by decide, by decide, fun r hr => ?_, [7, 8], by decide, fun k hk => ?_⟩
  · simp only [List.mem_cons, List.not_mem_nil, or_false] at hr
    rcases hr with rfl | rfl
    · exact ⟨⟨by simp, by decide, by decide⟩, by decide, ⟨by simp, by decide, by decide⟩⟩
    · exact ⟨⟨by simp, by decide, by decide⟩, by decide, ⟨by simp, by decide, by decide⟩⟩
  · simpa [allRooms] using hk
theorem tg_opt2 {p : Addr} {H : Hp} : ∀ o : Option Int, Tg p H (optI o) (optG o)
  | none => .non
  | some i => .int i
theorem step_pick {C W CR CS x r l : Addr} {s : St19} {H : Hp} {Q : VK} {E : XK} (wk : WkJ C W H x r l s) (ok : StOk s) (rl : r ≠ l) {q : Nat} {row : Rw} (eat : s.at_ = some q) (er : s.rs[q]? = some row) (o to : Option Int) (po : PickOk o row.1) (pt : PickOk to row.2)
    (k : ∀ H', But2 x l H H' → WkJ C W H' x r l (s.next q o (to.map Int.toNat)) → Q (optB (ansF (lyF s s.run.length) (q, o))) H') : spStepW C W CR CS [.ref x, optI o, optI to] H Q E := by
  refine step_ok (p := x) wk ok rl (tg_opt2 o) (tg_opt2 to) (fun z => ?_) (fun q1 row1 e1 er1 => ⟨fun z => ?_, fun _ z => ?_, fun o' to' e2 e3 _ _ H' b w => ?_⟩)
  · rw [eat] at z
    cases z
  · rw [eat] at e1
    cases e1
    rw [er] at er1
    cases er1
    rw [pick_ask2 po] at z
    cases z
  · rw [eat] at e1
    cases e1
    rw [er] at er1
    cases er1
    rw [pick_ask2 pt] at z
    cases z
  · rw [eat] at e1
    cases e1
    obtain rfl : o = o' := by
      cases o <;> cases o' <;> first | rfl | (cases e2; rfl) | cases e2
    obtain rfl : to = to' := by
      cases to <;> cases to' <;> first | rfl | (cases e3; rfl) | cases e3
    exact k H' b w
abbrev w0 : St19 := ⟨rows2, some 0, [], 2, "first", ([7, -1], newB 2 "first"), 0, 0⟩
abbrev w1 : St19 := w0.next 0 (some 7) (some 1)
abbrev w2 : St19 := w1.next 1 none none
abbrev w3 : St19 := w2.back 1
abbrev w4 : St19 := w3.next 1 none none
abbrev w5 : St19 := w4.back 1
abbrev w6 : St19 := w5.back 0
abbrev w7 : St19 := w6.next 0 (some 8) (some 0)
theorem w0_ok : StOk w0 := ⟨rows2_ok, by decide, fun q e => by cases e; decide, fun sp h => (List.not_mem_nil h).elim⟩
theorem w1_ok : StOk w1 := w0_ok.next (q := 0) (row := ([7, 8], [0, 1])) (o := some 7) (to := some 1) rfl (by show (7 : Int) ∈ [7, 8]; decide) (by show (1 : Int) ∈ [0, 1]; decide) (by decide)
theorem w2_ok : StOk w2 := w1_ok.next (q := 1) (row := ([], [])) (o := none) (to := none) rfl rfl rfl (by decide)
theorem w3_ok : StOk w3 := w2_ok.back (sp := (1, none)) rfl
theorem w4_ok : StOk w4 := w3_ok.next (q := 1) (row := ([], [])) (o := none) (to := none) rfl rfl rfl (by decide)
theorem w5_ok : StOk w5 := w4_ok.back (sp := (1, none)) rfl
theorem w6_ok : StOk w6 := w5_ok.back (sp := (0, some 7)) rfl
theorem w7_ok : StOk w7 := w6_ok.next (q := 0) (row := ([7, 8], [0, 1])) (o := some 8) (to := some 0) rfl (by show (8 : Int) ∈ [7, 8]; decide) (by show (0 : Int) ∈ [0, 1]; decide) (by decide)
theorem w4_nr : nrF w4 w4.run.length = 1 := by decide +kernel
theorem w4_fr : frF w4 w4.run.length = 0 := by decide +kernel
theorem w0_ans : optB (ansF (lyF w0 w0.run.length) (0, some 7)) = .bl true := by decide +kernel
theorem w6_ans : optB (ansF (lyF w6 w6.run.length) (0, some 8)) = .bl false := by decide +kernel
/-- things that are no room of row 0 -/
inductive NoR : V → G → Prop
  | non : NoR .non .non
  | bl (b : Bool) : NoR (.bl b) (.bl b)
  | int (i : Int) (h : -1000 ≤ i ∧ i ≤ 1000 ∧ i ≠ 7 ∧ i ≠ 8) : NoR (.int i) (.int i)
  | str : NoR (.str "7") (.str "7")
  | lst (c : Addr) : NoR (.ref c) (.lst [.int 7])
  | tup (c : Addr) : NoR (.ref c) (.tup [.int 7])
theorem NoR.ask {v : V} {g : G} (h : NoR v g) : askG [7, 8] g = false := by
  cases h with
  | int i h => exact decide_eq_false (by simp; omega)
  | _ => rfl
theorem NoR.shw {v : V} {g : G} (h : NoR v g) : Shw g := by
  cases h with
  | non => exact ⟨Fz.none.up (by decide) (by decide), .inl (.inl (by simp [okD]))⟩
  | bl b => exact ⟨(Fz.bool b).up (by decide) (by decide), .inl (.inl (by simp [okD]))⟩
  | int i h => exact ⟨(Fz.int (by omega) (by omega)).up (by decide) (by decide), .inl (.inl (by simp [okD]))⟩
  | str => exact ⟨⟨by decide +kernel, by decide +kernel, by decide +kernel, by decide +kernel⟩, .inl (.inl (by simp [okD]))⟩
  | lst c => exact ⟨(Fz.lst (FzL.cons (Fz.int (i := 7) (by decide) (by decide)) FzL.nil)).up (by decide) (by decide), .inl (.inl (by decide +kernel))⟩
  | tup c => exact ⟨(Fz.tup (FzL.cons (Fz.int (i := 7) (by decide) (by decide)) FzL.nil)).up (by decide) (by decide), .inl (.inl (by decide +kernel))⟩
end Su
/-! ### L4: the law -/
namespace Su
open PySem PySem.Spec PyProof.Rows L2
/-- a method that may raise, all of whose arguments have defaults -/
structure MetXD (P : Program) (w : World) (K : PySem.W.Frag) (mg : Str → Option Value) (base : Heap) (k : Nat) (C : Addr) (m : Str) (ps : List Str) (dvs : List V) (sp : Sp) : Prop where
  ex : ∃ (f : Addr) (fd : FuncData) (ds : List Value), Cls K C ∧ Meth K C m f ∧ FnOk P w K mg base (L2.CX P w) k f fd ps sp ∧ Vals dvs ds ∧ Binds K fd ps ds
def tMethXD (C : Addr) (m : Str) (sp : Sp) (dvs : List V) (E : L2.St → XK) (ta : TE) : TE := fun σ H Q => ta σ H fun x H1 => ∃ a dx fs, x = .ref a ∧ H1 a = some (.ins C dx fs) ∧ fs.lookup m = none ∧ sp (x :: dvs) H1 Q (E σ)
section
variable {X : Cx} {k j : Nat} {C : Addr} {m x : Str} {ps : List Str} {dvs : List V} {sp : Sp} {o e : Expr} {es : List Expr} {ta te : TE} {t : TA} {apos pos p : Pos} {W : WX}
theorem pe_mtXD0 {pl : Sem Bool} (tk : Takes X W) (c : MetXD X.prog X.w X.K X.mg X.base k C m ps dvs sp) (hr : Room j X.A) (hk : k ≤ j) (he : PE X o ta)
    (ht : eval (.Call (.Attribute o m apos) [] [] pos) X.env = (do
      let ov ← eval o X.env
      standAt apos.atName
      let (f, first) ← holding [ov] (getMethod ov m pl)
      callWith pos f first (backTo pos (starEach [] X.env)) (backToKw pos (keywordEach [] X.env))) := by rfl) :
    PE X (.Call (.Attribute o m apos) [] [] pos) (tMethXD C m sp dvs (WE W) ta) := by
  obtain ⟨f, fd, ds, c, hm, F, hd, hb⟩ := c.ex
  refine ⟨fun pins s σ H Q I h => ?_⟩
  refine PySem.W.methodCall_KW (pl := pl) (thn (he.run pins s σ H _ I h) fun u s1 ⟨x, H1, I1, rx, a, dx, fs, ex, ea, l, q⟩ => ?_) ht
  subst ex
  obtain rfl : u = Value.ref a := rx
  refine getmeth_ok I1 ea c hm l ?_
  exact PySem.W.callWith_K0 (first := [.ref a]) I1.kIn hm.kp (run_fnSD (us := [.ref a]) (vs := [.ref a]) F (hr.mono hk) hb hd (passAt tk σ) I1 (.cons rfl .nil) q)
end
theorem two_ok (a b : Int) : SeqAt.shaped (.tuple [.int a, .int b]) = true ∧ PyData.eqv (.tuple [.int a, .int b]) (.tuple [.int a, .int b]) = true := by
  refine ⟨ints_shaped true [a, b], ?_⟩
  rw [PyData.eqv]
  have := eqv_ints [a, b] [a, b]
  rw [decide_eq_true rfl] at this
  exact this
theorem nr0 (s : St19) : nrF s 0 = s.n0 := by
  unfold nrF
  rw [List.take_zero]
  show s.n0 + ((([] : List (Option Bool)).count (some true) : Nat) : Int) = s.n0
  rw [List.count_nil]
  omega
theorem fr0 (s : St19) : frF s 0 = s.f0 := by
  unfold frF
  rw [List.take_zero]
  show s.f0 + ((([] : List (Option Bool)).count (some false) : Nat) : Int) = s.f0
  rw [List.count_nil]
  omega
abbrev dat4 : PyData := .list [.int 0, .list [], .tuple [.int 0, .int 0], .int 0]
theorem dat4_ok : SeqAt.shaped dat4 = true ∧ PyData.eqv dat4 dat4 = true := ⟨by decide +kernel, by decide +kernel⟩
def spLaw (K : PySem.W.Frag) : Sp := fun vs H Q _ => ∃ (a : Addr) (ns : List Int), vs = [.ref a] ∧ SqL K H a (ns.map V.int) ∧ ns.length ≤ 63 ∧ ∀ H', Q (.bl true) H'
theorem mid_ifM {t : TT} {u S : TS} {D : Ends} {σ : L2.St} {H : Hp} {j : Nat} {v : V} {r : V → Hp → Prop} {b c : L2.St → Hp → Prop} (M : L2.St → Hp → Prop) (hR : ∀ σ' H', M σ' H' → S D σ' H') (h : ∀ D2 : Ends, (∀ σ' H', M σ' H' → D2.nx σ' H') → tIfS t u tNext D2 (σ.set j (some v)) H) : gName j v σ H (Ends.mk (tSeq (tIfS t u tNext) S D) r b c).nx := h _ hR
def gvK : List V → List V → List V := fun us zs => us ++ zs
def gvS : List V → List V → List V := fun us zs => us ++ zs.drop 1 ++ zs.take 1
structure Calls (P : Program) (w : World) (K : PySem.W.Frag) (mg : Str → Option Value) (base : Heap) (C W CN CF CB CR CS : Addr) : Prop where
  shelf : MakD P w K mg base 6 C [.int 4, .str "last", .non, .non] (spInit2 C)
  shelf3 : MakD P w K mg base 6 C [.non] (spInit3 C)
  walk : MakN P w K mg base 9 "Walk" W ["self", "web", "shelf"] (spInitW C W)
  walkK : MakK P w K mg base 9 "Walk" W 1 ["shelf"] gvK (spInitW C W)
  at_ : MetS P w K mg base 1 W "at" (spFld W "place")
  run : MetS P w K mg base 1 W "run" (spRunW W)
  counts : MetS P w K mg base 2 W "counts" (spCountsW C W)
  shf : MetS P w K mg base 9 W "shelf" (spShelfW C W)
  len : MetD P w K mg base 1 W "__len__" (spLenW W)
  nobool : PySem.W.findIn K (.ref W) "__bool__" = some none
  undo : MetX P w K mg base 1 W "undo" ["self"] (spUndoW W CB)
  step : MetX P w K mg base 9 W "step" ["self", "room", "to"] (spStepW C W CR CS)
  stepD : MetXD P w K mg base 9 W "step" ["self", "room", "to"] [.non, .non] (spStepW C W CR CS)
  stepK : MetXK P w K mg base 9 W "step" ["to", "room"] gvS (spStepW C W CR CS)
  slay : MetS P w K mg base 1 C "lay" (spTwo C "slots" "bits")
  seq : MetE P w K mg base 1 C (spEqS C)
  pool : Cal P w K mg base 1 "_law_pool" ["_law_script", "_law_k"] (spPool K)
  take : Cal P w K mg base 1 "_law_take" ["_law_pool_here", "_law_many"] spTake
  web : Cal P w K mg base 3 "_law_web" ["_law_pool_here", "_law_most_rows", "_law_most_rooms"] spLWeb
  made : Cal P w K mg base 11 "_law_made" ["_law_web_here", "_law_one"] (spMade K C)
  noroom : CalG P w K mg base 10 "_law_no_room" ["_law_walk", "_law_thing"] (spNoRoom C W)
  over : CalG P w K mg base 10 "_law_over" ["_law_walk"] (spOver C W)
  long : CalG P w K mg base 11 "_law_long" [] spLong
  kWS : PySem.W.kitOne K (.ref W) (.ref C) = some false
  tyW : ∀ (H : Hp) (x dx : Addr) (fs : List (Str × V)), H x = some (.ins W dx fs) → TyX K H (.ref x) (.ref W)
theorem scLaw : FnScope ["_law_script", "_law_k", "_law_pool_here", "_law_some", "_law_bad", "_law_odd", "_law_due", "_law_one", "_law_walk", "_law_end", "_law_thing"] ["_law_script"] (defScope sLaw) := ⟨rfl, rfl, rfl, by decide +kernel, rfl, by decide +kernel, by decide +kernel⟩
section
variable {P : Program} {w : World} {K : PySem.W.Frag} {mg : Str → Option Value} {base : Heap}
theorem ok_law {C W CN CF CB CR CS f : Addr} {fd : FuncData} (IS : IsS K mg C) (F : Fun K "law" "law" sLaw f fd) (B : Bt mg) (CA : Calls P w K mg base C W CN CF CB CR CS) : FnG P w K mg base CX0 12 f fd ["_law_script"] (spLaw K) := by
  obtain ⟨c_Shelf, c_Shelf3, c_Walk, c_WalkK, m_Wat, m_Wrun, m_Wcounts, m_Wshelf, m_Wlen, nobool, m_undo, m_step, m_stepD, m_stepK, m_lay, m_eq, c_pool, c_take, c_web, c_made, c_no_room, c_over, c_long, kWS, tyW⟩ := CA
  refine fnG_fun F scLaw (fun vs H Q E h => ?_) (fun cdv A outer s H vs Q E hg hr h => ?_)
  · obtain ⟨a, ns, rfl, _⟩ := h
    rfl
  obtain ⟨a, ns, rfl, hS, hlen, q⟩ := h
  refine ⟨_, (pss_cons (ps_if (pt_not (pt_val (pe_ownG0 c_long hg hr (by decide) (by rfl)))) (pss_one (ps_ret pe_bl)) pss_nil)
      (pss_cons (ps_for PassesOwn.never rfl (pi_range1 (by rfl) B.range (pa_cons (pe_callB (call_max2 rfl) (by rfl) B.max (by decide +kernel) (pa_cons pe_int (pa_cons (pe_callB (call_min2 rfl) (by rfl) B.min (by decide +kernel) (pa_cons (pe_callB call_len_seq (by rfl) B.len PySem.boot_len (pa_cons (pv 0) pa_nil)) (pa_cons pe_int pa_nil))) pa_nil))) pa_nil)) (pg_name (i := 1) scLaw.nd rfl (Or.inl rfl)) (pss_cons (ps_set (i := 2) scLaw.nd rfl (Or.inl rfl) (pe_own c_pool hr (by decide) (by rfl) (pa_cons (pv 0) (pa_cons (pv 1) pa_nil))))
      (pss_cons (ps_set (i := 3) scLaw.nd rfl (Or.inl rfl) (pe_own c_web hr (by decide) (by rfl) (pa_cons (pv 2) (pa_cons pe_int (pa_cons pe_int pa_nil)))))
      (pss_cons (ps_set (i := 4) scLaw.nd rfl (Or.inl rfl) (pe_ix (show IxR _ (rIxL K) from ix_list) (pe_lst (pa_cons pe_non (pa_cons (pe_lst pa_nil) (pa_cons pe_dnewK (pa_cons (pe_callTy call_tupleF (by rfl) B.tuple (by decide +kernel) (pa_cons (pv 3) pa_nil)) (pa_cons (pe_lst (pa_cons pe_non pa_nil)) (pa_cons (pe_lst (pa_cons (pe_tupF (pa_cons (pe_tupF pa_nil) (pa_cons (pe_tupF (pa_cons pe_int pa_nil)) pa_nil))) pa_nil)) (pa_cons (pe_op op_cat (pv 3) (pe_lst (pa_cons (pe_tupF (pa_cons (pe_tupF (pa_cons pe_int (pa_cons pe_int pa_nil))) (pa_cons (pe_tupF pa_nil) pa_nil))) pa_nil))) (pa_cons pe_int pa_nil))))))))) (pe_own c_take hr (by decide) (by rfl) (pa_cons (pv 2) (pa_cons pe_int pa_nil))) (fun _ _ => rfl)))
      (pss_cons (ps_set (i := 5) scLaw.nd rfl (Or.inl rfl) (pe_ix (show IxR _ (rIxL K) from ix_list) (pe_lst (pa_cons pe_non (pa_cons pe_int (pa_cons pe_str (pa_cons (pe_tupF (pa_cons (pe_op op_repF (pe_tupF (pa_cons (pe_un un_neg pe_int) pa_nil)) pe_int) (pa_cons (pe_tupF pa_nil) pa_nil))) (pa_cons (pe_lst (pa_cons (pe_shelf0 c_Shelf hr (by decide) (by rfl)) pa_nil)) (pa_cons pe_dnewK (pa_cons pe_bl (pa_cons (pe_makeN c_Walk hr (by decide) (by rfl) (pa_cons (pv 3) (pa_cons (pe_shelf0 c_Shelf hr (by decide) (by rfl)) pa_nil))) pa_nil))))))))) (pe_own c_take hr (by decide) (by rfl) (pa_cons (pv 2) (pa_cons pe_int pa_nil))) (fun _ _ => rfl)))
      (pss_cons (ps_set (i := 6) scLaw.nd rfl (Or.inl rfl) (pe_lst (pa_cons pe_str (pa_cons pe_non pa_nil))))
      (pss_cons (ps_if (PW.pt (pw_and (pt_val (pe_callB call_isi (by rfl) B.isinstance (by decide +kernel) (pa_cons (pv 4) (pa_cons (pe_bltn (v := .ty "list") (u := .type "list") (by rfl) B.list (by decide +kernel) rfl) pa_nil)))) (pw_and1 (pt_cmpR (op_neD hr.units) (pv 4) (pe_lst pa_nil) (nomark _))))) (pss_one (ps_set (i := 6) scLaw.nd rfl (Or.inl rfl) (pe_lst (pa_cons pe_str (pa_cons (pe_op op_sub (pe_callB call_len_seq (by rfl) B.len PySem.boot_len (pa_cons (pv 4) pa_nil)) pe_int) pa_nil))))) pss_nil)
      (pss_cons (ps_if (PW.pt (pw_or (pt_cmpR (op_neD hr.units) (pe_own c_made hr (by decide) (by rfl) (pa_cons (pv 4) (pa_cons (pv 5) pa_nil))) (pv 6) (nomark _)) (pw_or (pt_cmpR (op_neD hr.units) (pe_own c_made hr (by decide) (by rfl) (pa_cons (pv 4) (pa_cons (pe_shelf0 c_Shelf hr (by decide) (by rfl)) pa_nil))) (pv 6) (nomark _)) (pw_or1 (pt_cmpR (op_neD hr.units) (pe_own c_made hr (by decide) (by rfl) (pa_cons (pv 3) (pa_cons (pv 5) pa_nil))) (pe_lst (pa_cons pe_str (pa_cons pe_str pa_nil))) (nomark _)))))) (pss_one (ps_ret pe_bl)) pss_nil)
      (pss_cons (ps_set (i := 7) scLaw.nd rfl (Or.inl rfl) (pe_shelfD c_Shelf3 hr (by decide) (by rfl) (pa_cons pe_int (pa_cons pe_str (pa_cons (pe_tupF (pa_cons pe_int (pa_cons (pe_un un_neg pe_int) pa_nil))) pa_nil)))))
      (pss_cons (ps_set (i := 8) scLaw.nd rfl (Or.inl rfl) (pe_makeKW c_WalkK hr (by decide) (by rfl) (pa_cons (pe_op op_cat (pv 3) (pe_lst pa_nil)) pa_nil) (pk_cons (pv 7) pk_nil)))
      (pss_cons (ps_if (pt_cmpR (op_neD hr.units) (pe_lst (pa_cons (pe_mtS m_Wat hr (by decide) (pv 8)) (pa_cons (pe_mtS m_Wrun hr (by decide) (pv 8)) (pa_cons (pe_mtS m_Wcounts hr (by decide) (pv 8)) (pa_cons (pe_callB (call_lenI m_Wlen hg hr (by decide)) (by rfl) B.len PySem.boot_len (pa_cons (pv 8) pa_nil)) pa_nil))))) (pe_lst (pa_cons pe_int (pa_cons (pe_lst pa_nil) (pa_cons (pe_tupF (pa_cons pe_int (pa_cons pe_int pa_nil))) (pa_cons pe_int pa_nil))))) (nomark _)) (pss_one (ps_ret pe_bl)) pss_nil)
      (pss_cons (ps_if (PW.pt (pw_or (pt_cmpR (op_neO m_eq hr (by decide)) (pe_mtS m_Wshelf hr (by decide) (pv 8)) (pv 7) (nomark _)) (pw_or1 (pt_val (pe_callTy (call_boolI m_Wlen nobool hg hr (by decide)) (by rfl) B.bool (by decide +kernel) (pa_cons (pv 8) pa_nil)))))) (pss_one (ps_ret pe_bl)) pss_nil)
      (pss_cons (ps_set (i := 9) scLaw.nd rfl (Or.inl rfl) (pe_makeN c_Walk hr (by decide) (by rfl) (pa_cons (pe_lst (pa_cons (pe_tupF (pa_cons (pe_tupF (pa_cons pe_int (pa_cons pe_int pa_nil))) (pa_cons (pe_tupF (pa_cons pe_int (pa_cons pe_int pa_nil))) pa_nil))) (pa_cons (pe_tupF (pa_cons (pe_tupF pa_nil) (pa_cons (pe_tupF pa_nil) pa_nil))) pa_nil))) (pa_cons (pv 7) pa_nil))))
      (pss_cons (ps_for PassesOwn.never rfl (pi_list (pe_lst (pa_cons pe_non (pa_cons pe_bl (pa_cons pe_int (pa_cons pe_str (pa_cons (pe_lst (pa_cons pe_int pa_nil)) (pa_cons (pe_tupF (pa_cons pe_int pa_nil)) (pa_cons (pe_un un_neg pe_int) pa_nil))))))))) (pg_name (i := 10) scLaw.nd rfl (Or.inl rfl)) (pss_one (ps_if (pt_not (pt_val (pe_ownG c_no_room hg hr (by decide) (by rfl) (pa_cons (pv 9) (pa_cons (pv 10) pa_nil))))) (pss_one (ps_ret pe_bl)) pss_nil)))
      (pss_cons (ps_if (PW.pt (pw_or (pt_cmpR op_isnot_bl (pe_mtXK takes0 m_stepK hr (by decide) (pv 9) (pk_cons pe_int (pk_cons pe_int pk_nil))) pe_bl (nomark _)) (pw_or1 (pt_cmpR op_notN (pe_mtXD0 takes0 m_stepD hr (by decide) (pv 9)) pe_non (nomark _))))) (pss_one (ps_ret pe_bl)) pss_nil)
      (pss_cons (ps_if (PW.pt (pw_or (pt_cmpR op_notN (pe_mtS m_Wat hr (by decide) (pv 9)) pe_non (nomark _)) (pw_or1 (pt_not (pt_val (pe_ownG c_over hg hr (by decide) (by rfl) (pa_cons (pv 9) pa_nil))))))) (pss_one (ps_ret pe_bl)) pss_nil)
      (pss_cons (ps_expr (pe_mtX0 takes0 m_undo hr (by decide) (pv 9)))
      (pss_cons (ps_if (PW.pt (pw_or (pt_cmpR op_ne (pe_mtS m_Wat hr (by decide) (pv 9)) pe_int (nomark _)) (pw_or (pt_cmpR op_notN (pe_mtX takes0 m_step hr (by decide) (pv 9) (pa_cons pe_non (pa_cons pe_non pa_nil))) pe_non (nomark _)) (pw_or (pt_cmpR (op_neD hr.units) (pe_mtS m_Wcounts hr (by decide) (pv 9)) (pe_tupF (pa_cons pe_int (pa_cons pe_int pa_nil))) (nomark _)) (pw_or (pt_cmpR op_ne (pe_callB (call_lenI m_Wlen hg hr (by decide)) (by rfl) B.len PySem.boot_len (pa_cons (pv 9) pa_nil)) pe_int (nomark _)) (pw_or1 (pt_not ((pt_inst m_Wlen nobool hg hr (by decide)) (pv 9))))))))) (pss_one (ps_ret pe_bl)) pss_nil)
      (pss_cons (ps_expr (pe_mtX0 takes0 m_undo hr (by decide) (pv 9)))
      (pss_cons (ps_expr (pe_mtX0 takes0 m_undo hr (by decide) (pv 9)))
      (pss_one (ps_if (PW.pt (pw_or (pt_cmpR op_ne (pe_mtS m_Wat hr (by decide) (pv 9)) pe_int (nomark _)) (pw_or (pt_cmpR op_isnot_bl (pe_mtX takes0 m_step hr (by decide) (pv 9) (pa_cons pe_int (pa_cons pe_int pa_nil))) pe_bl (nomark _)) (pw_or (pt_cmpR (op_neD hr.units) (pe_mtS m_Wrun hr (by decide) (pv 9)) (pe_lst (pa_cons (pe_tupF (pa_cons pe_int (pa_cons pe_int pa_nil))) pa_nil)) (nomark _)) (pw_or1 (pt_cmpR (op_neD hr.units) (pe_mtS m_lay hr (by decide) (pv 7)) (pe_tupF (pa_cons (pe_tupF (pa_cons pe_int (pa_cons (pe_un un_neg pe_int) pa_nil))) (pa_cons (pe_tupF pa_nil) pa_nil))) (nomark _))))))) (pss_one (ps_ret pe_bl)) pss_nil))))))))))))))))))))))
      (pss_one (ps_ret pe_bl)))), ?_⟩
  refine ⟨rfl, fun H0 s0 => ⟨_, rfl, iteF ?_⟩⟩
  replace hS := Same.seq s0 hS
  obtain ⟨m, hm, hm2⟩ : ∃ m : Nat, (if (if (8 : Int) < ((ns.map V.int).length : Int) then 8 else ((ns.map V.int).length : Int)) > 1 then (if (8 : Int) < ((ns.map V.int).length : Int) then 8 else ((ns.map V.int).length : Int)) else 1) = (m : Int) ∧ m ≤ 12 := by
    rw [List.length_map]
    refine ⟨(if (if (8 : Int) < (ns.length : Int) then 8 else (ns.length : Int)) > 1 then (if (8 : Int) < (ns.length : Int) then 8 else (ns.length : Int)) else 1).toNat, ?_, ?_⟩
    all_goals
      by_cases e1 : (8 : Int) < (ns.length : Int)
      · simp only [e1, if_true]
        decide
      · simp only [e1, if_false]
        split <;> omega
  refine ⟨_, rfl, a, _, rfl, .inl hS, _, _, rfl, _, _, rfl, ?_⟩
  refine ⟨(m : Int), congrArg (fun z => [V.int z]) hm, by omega, by omega, ?_⟩
  rw [show ((m : Int)).toNat = m by omega]
  refine for_range (lo := 0) (n := m) (fun i σ H2 => ∃ y1 y2 y3 y4 y5 y6 y7 y8 y9 y10 : Option V, σ = [some (.ref a), y1, y2, y3, y4, y5, y6, y7, y8, y9, y10] ∧ SqL K H2 a (ns.map V.int)) ?_ ?_ ?_
  · exact ⟨none, none, none, none, none, none, none, none, none, none, rfl, hS⟩
  rotate_left
  · rintro σ H2 ⟨y1, y2, y3, y4, y5, y6, y7, y8, y9, y10, rfl, _⟩
    exact q H2
  rintro i σ Hs hi ⟨y1, y2, y3, y4, y5, y6, y7, y8, y9, y10, rfl, hSs⟩
  refine ⟨_, rfl, _, rfl, a, ns, _, rfl, hSs, by omega, by omega, fun p H1 s1 np hp1 => ?_⟩
  have back : ∀ {Hn : Hp}, Kept p H1 Hn → SqL K Hn a (ns.map V.int) := fun {Hn} k => Same.seq (fun b o e => k b o (s1 b o e) (ne_of_none e np)) hSs
  refine ⟨_, rfl, p, 5, 4, rfl, hp1, by decide, by decide, by decide, by decide, fun Wl H2 rs nW k2 hp2 hW ok hl5 => ?_⟩
  have eW : Wl ≠ p := pool_ne hp1 nW
  obtain ⟨ws, eWl, hws⟩ := hW
  have wl := hws.len
  refine ⟨(by show 0 ≤ sizeLine; decide), fun b1 nb1 => ?_⟩
  have lb1 : b1 ≠ p := pool_ne hp2 nb1
  have q1 := same_upd (o := .lst []) nb1
  have eb1 : (upd H2 b1 (.lst [])) b1 = some (.lst []) := upd_same
  generalize upd H2 b1 (.lst []) = J1 at q1 eb1 ⊢
  have c1 := q1
  refine fun b2 nb2 => ?_
  have lb2 : b2 ≠ p := pool_ne (hp2.same c1) nb2
  have q2 := same_upd (o := .dK []) nb2
  have eb2 : (upd J1 b2 (.dK [])) b2 = some (.dK []) := upd_same
  generalize upd J1 b2 (.dK []) = J2 at q2 eb2 ⊢
  have c2 := c1.trans q2
  refine ⟨_, rfl, Wl, ws, rfl, SqL.of ((q1.trans q2) _ _ eWl), fun b3 J3 q3 nb3 pb3 => ?_⟩
  have c3 := c2.trans q3
  refine ⟨(by show 1 ≤ sizeLine; decide), fun b4 nb4 => ?_⟩
  have lb4 : b4 ≠ p := pool_ne (hp2.same c3) nb4
  have q4 := same_upd (o := .lst [V.non]) nb4
  have eb4 : (upd J3 b4 (.lst [V.non])) b4 = some (.lst [V.non]) := upd_same
  generalize upd J3 b4 (.lst [V.non]) = J4 at q4 eb4 ⊢
  have c4 := c3.trans q4
  refine ⟨(by show 0 ≤ sizeLine; decide), fun t1 J5 q5 nt1 pt1 => ?_⟩
  have c5 := c4.trans q5
  refine ⟨(by show 1 ≤ sizeLine; decide), fun t2 J6 q6 nt2 pt2 => ?_⟩
  have c6 := c5.trans q6
  refine ⟨(by show 2 ≤ sizeLine; decide), fun t3 J7 q7 nt3 pt3 => ?_⟩
  have c7 := c6.trans q7
  refine ⟨(by show 1 ≤ sizeLine; decide), fun b5 nb5 => ?_⟩
  have lb5 : b5 ≠ p := pool_ne (hp2.same c7) nb5
  have q8 := same_upd (o := .lst [V.ref t3]) nb5
  have eb5 : (upd J7 b5 (.lst [V.ref t3])) b5 = some (.lst [V.ref t3]) := upd_same
  generalize upd J7 b5 (.lst [V.ref t3]) = J8 at q8 eb5 ⊢
  have c8 := c7.trans q8
  refine ⟨_, rfl, ?_⟩
  refine ⟨(by show 2 ≤ sizeLine; decide), fun u1 J9 q9 nu1 pu1 => ?_⟩
  have c9 := c8.trans q9
  refine ⟨(by show 0 ≤ sizeLine; decide), fun u2 J10 q10 nu2 pu2 => ?_⟩
  have c10 := c9.trans q10
  refine ⟨(by show 2 ≤ sizeLine; decide), fun u3 J11 q11 nu3 pu3 => ?_⟩
  have c11 := c10.trans q11
  refine ⟨(by show 1 ≤ sizeLine; decide), fun u4 nu4 => ?_⟩
  have lu4 : u4 ≠ p := pool_ne (hp2.same c11) nu4
  have q12 := same_upd (o := .lst [V.ref u3]) nu4
  have eu4 : (upd J11 u4 (.lst [V.ref u3])) u4 = some (.lst [V.ref u3]) := upd_same
  generalize upd J11 u4 (.lst [V.ref u3]) = J12 at q12 eu4 ⊢
  have c12 := c11.trans q12
  have sx : Same H2 J12 := q1.trans (q2.trans (q3.trans (q4.trans (q5.trans (q6.trans (q7.trans (q8.trans (q9.trans (q10.trans (q11.trans q12))))))))))
  refine ⟨Wl, u4, ws, _, rfl, rfl, sx _ _ eWl, eu4, (by show ws.length + 1 ≤ sizeLine; exact Nat.le_of_lt (small1000 (by omega))), fun b6 nb6 => ?_⟩
  have lb6 : b6 ≠ p := pool_ne (hp2.same c12) nb6
  have q13 := same_upd (o := .lst (ws ++ [V.ref u3])) nb6
  have eb6 : (upd J12 b6 (.lst (ws ++ [V.ref u3]))) b6 = some (.lst (ws ++ [V.ref u3])) := upd_same
  generalize upd J12 b6 (.lst (ws ++ [V.ref u3])) = J13 at q13 eb6 ⊢
  have c13 := c12.trans q13
  refine ⟨(by show 8 ≤ sizeLine; decide), fun BL nBL => ?_⟩
  have lBL : BL ≠ p := pool_ne (hp2.same c13) nBL
  have q14 := same_upd (o := .lst [V.non, V.ref b1, V.ref b2, V.ref b3, V.ref b4, V.ref b5, V.ref b6, V.int 0]) nBL
  have eBL : (upd J13 BL (.lst [V.non, V.ref b1, V.ref b2, V.ref b3, V.ref b4, V.ref b5, V.ref b6, V.int 0])) BL = some (.lst [V.non, V.ref b1, V.ref b2, V.ref b3, V.ref b4, V.ref b5, V.ref b6, V.int 0]) := upd_same
  generalize upd J13 BL (.lst [V.non, V.ref b1, V.ref b2, V.ref b3, V.ref b4, V.ref b5, V.ref b6, V.int 0]) = J14 at q14 eBL ⊢
  have c14 := c13.trans q14
  have r14 : Same J14 J14 := Same.refl _
  have r13 := q14.trans r14
  have r12 := q13.trans r13
  have r11 := q12.trans r12
  have r10 := q11.trans r11
  have r9 := q10.trans r10
  have r8 := q9.trans r9
  have r7 := q8.trans r8
  have r6 := q7.trans r7
  have r5 := q6.trans r6
  have r4 := q5.trans r5
  have r3 := q4.trans r4
  have r2 := q3.trans r3
  have r1 := q2.trans r2
  have r0 : Same H2 J14 := q1.trans r1
  have hpJ := hp2.same r0
  refine ⟨_, rfl, p, 8, rfl, hpJ, by decide, by decide, fun rb ob rb0 rb8 pob => ?_⟩
  have kT := Kept.upd p J14 ob
  have hpT : PoolAt (upd J14 p ob) p := ⟨ob, upd_same, pob⟩
  have eBT := kT _ _ eBL lBL
  have web0 : TgL p J14 ws (rs.map GW.rowT) := GW.tg_rows (hws.keep (K2.same r0))
  have kp : Keeps p J14 (upd J14 p ob) := Keeps.of kT hpJ
  obtain ⟨vb, hvb, evb⟩ := cons_nil_fin (xs := [V.non, V.ref b1, V.ref b2, V.ref b3, V.ref b4, V.ref b5, V.ref b6, V.int 0]) 8 rfl rb0 rb8
  have bad : ∃ g b, Tg p J14 vb g ∧ BadT g b := by
    simp only [List.mem_cons, List.not_mem_nil, or_false] at hvb
    rcases hvb with rfl | rfl | rfl | rfl | rfl | rfl | rfl | rfl
    · exact ⟨_, _, .non, bad_non⟩
    · exact ⟨_, _, .lst lb1 (r1 _ _ eb1) .nil, bad_nil⟩
    · exact ⟨_, _, .dct (r2 _ _ eb2), bad_dct⟩
    · exact ⟨_, _, .tup (.inl (pb3.same r3)) web0, bad_tup _⟩
    · exact ⟨_, _, .lst lb4 (r4 _ _ eb4) (.cons .non .nil), bad_none⟩
    · exact ⟨_, _, .lst lb5 (r8 _ _ eb5) (.cons (.tup (.inl (pt3.same r7)) (.cons (.tup (.inl (pt1.same r5)) .nil) (.cons (.tup (.inl (pt2.same r6)) (.cons (.int 7) .nil)) .nil))) .nil), bad_far⟩
    · exact ⟨_, _, .lst lb6 (r13 _ _ eb6) (web0.app (.cons (.tup (.inl (pu3.same r11)) (.cons (.tup (.inl (pu1.same r9)) (.cons (.int 3) (.cons (.int 3) .nil))) (.cons (.tup (.inl (pu2.same r10)) .nil) .nil))) .nil)), bad_more ok (by omega)⟩
    · exact ⟨_, _, .int 0, bad_int 0⟩
  refine ⟨BL, _, rb, vb, rfl, rfl, SqL.of eBT, evb, ?_⟩
  obtain ⟨gb, bb, tgb, hbad⟩ := bad
  replace tgb := tgb.keep kp
  have hwsT := hws.keep ((K2.same r0).trans (K2.of kT hpJ))
  have eWT : (upd J14 p ob) Wl = some (.lst ws) := kT _ _ (r0 _ _ eWl) eW
  have kH : Kept p H1 (upd J14 p ob) := (k2.trans (Kept.same r0)).trans kT
  generalize upd J14 p ob = JT at tgb hwsT eWT kH hpT ⊢
  clear eBT eBL web0 kp kT r0 sx hpJ r1 r2 r3 r4 r5 r6 r7 r8 r9 r10 r11 r12 r13 r14 q1 q2 q3 q4 q5 q6 q7 q8 q9 q10 q11 q12 q13 q14
  have okS : ∀ {n : Nat}, 1 ≤ n → n ≤ 8 → LayOk "last" n (List.replicate n (-1)) (newB n "last") := fun {n} h1 h2 => lay_new (slots_rep n) h1 h2 (fun z => by cases z)
  have wl : inV (.str "last") wayVs = true := by decide +kernel
  refine ⟨1, rfl, (by show 1 ≤ sizeLine; decide), fun d1 K1 q1 nd1 pd1 => ?_⟩
  refine ⟨d1, 4, [V.int (-1)], rfl, rfl, pd1, (by simp), by decide, by decide, (by show 1 ≤ 1000; decide), fun d2 K2' q2 pd2 => ?_⟩
  refine ⟨(by show 0 ≤ sizeLine; decide), fun d3 K3 q3 nd3 pd3 => ?_⟩
  refine ⟨(by show 2 ≤ sizeLine; decide), fun d4 K4 q4 nd4 pd4 => ?_⟩
  refine fun x1 dx1 nx1 ndx1 ne1 => mk2 (n := 4) nx1 ndx1 ne1 (okS (by decide) (by decide)) wl fun K5 q5 hs1 => ⟨rfl, ?_⟩
  refine ⟨(by show 1 ≤ sizeLine; decide), fun d5 nd5 => ?_⟩
  have q6 := same_upd (o := .lst [V.ref x1]) nd5
  have ed5 : (upd K5 d5 (.lst [V.ref x1])) d5 = some (.lst [V.ref x1]) := upd_same
  generalize upd K5 d5 (.lst [V.ref x1]) = K6 at q6 ed5 ⊢
  refine fun d6 nd6 => ?_
  have q7 := same_upd (o := .dK []) nd6
  have ed6 : (upd K6 d6 (.dK [])) d6 = some (.dK []) := upd_same
  generalize upd K6 d6 (.dK []) = K7 at q7 ed6 ⊢
  refine ⟨_, rfl, fun x2 dx2 nx2 ndx2 ne2 => mk2 (n := 4) nx2 ndx2 ne2 (okS (by decide) (by decide)) wl fun K8 q8 hs2 => ⟨rfl, ?_⟩⟩
  have c8 := q1.trans (q2.trans (q3.trans (q4.trans (q5.trans (q6.trans (q7.trans q8))))))
  refine fun x3 dx3 nx3 ndx3 ne3 => mkW nx3 ndx3 ne3 (rs := rs) ⟨ws, c8 _ _ eWT, hwsT.keep (K2.same c8)⟩ ok hs2 fun K9 r9 l9 q9 nr9 nl9 rl9 wk9 => ⟨rfl, ?_⟩
  refine ⟨(by show 8 ≤ sizeLine; decide), fun OL nOL => ?_⟩
  have q10 := same_upd (o := .lst [V.non, V.int 4, V.str "last", V.ref d4, V.ref d5, V.ref d6, V.bl true, V.ref x3]) nOL
  have eOL : (upd K9 OL (.lst [V.non, V.int 4, V.str "last", V.ref d4, V.ref d5, V.ref d6, V.bl true, V.ref x3])) OL = some (.lst [V.non, V.int 4, V.str "last", V.ref d4, V.ref d5, V.ref d6, V.bl true, V.ref x3]) := upd_same
  have c9 := c8.trans q9
  have lOL : OL ≠ p := pool_ne (hpT.same c9) nOL
  have ld5 : d5 ≠ p := pool_ne (hpT.same (q1.trans (q2.trans (q3.trans (q4.trans q5))))) nd5
  generalize upd K9 OL (.lst [V.non, V.int 4, V.str "last", V.ref d4, V.ref d5, V.ref d6, V.bl true, V.ref x3]) = K10 at q10 eOL ⊢
  have c10 := c9.trans q10
  have hpK := hpT.same c10
  refine ⟨_, rfl, p, 8, rfl, hpK, by decide, by decide, fun ro oo ro0 ro8 poo => ?_⟩
  have kT2 := Kept.upd p K10 oo
  have hpT2 : PoolAt (upd K10 p oo) p := ⟨oo, upd_same, poo⟩
  have eOT := kT2 _ _ eOL lOL
  have kp2 : Keeps p K10 (upd K10 p oo) := Keeps.of kT2 hpK
  have kkP : KP K10 (upd K10 p oo) := KP.kept kT2 hpK
  obtain ⟨vo, hvo, evo⟩ := cons_nil_fin (xs := [V.non, V.int 4, V.str "last", V.ref d4, V.ref d5, V.ref d6, V.bl true, V.ref x3]) 8 rfl ro0 ro8
  have odd : NotS K C (upd K10 p oo) vo := by
    have ofOdd : ∀ {v : V}, (∀ H', Same (upd K10 p oo) H' → OddT H' v) → NotS K C (upd K10 p oo) v := fun {v} h H' s' => by
      obtain ⟨T, hT, ty⟩ := (h H' s').ty (K := K)
      exact ⟨_, ty, IS.kit hT⟩
    have pd4T := kkP _ _ (pd4.same (q5.trans (q6.trans (q7.trans (q8.trans (q9.trans q10))))))
    have ed5T := kT2 _ _ ((q7.trans (q8.trans (q9.trans q10))) _ _ ed5) ld5
    have ed6T := kp2.dk _ _ ((q8.trans (q9.trans q10)) _ _ ed6)
    simp only [List.mem_cons, List.not_mem_nil, or_false] at hvo
    rcases hvo with rfl | rfl | rfl | rfl | rfl | rfl | rfl | rfl
    · exact ofOdd fun H' s' => .inl rfl
    · exact ofOdd fun H' s' => .inr (.inr (.inl ⟨_, rfl⟩))
    · exact ofOdd fun H' s' => .inr (.inr (.inr (.inl ⟨_, rfl⟩)))
    · exact ofOdd fun H' s' => .inr (.inr (.inr (.inr (.inr (.inl ⟨_, _, rfl, pd4T.same s'⟩)))))
    · exact ofOdd fun H' s' => .inr (.inr (.inr (.inr (.inl ⟨_, _, rfl, s' _ _ ed5T⟩))))
    · exact ofOdd fun H' s' => .inr (.inr (.inr (.inr (.inr (.inr ⟨_, _, rfl, s' _ _ ed6T⟩)))))
    · exact ofOdd fun H' s' => .inr (.inl ⟨_, rfl⟩)
    · intro H' s'
      obtain ⟨dxw, kw, aw, ysw, hxw, _⟩ := wk9.ex
      have e10 := q10 _ _ hxw
      exact ⟨.ref W, tyW H' _ _ _ (s' _ _ (kT2 _ _ e10 (fun z => by
        obtain ⟨o, e, po⟩ := hpK
        rw [z, e] at e10
        cases e10
        obtain ⟨_, _, z, _⟩ := po
        cases z))), kWS⟩
  refine ⟨OL, _, ro, vo, rfl, rfl, SqL.of eOT, evo, ?_⟩
  replace tgb := (tgb.keep (Keeps.same (p := p) c10)).keep kp2
  have hwsU := hwsT.keep ((K2.same c10).trans (K2.of kT2 hpK))
  have eWU : (upd K10 p oo) Wl = some (.lst ws) := kT2 _ _ (c10 _ _ eWT) eW
  have kU : Kept p H1 (upd K10 p oo) := (kH.trans (Kept.same c10)).trans kT2
  generalize upd K10 p oo = U0 at tgb hwsU eWU kU hpT2 odd ⊢
  clear eOT eOL kT2 kp2 kkP hpK c10 c9 c8 q1 q2 q3 q4 q5 q6 q7 q8 q9 q10 wk9 hs1 hs2 ed5 ed6 pd1 pd2 pd3 pd4 hwsT eWT kH hpT
  obtain ⟨db, hbv⟩ := hbad.bv
  obtain ⟨rbad, lkb, rvb⟩ := hbad.look
  refine ⟨(by show 2 ≤ sizeLine; decide), fun D1 nD1 => mid_ifM (M := fun σ' H' => ∃ D' : Addr, σ' = [some (.ref a), some (.int (0 + (i : Int))), some (.ref p), some (.ref Wl), some vb, some vo, some (.ref D'), y7, y8, y9, y10] ∧ Same U0 H' ∧ H' D' = some (.lst [.str "web", bb])) ?hR ?h⟩
  case h =>
    intro D2 rest
    have sD := same_upd (o := .lst [V.str "web", V.non]) nD1
    have eD : (upd U0 D1 (.lst [V.str "web", V.non])) D1 = some (.lst [V.str "web", V.non]) := upd_same
    generalize upd U0 D1 (.lst [V.str "web", V.non]) = U1 at sD eD ⊢
    have tg1 := tgb.keep (Keeps.same (p := p) sD)
    refine ⟨_, rfl, vb, .ty "list", _, _, _, rfl, .ty "list", tg1.ty, kit_list gb, _, rfl, ?_⟩
    rcases hbad.kind with ⟨gs, rfl, gne, rfl, goe⟩ | ⟨rfl, rfl | nl⟩
    · refine iteT ?_
      obtain ⟨ok1, sh1⟩ := OkE.list goe
      cases tg1 with
      | @lst c vs ds nc ec tc =>
        have hl := tc.len
        refine ⟨_, rfl, (by show 0 ≤ sizeLine; decide), fun z0 nz0 => ?_⟩
        have sz := same_upd (o := .lst []) nz0
        have ez : (upd U1 z0 (.lst [])) z0 = some (.lst []) := upd_same
        generalize upd U1 z0 (.lst []) = U2 at sz ez ⊢
        have tg2 : Tg p U2 (.ref c) (.lst gs) := Tg.keep (Keeps.same sz) (.lst nc ec tc)
        refine ⟨toD (.lst gs), .list [], tg2.dp (by simp only [okD, ok1]), .lst (SqL.of ez) .nil, (by simp only [toD]; exact sh1), shaped_nil, _, rfl, ?_⟩
        have ee : PyData.eqv (toD (.lst gs)) (.list []) = false := by
          simp only [toD]
          rw [eqv_nilD]
          cases gs with
          | nil => exact absurd rfl gne
          | cons g l => rfl
        rw [ee]
        refine ⟨_, rfl, c, vs, rfl, .inl (SqL.of (sz _ _ ec)), _, _, rfl, rfl, (by show 2 ≤ sizeLine; decide), fun D3 nD3 => ?_⟩
        refine rest _ _ ⟨D3, rfl, (sD.trans sz).trans (same_upd nD3), ?_⟩
        rw [upd_same, hl]
    · refine iteT ?_
      cases tg1 with
      | @lst c vs ds nc ec tc =>
        refine ⟨_, rfl, (by show 0 ≤ sizeLine; decide), fun z0 nz0 => ?_⟩
        have sz := same_upd (o := .lst []) nz0
        have ez : (upd U1 z0 (.lst [])) z0 = some (.lst []) := upd_same
        generalize upd U1 z0 (.lst []) = U2 at sz ez ⊢
        have tg2 : Tg p U2 (.ref c) (.lst []) := Tg.keep (Keeps.same sz) (.lst nc ec tc)
        refine ⟨toD (.lst []), .list [], tg2.dp rfl, .lst (SqL.of ez) .nil, shaped_nil, shaped_nil, _, rfl, ?_⟩
        exact rest _ _ ⟨D1, rfl, sD.trans sz, sz _ _ eD⟩
    · have ef : isList gb = false := by
        cases gb with
        | lst gs => exact absurd rfl (nl gs)
        | _ => rfl
      rw [ef]
      exact rest _ _ ⟨D1, rfl, sD, eD⟩
  case hR =>
  rintro σ' U1 ⟨DD, rfl, s1U, eDD⟩
  have pk := pair_ok (a := "web") (by decide +kernel) hbv
  have tg1 := tgb.keep (Keeps.same (p := p) s1U)
  refine ⟨_, rfl, _, rfl, p, vb, vo, gb, "web", bb, rfl, tg1, .inl ⟨rbad, lkb, rfl, rvb.symm⟩, fun L1 U2 s2 nL1 eL1 => ?_⟩
  refine ⟨_, rfl, _, _, .lst (SqL.of eL1) (.cons (.str _) (.cons hbv.dp .nil)), .lst (SqL.of (s2 _ _ eDD)) (.cons (.str _) (.cons hbv.dp .nil)), pk.1, pk.1, _, rfl, iteB (fun z => absurd z (by rw [pk.2]; decide)) (fun _ => ?_)⟩
  refine ⟨_, rfl, fun x1 dx1 nx1 ndx1 ne1 => mk2 (n := 4) nx1 ndx1 ne1 (okS (by decide) (by decide)) wl fun U3 s3 hs1 => ⟨rfl, ?_⟩⟩
  have s13 := s1U.trans (s2.trans s3)
  refine ⟨p, vb, .ref x1, gb, "web", bb, rfl, tgb.keep (Keeps.same (p := p) s13), .inl ⟨rbad, lkb, rfl, rvb.symm⟩, fun L2_ U4 s4 nL2 eL2 => ?_⟩
  have eDD4 := (s2.trans (s3.trans s4)) _ _ eDD
  refine ⟨_, rfl, _, _, .lst (SqL.of eL2) (.cons (.str _) (.cons hbv.dp .nil)), .lst (SqL.of eDD4) (.cons (.str _) (.cons hbv.dp .nil)), pk.1, pk.1, _, rfl, iteB (fun z => absurd z (by rw [pk.2]; decide)) (fun _ => ?_)⟩
  have s14 := s13.trans s4
  have hW4 : WebAt U4 Wl rs := ⟨ws, s14 _ _ eWU, hwsU.keep (K2.same s14)⟩
  have pw := pair_ok (a := "shelf") (by decide +kernel) BV.way
  refine ⟨_, rfl, _, rfl, p, .ref Wl, vo, _, "shelf", .str "way", rfl, GW.tg_web hW4 eW, .inr ⟨GW.look_web ok, fun H' s' => odd H' (s14.trans s'), rfl, rfl⟩, fun L3 U5 s5 nL3 eL3 => ?_⟩
  refine ⟨(by show 2 ≤ sizeLine; decide), fun M1 nM1 => ?_⟩
  have s6 := same_upd (o := .lst [V.str "shelf", V.str "way"]) nM1
  refine ⟨_, _, .lst (SqL.of (s6 _ _ eL3)) (.cons (.str _) (.cons (.str _) .nil)), .lst (SqL.of upd_same) (.cons (.str _) (.cons (.str _) .nil)), pw.1, pw.1, _, rfl, iteB (fun z => absurd z (by rw [pw.2]; decide)) (fun _ => ?_)⟩
  have s16 := s14.trans (s5.trans s6)
  have hW6 := (hW4.same s5).same s6
  generalize upd U5 M1 (.lst [V.str "shelf", V.str "way"]) = U6 at s16 hW6 ⊢
  clear s6 s5 s4 s3 s2 s1U s13 s14 hs1 eL1 eL2 eL3 eDD eDD4 tg1 tgb odd hW4
  obtain ⟨ws6, eW6, hws6⟩ := hW6
  refine ⟨1, rfl, (by show 2 ≤ sizeLine; decide), fun c1 V1 s1V nc1 pc1 => ?_⟩
  have lk2 : LayOk "first" 2 [7, -1] (newB 2 "first") := lay_new ⟨rfl, by decide, fun v hv => by
    by_cases z : v = 7
    · subst z
      decide
    · rw [List.count_eq_zero_of_not_mem (by simp [z, hv])]
      omega⟩ (by decide) (by decide) (fun z => by cases z)
  refine fun one d1 no1 nd1 ne1 => mk3 (n := 2) (xs := [7, -1]) no1 nd1 ne1 pc1 lk2 (by decide +kernel) fun V2 s2V hone => ⟨rfl, ?_⟩
  have eW2 := (s1V.trans s2V) _ _ eW6
  refine ⟨_, rfl, (by show 0 ≤ sizeLine; decide), fun z1 nz1 => ?_⟩
  have s3V := same_upd (o := .lst []) nz1
  have ez1 : (upd V2 z1 (.lst [])) z1 = some (.lst []) := upd_same
  generalize upd V2 z1 (.lst []) = V3 at s3V ez1 ⊢
  refine ⟨Wl, z1, ws6, [], rfl, rfl, s3V _ _ eW2, ez1, (by show ws6.length + 0 ≤ sizeLine; exact Nat.le_of_lt (small1000 (by have := hws6.len; omega))), fun z2 nz2 => ?_⟩
  rw [List.append_nil]
  have s4V := same_upd (o := .lst ws6) nz2
  have ez2 : (upd V3 z2 (.lst ws6)) z2 = some (.lst ws6) := upd_same
  generalize upd V3 z2 (.lst ws6) = V4 at s4V ez2 ⊢
  have s24 := s3V.trans s4V
  have s14 := s1V.trans (s2V.trans s24)
  refine ⟨_, rfl, rfl, rfl, fun x2 dx2 nx2 ndx2 ne2 => ?_⟩
  refine mkW nx2 ndx2 ne2 (rs := rs) ⟨ws6, ez2, hws6.keep (K2.same s14)⟩ ok (hone.same s24) fun V5 r2 l2 s5V nr2 nl2 rl2 wk2 => ⟨rfl, ?_⟩
  have hone5 := hone.same (s24.trans s5V)
  have s05 := s16.trans (s14.trans s5V)
  clear s1V s2V s3V s4V s5V s24 s14 pc1 hone ez1 ez2
  obtain ⟨dx8, k8, a8, ys8, hx8, hk8, ha8, hl8, yl8, yy8⟩ := wk2.ex
  replace hk8 : ShV C V5 k8 2 "first" [7, -1] (newB 2 "first") (nrF (⟨rs, some 0, [], 2, "first", ([7, -1], newB 2 "first"), 0, 0⟩ : St19) 0) (frF (⟨rs, some 0, [], 2, "first", ([7, -1], newB 2 "first"), 0, 0⟩ : St19) 0) := hk8
  rw [nr0, fr0] at hk8
  obtain rfl : ys8 = [] := List.length_eq_zero_iff.mp yl8
  have hen8 : ∀ {HH : Hp}, EntsAt HH [] ([] : List Stp) := fun {HH} => ⟨rfl, fun i sp e => by cases e⟩
  refine ⟨_, rfl, x2, dx8, _, rfl, hx8, rfl, x2, dx8, _, .int 0, rfl, hx8, rfl, ?_⟩
  refine ⟨_, rfl, x2, dx8, _, rfl, hx8, rfl, x2, dx8, l2, _, _, _, _, [], [], rfl, hx8, hl8, hen8, (by decide), fun R1 V6 s6V nR1 hR1 => ?_⟩
  refine ⟨_, rfl, x2, dx8, _, rfl, s6V _ _ hx8, rfl, x2, dx8, k8, a8, _, _, _, _, _, _, _, _, _, _, _, rfl, s6V _ _ hx8, hk8.same s6V, ha8.same s6V, fun t7 V7 s7V pt7 => ?_⟩
  have s67 := s6V.trans s7V
  refine ⟨_, rfl, x2, dx8, _, rfl, s67 _ _ hx8, x2, dx8, l2, _, _, _, _, [], rfl, s67 _ _ hx8, s67 _ _ hl8, _, rfl, ⟨by decide, by decide⟩, ?_⟩
  refine ⟨(by show 4 ≤ sizeLine; decide), fun Q1 nQ1 => ?_⟩
  refine ⟨(by show 0 ≤ sizeLine; decide), fun Q2 nQ2 => ⟨(by show 2 ≤ sizeLine; decide), fun t8 V8 s8V nt8 pt8 => ⟨(by show 4 ≤ sizeLine; decide), fun Q3 nQ3 => ?_⟩⟩⟩
  have sQ1 := same_upd (o := .lst [V.int 0, V.ref R1, V.ref t7, V.int 0]) nQ1
  have sQ2 := same_upd (o := .lst []) nQ2
  have sQ3 := same_upd (o := .lst [V.int 0, V.ref Q2, V.ref t8, V.int 0]) nQ3
  obtain ⟨rv1, erv1, hrv1⟩ := hR1
  obtain rfl : rv1 = [] := List.length_eq_zero_iff.mp hrv1.len
  have sA := s7V.trans (sQ1.trans (sQ2.trans (s8V.trans sQ3)))
  have sB := sQ1.trans (sQ2.trans (s8V.trans sQ3))
  have sC := sQ2.trans (s8V.trans sQ3)
  have sD := s8V.trans sQ3
  refine ⟨dat4, dat4, .lst (SqL.of (sC _ _ upd_same)) (.cons (.int 0) (.cons (.lst (SqL.of (sA _ _ erv1)) .nil) (.cons (.tup (pt7.same sB).sq (.cons (.int _) (.cons (.int _) .nil))) (.cons (.int 0) .nil)))), .lst (SqL.of upd_same) (.cons (.int 0) (.cons (.lst (SqL.of (sD _ _ upd_same)) .nil) (.cons (.tup (pt8.same sQ3).sq (.cons (.int _) (.cons (.int _) .nil))) (.cons (.int 0) .nil)))), dat4_ok.1, dat4_ok.1, _, rfl, iteB (fun z => absurd z (by rw [dat4_ok.2]; decide)) (fun _ => ?_)⟩
  have s5E := s67.trans sB
  generalize upd V8 Q3 (.lst [V.int 0, V.ref Q2, V.ref t8, V.int 0]) = V9 at s5E ⊢
  clear sA sB sC sD sQ1 sQ2 sQ3 s6V s7V s8V s67 pt7 pt8 erv1 hrv1
  have hx9 := s5E _ _ hx8
  have hk9 := hk8.same s5E
  have hone9 := hone5.same s5E
  have hl9 := s5E _ _ hl8
  refine ⟨_, rfl, x2, dx8, _, rfl, hx9, rfl, x2, dx8, k8, _, _, _, _, rfl, hx9, k8, 2, "first", [7, -1], newB 2 "first", 0, 0, rfl, hk9, fun y6 VA sA ny6 hy6 => ?_⟩
  have honeA := hone9.same sA
  obtain ⟨d1A, sa1, sb1, honeX, _⟩ := honeA.ex
  obtain ⟨dy, _, _, hyx, _⟩ := hy6.ex
  refine ⟨_, rfl, y6, dy, _, rfl, hyx, .inl ⟨one, d1A, _, rfl, honeX⟩, y6, .ref one, 2, "first", [7, -1], newB 2 "first", 0, 0, rfl, hy6, .inl ⟨one, 2, "first", [7, -1], newB 2 "first", 0, 0, rfl, honeA, true, ?_, ?_⟩⟩
  · show V.bl (alikeF 2 2 "first" "first" [7, -1] [7, -1] (newB 2 "first") (newB 2 "first")) = V.bl true
    unfold alikeF
    simp only [decide_true, Bool.and_self]
  refine ⟨_, rfl, iteF ?_⟩
  have hxA := sA _ _ hx9
  refine ⟨_, rfl, x2, dx8, _, rfl, hxA, x2, dx8, l2, _, _, _, _, [], rfl, hxA, sA _ _ hl9, 0, rfl, ⟨by decide, by decide⟩, _, rfl, iteF ?_⟩
  have sU : Same U0 VA := s05.trans (s5E.trans sA)
  clear hyx hy6 hxA hx9 hk9 hone9 hone5 hx8 hk8 ha8 hl8 hl9 s05 s5E sA wk2 honeX
  refine ⟨(by show 2 ≤ sizeLine; decide), fun f1 A1 a1 nf1 pf1 => ⟨(by show 2 ≤ sizeLine; decide), fun f2 A2 a2 nf2 pf2 => ⟨(by show 2 ≤ sizeLine; decide), fun f3 A3 a3 nf3 pf3 => ⟨(by show 0 ≤ sizeLine; decide), fun f4 A4 a4 nf4 pf4 => ⟨(by show 0 ≤ sizeLine; decide), fun f5 A5 a5 nf5 pf5 => ⟨(by show 2 ≤ sizeLine; decide), fun f6 A6 a6 nf6 pf6 => ⟨(by show 2 ≤ sizeLine; decide), fun RL nRL => ?_⟩⟩⟩⟩⟩⟩⟩
  have a7 := same_upd (o := .lst [V.ref f3, V.ref f6]) nRL
  have eRL : (upd A6 RL (.lst [V.ref f3, V.ref f6])) RL = some (.lst [V.ref f3, V.ref f6]) := upd_same
  generalize upd A6 RL (.lst [V.ref f3, V.ref f6]) = A7 at a7 eRL ⊢
  have b6 := a7
  have b5 := a6.trans b6
  have b4 := a5.trans b5
  have b3 := a4.trans b4
  have b2 := a3.trans b3
  have b1 := a2.trans b2
  have b0 := a1.trans b1
  have hWR : WebAt A7 RL rows2 := ⟨_, eRL, ⟨f3, f1, f2, rfl, .inl (pf3.same b3), .inl (pf1.same b1), .inl (pf2.same b2)⟩, ⟨f6, f4, f5, rfl, .inl (pf6.same b6), .inl (pf4.same b4), .inl (pf5.same b5)⟩, trivial⟩
  have hone7 := honeA.same b0
  have sU7 := sU.trans b0
  clear honeA b0 b1 b2 b3 b4 b5 b6 a1 a2 a3 a4 a5 a6 a7 eRL pf1 pf2 pf3 pf4 pf5 pf6 sU
  refine ⟨_, rfl, fun x dx nx ndx ne3 => mkW nx ndx ne3 hWR rows2_ok hone7 fun A8 r l s8 nr nl rl wk => ⟨rfl, ?_⟩⟩
  have nxU : U0 x = none := none_back sU7 nx
  have nlU : U0 l = none := none_back sU7 nl
  have one_l : one ≠ l := by
    obtain ⟨_, _, _, e, _⟩ := hone7.ex
    exact ne_of_none e nl
  have one_x : one ≠ x := by
    obtain ⟨_, _, _, e, _⟩ := hone7.ex
    exact ne_of_none e nx
  have hone8 := hone7.same s8
  have sU8 := sU7.trans s8
  clear hone7 sU7 hWR s8
  have adv : ∀ {HA HB : Hp} {e : St19}, WkJ C W HA x r l e → But2 x l HA HB → Same U0 HA → ShV C HA one 2 "first" [7, -1] (newB 2 "first") 0 0 → Same U0 HB ∧ ShV C HB one 2 "first" [7, -1] (newB 2 "first") 0 0 := fun {HA HB e} w b s h => by
    obtain ⟨_, _, _, _, e1, _, _, e2, _⟩ := w.ex
    exact ⟨fun c u eu => b _ _ (s _ _ eu) (ne_of_none eu nxU) (ne_of_none eu nlU), h.but2 b e1 e2⟩
  refine ⟨(by show 1 ≤ sizeLine; decide), fun g1 ng1 => ?_⟩
  have sg1 := same_upd (o := .lst [V.int 7]) ng1
  have eg1 : (upd A8 g1 (.lst [V.int 7])) g1 = some (.lst [V.int 7]) := upd_same
  generalize upd A8 g1 (.lst [V.int 7]) = B1 at sg1 eg1 ⊢
  refine ⟨(by show 1 ≤ sizeLine; decide), fun g2 B2 sg2 ng2 pg2 => ?_⟩
  refine ⟨1, rfl, (by show 7 ≤ sizeLine; decide), fun GL nGL => ?_⟩
  have sg3 := same_upd (o := .lst [V.non, V.bl true, V.int 9, V.str "7", V.ref g1, V.ref g2, V.int (-1)]) nGL
  have eGL : (upd B2 GL (.lst [V.non, V.bl true, V.int 9, V.str "7", V.ref g1, V.ref g2, V.int (-1)])) GL = some (.lst [V.non, V.bl true, V.int 9, V.str "7", V.ref g1, V.ref g2, V.int (-1)]) := upd_same
  generalize upd B2 GL (.lst [V.non, V.bl true, V.int 9, V.str "7", V.ref g1, V.ref g2, V.int (-1)]) = B3 at sg3 eGL ⊢
  have eg13 := sg3 _ _ (sg2 _ _ eg1)
  have pg23 := pg2.same sg3
  have s83 := sg1.trans (sg2.trans sg3)
  have wk3 := wk.same s83
  have hone3 := hone8.same s83
  have sU3 := sU8.trans s83
  clear sg1 sg2 sg3 s83 wk hone8 sU8 eg1 pg2
  obtain ⟨zA, zB, zC, zD, ezx, _, _, ezl, _⟩ := wk3.ex
  have lx : ∀ {HH : Hp} {c : Addr} {o : HO}, B3 c = some o → True := fun _ => trivial
  refine ⟨GL, rfl, ⟨_, SqL.of eGL⟩, ?_⟩
  refine for_list (K := K) (a := GL) (xs := [V.non, V.bl true, V.int 9, V.str "7", V.ref g1, V.ref g2, V.int (-1)]) (fun j σ HH => ∃ y : Option V, σ = [some (.ref a), some (.int (0 + (i : Int))), some (.ref p), some (.ref Wl), some vb, some vo, some (.ref DD), some (.ref one), some (.ref x2), some (.ref x), y] ∧ Same B3 HH) ?_ ?_ ?_ ?_
  · exact ⟨_, rfl, Same.refl _⟩
  · rintro j σ HH _ ⟨_, _, s⟩
    exact SqL.of (s _ _ eGL)
  · rintro j v σ HH hv ⟨y, rfl, sH⟩
    have tg : ∃ g, NoR v g ∧ Tg x HH v g := by
      have e1 := sH _ _ eg13
      have e2 := pg23.same sH
      have n1 : g1 ≠ x := fun z => by rw [z, ezx] at eg13; cases eg13
      match j, hv with
      | 0, hv =>
        cases hv
        exact ⟨_, .non, .non⟩
      | 1, hv =>
        cases hv
        exact ⟨_, .bl true, .bl true⟩
      | 2, hv =>
        cases hv
        exact ⟨_, .int 9 (by decide), .int 9⟩
      | 3, hv =>
        cases hv
        exact ⟨_, .str, .str _⟩
      | 4, hv =>
        cases hv
        exact ⟨_, .lst g1, .lst n1 e1 (.cons (.int 7) .nil)⟩
      | 5, hv =>
        cases hv
        exact ⟨_, .tup g2, .tup (.inl e2) (.cons (.int 7) .nil)⟩
      | 6, hv =>
        cases hv
        exact ⟨_, .int (-1) (by decide), .int (-1)⟩
      | j + 7, hv => cases hv
    obtain ⟨g, ng, tg⟩ := tg
    refine ⟨_, rfl, _, rfl, x, x, r, l, w0, v, g, 0, ([7, 8], [0, 1]), rfl, wk3.same sH, w0_ok, rl, rfl, rfl, tg, ng.shw, ng.ask, fun H' s' => ⟨_, rfl, iteF ?_⟩⟩
    exact ⟨_, rfl, sH.trans s'⟩
  clear lx
  rintro σ HH ⟨y, rfl, sH⟩
  have wk4 := wk3.same sH
  have hone4 := hone3.same sH
  have sU4 := sU3.trans sH
  clear wk3 hone3 sU3 sH eGL eg13 pg23 ezx ezl
  obtain ⟨dx, k0, a0, y0, hx0, _⟩ := wk4.ex
  refine ⟨_, rfl, x, dx, _, rfl, hx0, rfl, rfl, ?_⟩
  show spStepW C W CR CS [V.ref x, optI (some 7), optI (some 1)] HH _ _
  refine step_pick wk4 w0_ok rl (q := 0) (row := ([7, 8], [0, 1])) rfl rfl (some 7) (some 1) (by show (7 : Int) ∈ [7, 8]; decide) (by show (1 : Int) ∈ [0, 1]; decide) fun HB b1 wk5 => ?_
  rw [w0_ans]
  replace wk5 : WkJ C W HB x r l w1 := wk5
  obtain ⟨sU5, hone5⟩ := adv wk4 b1 sU4 hone4
  refine ⟨_, _, rfl, rfl, _, rfl, iteF ?_⟩
  clear b1 wk4 sU4 hone4 hx0
  obtain ⟨dx1, k1, a1, y1', hx1, _⟩ := wk5.ex
  refine ⟨_, rfl, x, dx1, _, rfl, hx1, rfl, ?_⟩
  show spStepW C W CR CS [V.ref x, optI none, optI none] HB _ _
  refine step_pick wk5 w1_ok rl (q := 1) (row := ([], [])) rfl rfl none none rfl rfl fun HC b2 wk6 => ?_
  replace wk6 : WkJ C W HC x r l w2 := wk6
  obtain ⟨sU6, hone6⟩ := adv wk5 b2 sU5 hone5
  refine ⟨rfl, _, rfl, iteF ?_⟩
  clear b2 wk5 sU5 hone5 hx1
  obtain ⟨dx2, k2, a2, y2', hx2, _⟩ := wk6.ex
  refine ⟨_, rfl, x, dx2, _, rfl, hx2, rfl, x, dx2, _, .non, rfl, hx2, rfl, rfl, _, rfl, iteF ?_⟩
  refine ⟨_, rfl, x, r, l, w2, rfl, wk6, w2_ok, rl, rfl, fun HD s6 => ⟨_, rfl, iteF ?_⟩⟩
  have hx3 := s6 _ _ hx2
  refine ⟨_, rfl, x, dx2, _, rfl, hx3, rfl, ?_⟩
  dsimp only [tNil]
  show spUndoW W CB [V.ref x] HD _ _
  refine undo_ok (wk6.same s6) rl (sp := (1, none)) rfl fun HE b3 wk7 => ?_
  replace wk7 : WkJ C W HE x r l w3 := wk7
  obtain ⟨sU7, hone7⟩ := adv (wk6.same s6) b3 (sU6.trans s6) (hone6.same s6)
  clear b3 wk6 sU6 hone6 hx2 hx3 s6
  obtain ⟨dx4, k4, a4, y4', hx4, _⟩ := wk7.ex
  refine ⟨_, rfl, x, dx4, _, rfl, hx4, rfl, x, dx4, _, .int 1, rfl, hx4, rfl, rfl, _, rfl, iteF ?_⟩
  refine ⟨_, rfl, x, dx4, _, rfl, hx4, rfl, ?_⟩
  dsimp only [tCons, tC, tNil]
  show spStepW C W CR CS [V.ref x, optI none, optI none] HE _ _
  refine step_pick wk7 w3_ok rl (q := 1) (row := ([], [])) rfl rfl none none rfl rfl fun HF b4 wk8 => ?_
  replace wk8 : WkJ C W HF x r l w4 := wk8
  obtain ⟨sU8, hone8⟩ := adv wk7 b4 sU7 hone7
  refine ⟨rfl, _, rfl, iteF ?_⟩
  clear b4 wk7 sU7 hone7 hx4
  obtain ⟨dx5, k5, a5, y5', hx5, hk5, ha5, hl5x, yl5, yy5⟩ := wk8.ex
  replace hk5 : ShV C HF k5 2 "first" (lyF w4 w4.run.length).1 (lyF w4 w4.run.length).2 (nrF w4 w4.run.length) (frF w4 w4.run.length) := hk5
  rw [w4_nr, w4_fr] at hk5
  refine ⟨_, rfl, x, dx5, _, rfl, hx5, rfl, x, dx5, k5, a5, _, _, _, _, _, _, _, _, _, _, _, rfl, hx5, hk5, ha5, fun v1 HG s8 pv1 => ?_⟩
  refine ⟨(by show 2 ≤ sizeLine; decide), fun v2 HI s9 nv2 pv2 => ?_⟩
  have t2 := two_ok 1 0
  refine ⟨.tuple [.int 1, .int 0], .tuple [.int 1, .int 0], .tup (pv1.same s9).sq (.cons (.int _) (.cons (.int _) .nil)), .tup pv2.sq (.cons (.int _) (.cons (.int _) .nil)), t2.1, t2.1, _, rfl, iteB (fun z => absurd z (by rw [t2.2]; decide)) (fun _ => ?_)⟩
  have s89 := s8.trans s9
  have wk9 := wk8.same s89
  have hone9 := hone8.same s89
  have sU9 := sU8.trans s89
  have hx9 := s89 _ _ hx5
  have hl9 := s89 _ _ hl5x
  have yl9 : y5'.length = 2 := yl5
  clear wk8 hone8 sU8 hx5 hk5 ha5 hl5x yl5 yy5 s8 s9 s89 pv1 pv2
  refine ⟨_, rfl, x, dx5, _, rfl, hx9, x, dx5, l, _, _, _, _, y5', rfl, hx9, hl9, _, rfl, ⟨by omega, by omega⟩, rfl, _, rfl, ?_⟩
  rw [show decide (V.int (y5'.length : Int) = V.int 2) = true from decide_eq_true (by rw [yl9]; rfl)]
  refine iteF ?_
  refine ⟨_, rfl, x, dx5, _, rfl, hx9, x, dx5, l, _, _, _, _, y5', rfl, hx9, hl9, _, rfl, ⟨by omega, by omega⟩, ?_⟩
  rw [show ((y5'.length : Int) != 0) = true from by rw [yl9]; rfl]
  refine iteF ?_
  refine ⟨_, rfl, x, dx5, _, rfl, hx9, rfl, ?_⟩
  dsimp only [tNil]
  show spUndoW W CB [V.ref x] HI _ _
  refine undo_ok wk9 rl (sp := (1, none)) rfl fun HJ b5 wkA => ?_
  replace wkA : WkJ C W HJ x r l w5 := wkA
  obtain ⟨sUA, honeA⟩ := adv wk9 b5 sU9 hone9
  clear b5 wk9 sU9 hone9 hx9 hl9 yl9
  obtain ⟨dx6, k6, a6, y6', hx6, _⟩ := wkA.ex
  refine ⟨_, rfl, x, dx6, _, rfl, hx6, rfl, ?_⟩
  dsimp only [tNil]
  show spUndoW W CB [V.ref x] HJ _ _
  refine undo_ok wkA rl (sp := (0, some 7)) rfl fun HK b6 wkB => ?_
  replace wkB : WkJ C W HK x r l w6 := wkB
  obtain ⟨sUB, honeB⟩ := adv wkA b6 sUA honeA
  clear b6 wkA sUA honeA hx6
  obtain ⟨dx7, k7, a7, y7', hx7, _⟩ := wkB.ex
  refine ⟨_, rfl, x, dx7, _, rfl, hx7, rfl, x, dx7, _, .int 0, rfl, hx7, rfl, rfl, _, rfl, iteF ?_⟩
  refine ⟨_, rfl, x, dx7, _, rfl, hx7, rfl, ?_⟩
  dsimp only [tCons, tC, tNil]
  show spStepW C W CR CS [V.ref x, optI (some 8), optI (some 0)] HK _ _
  refine step_pick wkB w6_ok rl (q := 0) (row := ([7, 8], [0, 1])) rfl rfl (some 8) (some 0) (by show (8 : Int) ∈ [7, 8]; decide) (by show (0 : Int) ∈ [0, 1]; decide) fun HL b7 wkC => ?_
  rw [w6_ans]
  replace wkC : WkJ C W HL x r l w7 := wkC
  obtain ⟨sUC, honeC⟩ := adv wkB b7 sUB honeB
  refine ⟨_, _, rfl, rfl, _, rfl, iteF ?_⟩
  clear b7 wkB sUB honeB hx7
  obtain ⟨dxC, kC, aC, yC, hxC, _, _, hlC, ylC, yyC⟩ := wkC.ex
  have henC : EntsAt HL yC w7.run := ⟨ylC, fun i sp e => by
    obtain ⟨t, k, e1, p, _⟩ := yyC i sp e
    exact ⟨_, e1, t, k, rfl, p⟩⟩
  refine ⟨_, rfl, x, dxC, _, rfl, hxC, rfl, x, dxC, l, _, _, _, _, yC, w7.run, rfl, hxC, hlC, henC, (by decide), fun RC HM sM nRC hRC => ?_⟩
  refine ⟨(by show 2 ≤ sizeLine; decide), fun tM HN sN ntM ptM => ⟨(by show 1 ≤ sizeLine; decide), fun LM nLM => ?_⟩⟩
  have sO := same_upd (o := .lst [V.ref tM]) nLM
  have hRC2 := (hRC.same sN).same sO
  refine ⟨runD w7.run, runD w7.run, hRC2.dp, .lst (SqL.of upd_same) (.cons (.tup (ptM.same sO).sq (.cons (.int 0) (.cons (.int 8) .nil))) .nil), run_shaped _, run_shaped _, _, rfl, iteB (fun z => ?_) (fun _ => ?_)⟩
  · rw [run_eqv, decide_eq_true rfl] at z
    cases z
  have sMO := sM.trans (sN.trans sO)
  have honeE := honeC.same sMO
  have sUE := sUC.trans sMO
  generalize upd HN LM (.lst [V.ref tM]) = HP at honeE sUE ⊢
  obtain ⟨dO, oa, ob, hxO, toa, tob⟩ := honeE.ex
  refine ⟨_, rfl, one, dO, _, rfl, hxO, rfl, one, dO, _, .ref oa, .ref ob, rfl, hxO, rfl, rfl, fun l1 HQ sQ nl1 pl1 => ?_⟩
  refine ⟨1, rfl, (by show 2 ≤ sizeLine; decide), fun l2' HR sR nl2 pl2 => ⟨(by show 0 ≤ sizeLine; decide), fun l3 HS sS nl3 pl3 => ⟨(by show 2 ≤ sizeLine; decide), fun l4 HT sT nl4 pl4 => ?_⟩⟩⟩
  have lo := lay_ok honeE.ok
  have sRT := sR.trans (sS.trans sT)
  have pl2' : PTup HT l2' (([7, -1] : List Int).map V.int) := pl2.same (sS.trans sT)
  have pl3' : PTup HT l3 ((newB 2 "first").map V.int) := by
    rw [show newB 2 "first" = [] by decide +kernel]
    exact pl3.same sT
  refine ⟨_, _, LayAt.dp ⟨oa, ob, pl1.same sRT, toa.same (sQ.trans sRT), tob.same (sQ.trans sRT)⟩, LayAt.dp (xs := [7, -1]) (bs := newB 2 "first") ⟨l2', l3, pl4, pl2', pl3'⟩, lo.1, lo.1, _, rfl, iteB (fun z => absurd z (by rw [lo.2]; decide)) (fun _ => ?_)⟩
  exact ⟨_, _, _, _, _, _, _, _, _, _, rfl, back (kU.trans (Kept.same (sUE.trans (sQ.trans sRT))))⟩
end
end Su
/-! ### L5: classes and methods as they are called here -/
namespace Su
open PySem PySem.Spec PyProof.Rows L2
theorem fnG_ok {P : Program} {w : World} {K : PySem.W.Frag} {mg : Str → Option Value} {base : Heap} {CX : CXT} {k : Nat} {f : Addr} {fd : FuncData} {ps : List Str} {sp : Sp} (F : FnOk P w K mg base CX k f fd ps sp) : FnG P w K mg base CX k f fd ps sp :=
  ⟨F.len, fun A outer s H args us vs Q E _ => F.run A outer s H args us vs Q E⟩
theorem VTake {vs : List V} {us : List Value} (h : Vals vs us) : ∀ n, Vals (vs.take n) (us.take n) := by
  induction h with
  | nil => intro n; rw [List.take_nil, List.take_nil]; exact .nil
  | cons a _ ih =>
    intro n
    cases n with
    | zero => exact .nil
    | succ n => exact .cons a (ih n)
section
variable {P : Program} {w : World} {K : PySem.W.Frag} {mg : Str → Option Value} {base : Heap}
theorem makV_of {C f : Addr} {fd : FuncData} {k : Nat} {sp : Sp} (M : L2.Mk K C f) (hm : mg "Shelf" = some (.ref C)) (F : FunD K "__init__" "Shelf.__init__" (defArgs sS_init) (defBody sS_init) (defScope sS_init) [.int 4, .str "last", .non, .non] [] f fd) (o : FnOk P w K mg base CX0 k f fd ["self", "size", "way", "slots", "bits"] sp) : MakV P w K mg base k C sp := by
  obtain ⟨ds, h1, h2⟩ := F.binds1 (ps := ["self", "size", "way", "slots", "bits"]) 5 4 (by simp) rfl fun T kV doc pm an cdv ct us its hu hi => match us, its, hu, hi with | [_, _, _, _, _], [_, _, _, _], _, _ => ⟨_, rfl, rfl⟩
  cases h1
  exact ⟨f, fd, M, o, hm, h2⟩
theorem mak0_of {C f : Addr} {fd : FuncData} {k : Nat} {sp : Sp} (M : L2.Mk K C f) (hm : mg "Shelf" = some (.ref C)) (F : FunD K "__init__" "Shelf.__init__" (defArgs sS_init) (defBody sS_init) (defScope sS_init) [.int 4, .str "last", .non, .non] [] f fd) (o : FnOk P w K mg base CX0 k f fd ["self", "size", "way", "slots", "bits"] sp) : MakD P w K mg base k C [.int 4, .str "last", .non, .non] sp := by
  obtain ⟨ds, h1, h2⟩ := F.binds1 (ps := ["self", "size", "way", "slots", "bits"]) 1 0 (by simp) rfl fun T kV doc pm an cdv ct us its hu hi => match us, its, hu, hi with | [_], [_, _, _, _], _, _ => ⟨_, rfl, rfl⟩
  exact ⟨f, fd, ds, M, o, hm, h1, h2⟩
theorem mak1_of {C f : Addr} {fd : FuncData} {k : Nat} {sp : Sp} (M : L2.Mk K C f) (hm : mg "Shelf" = some (.ref C)) (F : FunD K "__init__" "Shelf.__init__" (defArgs sS_init) (defBody sS_init) (defScope sS_init) [.int 4, .str "last", .non, .non] [] f fd) (o : FnOk P w K mg base CX0 k f fd ["self", "size", "way", "slots", "bits"] sp) : MakD P w K mg base k C [.str "last", .non, .non] sp := by
  obtain ⟨ds, h1, h2⟩ := F.binds1 (ps := ["self", "size", "way", "slots", "bits"]) 2 1 (by simp) rfl fun T kV doc pm an cdv ct us its hu hi => match us, its, hu, hi with | [_, _], [_, _, _, _], _, _ => ⟨_, rfl, rfl⟩
  exact ⟨f, fd, ds, M, o, hm, h1, h2⟩
theorem step_of {W f : Addr} {fd : FuncData} {k : Nat} {sp : Sp} (c : Cls K W) (M : Meth K W "step" f) (F : FunD K "step" "Walk.step" (defArgs sW_step) (defBody sW_step) (defScope sW_step) [.non, .non] [] f fd) (o : FnOk P w K mg base (L2.CX P w) k f fd ["self", "room", "to"] sp) : MetX P w K mg base k W "step" ["self", "room", "to"] sp ∧ MetXD P w K mg base k W "step" ["self", "room", "to"] [.non, .non] sp ∧ MetXK P w K mg base k W "step" ["to", "room"] gvS sp := by
  obtain ⟨ds, h1, h2⟩ := F.binds1 (ps := ["self", "room", "to"]) 3 2 (by simp) rfl fun T kV doc pm an cdv ct us its hu hi => match us, its, hu, hi with | [_, _, _], [_, _], _, _ => ⟨_, rfl, rfl⟩
  cases h1
  obtain ⟨ds2, h3, h4⟩ := F.binds1 (ps := ["self", "room", "to"]) 1 0 (by simp) rfl fun T kV doc pm an cdv ct us its hu hi => match us, its, hu, hi with | [_], [_, _], _, _ => ⟨_, rfl, rfl⟩
  obtain ⟨its, k1⟩ := F.kbindsD (ps := ["self", "room", "to"]) 1 ["to", "room"] (fun us its ws => us ++ ws.drop 1 ++ ws.take 1) (by simp) (fun a b c => (a.append (c.drop 1)).append (VTake c 1)) fun T kV doc pm an cdv ct us its ws hu hi hw => match us, its, ws, hu, hi, hw with | [_], [_, _], [_, _], _, _, _ => ⟨_, rfl, rfl⟩
  exact ⟨⟨f, fd, c, M, o, h2⟩, ⟨f, fd, ds2, c, M, o, h3, h4⟩, ⟨f, fd, _, _, c, M, o, k1⟩⟩
theorem walkK_of {W f : Addr} {fd : FuncData} {k : Nat} {sp : Sp} (M : L2.Mk K W f) (hm : mg "Walk" = some (.ref W)) (F : Fun K "__init__" "Walk.__init__" sW_init f fd) (o : FnOk P w K mg base CX0 k f fd ["self", "web", "shelf"] sp) : MakK P w K mg base k "Walk" W 1 ["shelf"] gvK sp := by
  obtain ⟨oc, od, kV, doc, pm, an, cdv, ct, osl, rfl, lk, hcd⟩ := F.ex
  refine ⟨f, _, _, fun us ws => us ++ ws, M, o, hm, ⟨fun s us ws X l1 l2 => ?_, fun r1 r2 => r1.append r2⟩⟩
  match us, ws, l1, l2 with
  | [_, _], [_], _, _ => exact BindsTo.of_eq rfl
end
end Su
namespace Su
open PySem PySem.Spec PyProof.Rows L2
theorem at_mk {K : PySem.W.Frag} {h : Heap} {mg : Str → Option Value} {x : Str} {st : Stmt} {f : Addr} {fd : FuncData} {ps : List Str} (X : K.In h) (G : h.Ns mainGlobals mg) (a : PySem.W.nsIn K mainGlobals x = some (some (.ref f))) (F : Fun K x x st f fd) (b : Binds K fd ps []) : At K mg x st ps :=
  ⟨f, fd, F, PySem.W.mg_of X G a, b⟩
theorem all_mk {l : PySem.W.OpenLaw} {w : World} {K : PySem.W.Frag} {h : Heap} {mg : Str → Option Value} {fa f1 f2 f3 f4 f5 f6 f7 f8 f9 f10 f11 f12 f13 f14 f15 f16 f17 f18 f19 f20 f21 f22 f23 f24 f25 f26 f27 f28 f29 f30 f31 f32 f33 f34 : Addr} {g1 g2 g3 g4 g5 : Tok} {C1 : Addr} {cdC1 : ClassData} {fI1 cda1 cc1 : Addr} {oc_1 doc_1 pm_1 ct_1 ccl1 cl_1 : Value} {od_1 an_1 cdd1 cld1 : Option Addr} {q_1 t_1 file1 : Str} {osl1 ccs1 csl1 : Array (Option Value)} {vs1 : Array Value} {tf1 : Tok} {p1_1 p2_1 r1_1 r2_1 r3_1 r4_1 r5_1 r6_1 q1_1 q2_1 q3_1 q4_1 : Pos} {C2 : Addr} {cdC2 : ClassData} {fI2 cda2 cc2 : Addr} {oc_2 doc_2 pm_2 ct_2 ccl2 cl_2 : Value} {od_2 an_2 cdd2 cld2 : Option Addr} {q_2 t_2 file2 : Str} {osl2 ccs2 csl2 : Array (Option Value)} {vs2 : Array Value} {tf2 : Tok} {p1_2 p2_2 r1_2 r2_2 r3_2 r4_2 r5_2 r6_2 q1_2 q2_2 q3_2 q4_2 : Pos} {C3 : Addr} {cdC3 : ClassData} {C4 : Addr} {C5 : Addr} {cdC5 : ClassData} {fI5 cda5 cc5 : Addr} {oc_5 doc_5 pm_5 ct_5 ccl5 cl_5 : Value} {od_5 an_5 cdd5 cld5 : Option Addr} {q_5 t_5 file5 : Str} {osl5 ccs5 csl5 : Array (Option Value)} {vs5 : Array Value} {tf5 : Tok} {p1_5 p2_5 r1_5 r2_5 r3_5 r4_5 r5_5 r6_5 q1_5 q2_5 q3_5 q4_5 : Pos} {C6 : Addr} {cdC6 : ClassData} {fI6 cda6 cc6 : Addr} {oc_6 doc_6 pm_6 ct_6 ccl6 cl_6 : Value} {od_6 an_6 cdd6 cld6 : Option Addr} {q_6 t_6 file6 : Str} {osl6 ccs6 csl6 : Array (Option Value)} {vs6 : Array Value} {tf6 : Tok} {p1_6 p2_6 r1_6 r2_6 r3_6 r4_6 r5_6 r6_6 q1_6 q2_6 q3_6 q4_6 : Pos} {aW aZ : Addr} {u1 u2 u3 u4 u5 u6 u7 : Tok} {dW dZ : Option Addr} {nW nZ : Nat} {slW slZ : Array (Option Value)} {CS : Addr} {CW : Addr} {fCSinit : Addr} {ocCSinit kVCSinit dcCSinit pmCSinit cdCSinit ctCSinit : Value} {odCSinit anCSinit : Option Addr} {slCSinit : Array (Option Value)} {aDCSinit : Addr} {dDCSinit : Option Addr} {nDCSinit : Nat} {sDCSinit : Array (Option Value)} {tkCSinit_0 tkCSinit_1 : Tok} {fCSlay : Addr} {ocCSlay kVCSlay dcCSlay pmCSlay cdCSlay ctCSlay : Value} {odCSlay anCSlay : Option Addr} {slCSlay : Array (Option Value)} {fCScounts : Addr} {ocCScounts kVCScounts dcCScounts pmCScounts cdCScounts ctCScounts : Value} {odCScounts anCScounts : Option Addr} {slCScounts : Array (Option Value)} {fCSask : Addr} {ocCSask kVCSask dcCSask pmCSask cdCSask ctCSask : Value} {odCSask anCSask : Option Addr} {slCSask : Array (Option Value)} {fCStwin : Addr} {ocCStwin kVCStwin dcCStwin pmCStwin cdCStwin ctCStwin : Value} {odCStwin anCStwin : Option Addr} {slCStwin : Array (Option Value)} {fCSeq : Addr} {ocCSeq kVCSeq dcCSeq pmCSeq cdCSeq ctCSeq : Value} {odCSeq anCSeq : Option Addr} {slCSeq : Array (Option Value)} {fCWstep : Addr} {ocCWstep kVCWstep dcCWstep pmCWstep cdCWstep ctCWstep : Value} {odCWstep anCWstep : Option Addr} {slCWstep : Array (Option Value)} {aDCWstep : Addr} {dDCWstep : Option Addr} {nDCWstep : Nat} {sDCWstep : Array (Option Value)} {fCWinit : Addr} {ocCWinit kVCWinit dcCWinit pmCWinit cdCWinit ctCWinit : Value} {odCWinit anCWinit : Option Addr} {slCWinit : Array (Option Value)} {fCWundo : Addr} {ocCWundo kVCWundo dcCWundo pmCWundo cdCWundo ctCWundo : Value} {odCWundo anCWundo : Option Addr} {slCWundo : Array (Option Value)} {fCWat : Addr} {ocCWat kVCWat dcCWat pmCWat cdCWat ctCWat : Value} {odCWat anCWat : Option Addr} {slCWat : Array (Option Value)} {fCWrun : Addr} {ocCWrun kVCWrun dcCWrun pmCWrun cdCWrun ctCWrun : Value} {odCWrun anCWrun : Option Addr} {slCWrun : Array (Option Value)} {fCWcounts : Addr} {ocCWcounts kVCWcounts dcCWcounts pmCWcounts cdCWcounts ctCWcounts : Value} {odCWcounts anCWcounts : Option Addr} {slCWcounts : Array (Option Value)} {fCWshelf : Addr} {ocCWshelf kVCWshelf dcCWshelf pmCWshelf cdCWshelf ctCWshelf : Value} {odCWshelf anCWshelf : Option Addr} {slCWshelf : Array (Option Value)} {fCWlen : Addr} {ocCWlen kVCWlen dcCWlen pmCWlen cdCWlen ctCWlen : Value} {odCWlen anCWlen : Option Addr} {slCWlen : Array (Option Value)} (X : K.In h) (G : h.Ns mainGlobals mg) (hfa : mg "law" = some (.ref fa))
    {od1 an1 od2 an2 od3 an3 od4 an4 od5 an5 od6 an6 od7 an7 od8 an8 od9 an9 od10 an10 od11 an11 od12 an12 od13 an13 od14 an14 od15 an15 od16 an16 od17 an17 od18 an18 od19 an19 od20 an20 od21 an21 od22 an22 od23 an23 od24 an24 od25 an25 od26 an26 od27 an27 od28 an28 od29 an29 od30 an30 od31 an31 od32 an32 od33 an33 od34 an34 : Option Addr} {sl1 sl2 sl3 sl4 sl5 sl6 sl7 sl8 sl9 sl10 sl11 sl12 sl13 sl14 sl15 sl16 sl17 sl18 sl19 sl20 sl21 sl22 sl23 sl24 sl25 sl26 sl27 sl28 sl29 sl30 sl31 sl32 sl33 sl34 : Array (Option Value)} {oc1 kV1 dc1 pm1 cd1 ct1 oc2 kV2 dc2 pm2 cd2 ct2 oc3 kV3 dc3 pm3 cd3 ct3 oc4 kV4 dc4 pm4 cd4 ct4 oc5 kV5 dc5 pm5 cd5 ct5 oc6 kV6 dc6 pm6 cd6 ct6 oc7 kV7 dc7 pm7 cd7 ct7 oc8 kV8 dc8 pm8 cd8 ct8 oc9 kV9 dc9 pm9 cd9 ct9 oc10 kV10 dc10 pm10 cd10 ct10 oc11 kV11 dc11 pm11 cd11 ct11 oc12 kV12 dc12 pm12 cd12 ct12 oc13 kV13 dc13 pm13 cd13 ct13 oc14 kV14 dc14 pm14 cd14 ct14 oc15 kV15 dc15 pm15 cd15 ct15 oc16 kV16 dc16 pm16 cd16 ct16 oc17 kV17 dc17 pm17 cd17 ct17 oc18 kV18 dc18 pm18 cd18 ct18 oc19 kV19 dc19 pm19 cd19 ct19 oc20 kV20 dc20 pm20 cd20 ct20 oc21 kV21 dc21 pm21 cd21 ct21 oc22 kV22 dc22 pm22 cd22 ct22 oc23 kV23 dc23 pm23 cd23 ct23 oc24 kV24 dc24 pm24 cd24 ct24 oc25 kV25 dc25 pm25 cd25 ct25 oc26 kV26 dc26 pm26 cd26 ct26 oc27 kV27 dc27 pm27 cd27 ct27 oc28 kV28 dc28 pm28 cd28 ct28 oc29 kV29 dc29 pm29 cd29 ct29 oc30 kV30 dc30 pm30 cd30 ct30 oc31 kV31 dc31 pm31 cd31 ct31 oc32 kV32 dc32 pm32 cd32 ct32 oc33 kV33 dc33 pm33 cd33 ct33 oc34 kV34 dc34 pm34 cd34 ct34 : Value}
    (a1 : PySem.W.nsIn K mainGlobals "is_whole" = some (some (.ref f1))) (l1 : K.lookup f1 = some ⟨oc1, od1, .func (PySem.W.fnOf "is_whole" "is_whole" (defArgs s_is_whole) (defBody s_is_whole) (defScope s_is_whole) .none kV1 dc1 pm1 an1 cd1 ct1), sl1⟩) (c1 : PySem.W.codeIn K cd1 "is_whole" = true) (k1 : PySem.W.keepIn K (.ref f1) = true)
    (a2 : PySem.W.nsIn K mainGlobals "is_room" = some (some (.ref f2))) (l2 : K.lookup f2 = some ⟨oc2, od2, .func (PySem.W.fnOf "is_room" "is_room" (defArgs s_is_room) (defBody s_is_room) (defScope s_is_room) .none kV2 dc2 pm2 an2 cd2 ct2), sl2⟩) (c2 : PySem.W.codeIn K cd2 "is_room" = true) (k2 : PySem.W.keepIn K (.ref f2) = true)
    (a3 : PySem.W.nsIn K mainGlobals "are_rising" = some (some (.ref f3))) (l3 : K.lookup f3 = some ⟨oc3, od3, .func (PySem.W.fnOf "are_rising" "are_rising" (defArgs s_are_rising) (defBody s_are_rising) (defScope s_are_rising) .none kV3 dc3 pm3 an3 cd3 ct3), sl3⟩) (c3 : PySem.W.codeIn K cd3 "are_rising" = true) (k3 : PySem.W.keepIn K (.ref f3) = true)
    (a4 : PySem.W.nsIn K mainGlobals "are_rooms" = some (some (.ref f4))) (l4 : K.lookup f4 = some ⟨oc4, od4, .func (PySem.W.fnOf "are_rooms" "are_rooms" (defArgs s_are_rooms) (defBody s_are_rooms) (defScope s_are_rooms) .none kV4 dc4 pm4 an4 cd4 ct4), sl4⟩) (c4 : PySem.W.codeIn K cd4 "are_rooms" = true) (k4 : PySem.W.keepIn K (.ref f4) = true)
    (a5 : PySem.W.nsIn K mainGlobals "is_way" = some (some (.ref f5))) (l5 : K.lookup f5 = some ⟨oc5, od5, .func (PySem.W.fnOf "is_way" "is_way" (defArgs s_is_way) (defBody s_is_way) (defScope s_is_way) .none kV5 dc5 pm5 an5 cd5 ct5), sl5⟩) (c5 : PySem.W.codeIn K cd5 "is_way" = true) (k5 : PySem.W.keepIn K (.ref f5) = true)
    (a6 : PySem.W.nsIn K mainGlobals "is_size" = some (some (.ref f6))) (l6 : K.lookup f6 = some ⟨oc6, od6, .func (PySem.W.fnOf "is_size" "is_size" (defArgs s_is_size) (defBody s_is_size) (defScope s_is_size) .none kV6 dc6 pm6 an6 cd6 ct6), sl6⟩) (c6 : PySem.W.codeIn K cd6 "is_size" = true) (k6 : PySem.W.keepIn K (.ref f6) = true)
    (a7 : PySem.W.nsIn K mainGlobals "how_many_bits" = some (some (.ref f7))) (l7 : K.lookup f7 = some ⟨oc7, od7, .func (PySem.W.fnOf "how_many_bits" "how_many_bits" (defArgs s_how_many_bits) (defBody s_how_many_bits) (defScope s_how_many_bits) .none kV7 dc7 pm7 an7 cd7 ct7), sl7⟩) (c7 : PySem.W.codeIn K cd7 "how_many_bits" = true) (k7 : PySem.W.keepIn K (.ref f7) = true)
    (a8 : PySem.W.nsIn K mainGlobals "is_slot" = some (some (.ref f8))) (l8 : K.lookup f8 = some ⟨oc8, od8, .func (PySem.W.fnOf "is_slot" "is_slot" (defArgs s_is_slot) (defBody s_is_slot) (defScope s_is_slot) .none kV8 dc8 pm8 an8 cd8 ct8), sl8⟩) (c8 : PySem.W.codeIn K cd8 "is_slot" = true) (k8 : PySem.W.keepIn K (.ref f8) = true)
    (a9 : PySem.W.nsIn K mainGlobals "is_bit" = some (some (.ref f9))) (l9 : K.lookup f9 = some ⟨oc9, od9, .func (PySem.W.fnOf "is_bit" "is_bit" (defArgs s_is_bit) (defBody s_is_bit) (defScope s_is_bit) .none kV9 dc9 pm9 an9 cd9 ct9), sl9⟩) (c9 : PySem.W.codeIn K cd9 "is_bit" = true) (k9 : PySem.W.keepIn K (.ref f9) = true)
    (a10 : PySem.W.nsIn K mainGlobals "are_slots" = some (some (.ref f10))) (l10 : K.lookup f10 = some ⟨oc10, od10, .func (PySem.W.fnOf "are_slots" "are_slots" (defArgs s_are_slots) (defBody s_are_slots) (defScope s_are_slots) .none kV10 dc10 pm10 an10 cd10 ct10), sl10⟩) (c10 : PySem.W.codeIn K cd10 "are_slots" = true) (k10 : PySem.W.keepIn K (.ref f10) = true)
    (a11 : PySem.W.nsIn K mainGlobals "are_bits" = some (some (.ref f11))) (l11 : K.lookup f11 = some ⟨oc11, od11, .func (PySem.W.fnOf "are_bits" "are_bits" (defArgs s_are_bits) (defBody s_are_bits) (defScope s_are_bits) .none kV11 dc11 pm11 an11 cd11 ct11), sl11⟩) (c11 : PySem.W.codeIn K cd11 "are_bits" = true) (k11 : PySem.W.keepIn K (.ref f11) = true)
    (a12 : PySem.W.nsIn K mainGlobals "put_first" = some (some (.ref f12))) (l12 : K.lookup f12 = some ⟨oc12, od12, .func (PySem.W.fnOf "put_first" "put_first" (defArgs s_put_first) (defBody s_put_first) (defScope s_put_first) .none kV12 dc12 pm12 an12 cd12 ct12), sl12⟩) (c12 : PySem.W.codeIn K cd12 "put_first" = true) (k12 : PySem.W.keepIn K (.ref f12) = true)
    (a13 : PySem.W.nsIn K mainGlobals "slot_led_to" = some (some (.ref f13))) (l13 : K.lookup f13 = some ⟨oc13, od13, .func (PySem.W.fnOf "slot_led_to" "slot_led_to" (defArgs s_slot_led_to) (defBody s_slot_led_to) (defScope s_slot_led_to) .none kV13 dc13 pm13 an13 cd13 ct13), sl13⟩) (c13 : PySem.W.codeIn K cd13 "slot_led_to" = true) (k13 : PySem.W.keepIn K (.ref f13) = true)
    (a14 : PySem.W.nsIn K mainGlobals "led_away" = some (some (.ref f14))) (l14 : K.lookup f14 = some ⟨oc14, od14, .func (PySem.W.fnOf "led_away" "led_away" (defArgs s_led_away) (defBody s_led_away) (defScope s_led_away) .none kV14 dc14 pm14 an14 cd14 ct14), sl14⟩) (c14 : PySem.W.codeIn K cd14 "led_away" = true) (k14 : PySem.W.keepIn K (.ref f14) = true)
    (a15 : PySem.W.nsIn K mainGlobals "asked_by_tree" = some (some (.ref f15))) (l15 : K.lookup f15 = some ⟨oc15, od15, .func (PySem.W.fnOf "asked_by_tree" "asked_by_tree" (defArgs s_asked_by_tree) (defBody s_asked_by_tree) (defScope s_asked_by_tree) .none kV15 dc15 pm15 an15 cd15 ct15), sl15⟩) (c15 : PySem.W.codeIn K cd15 "asked_by_tree" = true) (k15 : PySem.W.keepIn K (.ref f15) = true)
    (a16 : PySem.W.nsIn K mainGlobals "asked" = some (some (.ref f16))) (l16 : K.lookup f16 = some ⟨oc16, od16, .func (PySem.W.fnOf "asked" "asked" (defArgs s_asked) (defBody s_asked) (defScope s_asked) .none kV16 dc16 pm16 an16 cd16 ct16), sl16⟩) (c16 : PySem.W.codeIn K cd16 "asked" = true) (k16 : PySem.W.keepIn K (.ref f16) = true)
    (a17 : PySem.W.nsIn K mainGlobals "are_tos" = some (some (.ref f17))) (l17 : K.lookup f17 = some ⟨oc17, od17, .func (PySem.W.fnOf "are_tos" "are_tos" (defArgs s_are_tos) (defBody s_are_tos) (defScope s_are_tos) .none kV17 dc17 pm17 an17 cd17 ct17), sl17⟩) (c17 : PySem.W.codeIn K cd17 "are_tos" = true) (k17 : PySem.W.keepIn K (.ref f17) = true)
    (a18 : PySem.W.nsIn K mainGlobals "is_row" = some (some (.ref f18))) (l18 : K.lookup f18 = some ⟨oc18, od18, .func (PySem.W.fnOf "is_row" "is_row" (defArgs s_is_row) (defBody s_is_row) (defScope s_is_row) .none kV18 dc18 pm18 an18 cd18 ct18), sl18⟩) (c18 : PySem.W.codeIn K cd18 "is_row" = true) (k18 : PySem.W.keepIn K (.ref f18) = true)
    (a19 : PySem.W.nsIn K mainGlobals "rooms_in" = some (some (.ref f19))) (l19 : K.lookup f19 = some ⟨oc19, od19, .func (PySem.W.fnOf "rooms_in" "rooms_in" (defArgs s_rooms_in) (defBody s_rooms_in) (defScope s_rooms_in) .none kV19 dc19 pm19 an19 cd19 ct19), sl19⟩) (c19 : PySem.W.codeIn K cd19 "rooms_in" = true) (k19 : PySem.W.keepIn K (.ref f19) = true)
    (a20 : PySem.W.nsIn K mainGlobals "look_at_web" = some (some (.ref f20))) (l20 : K.lookup f20 = some ⟨oc20, od20, .func (PySem.W.fnOf "look_at_web" "look_at_web" (defArgs s_look_at_web) (defBody s_look_at_web) (defScope s_look_at_web) .none kV20 dc20 pm20 an20 cd20 ct20), sl20⟩) (c20 : PySem.W.codeIn K cd20 "look_at_web" = true) (k20 : PySem.W.keepIn K (.ref f20) = true)
    (a21 : PySem.W.nsIn K mainGlobals "is_ask_of" = some (some (.ref f21))) (l21 : K.lookup f21 = some ⟨oc21, od21, .func (PySem.W.fnOf "is_ask_of" "is_ask_of" (defArgs s_is_ask_of) (defBody s_is_ask_of) (defScope s_is_ask_of) .none kV21 dc21 pm21 an21 cd21 ct21), sl21⟩) (c21 : PySem.W.codeIn K cd21 "is_ask_of" = true) (k21 : PySem.W.keepIn K (.ref f21) = true)
    (a22 : PySem.W.nsIn K mainGlobals "wrong_part" = some (some (.ref f22))) (l22 : K.lookup f22 = some ⟨oc22, od22, .func (PySem.W.fnOf "wrong_part" "wrong_part" (defArgs s_wrong_part) (defBody s_wrong_part) (defScope s_wrong_part) .none kV22 dc22 pm22 an22 cd22 ct22), sl22⟩) (c22 : PySem.W.codeIn K cd22 "wrong_part" = true) (k22 : PySem.W.keepIn K (.ref f22) = true)
    (a23 : PySem.W.nsIn K mainGlobals "look_at_room" = some (some (.ref f23))) (l23 : K.lookup f23 = some ⟨oc23, od23, .func (PySem.W.fnOf "look_at_room" "look_at_room" (defArgs s_look_at_room) (defBody s_look_at_room) (defScope s_look_at_room) .none kV23 dc23 pm23 an23 cd23 ct23), sl23⟩) (c23 : PySem.W.codeIn K cd23 "look_at_room" = true) (k23 : PySem.W.keepIn K (.ref f23) = true)
    (a24 : PySem.W.nsIn K mainGlobals "is_way_on" = some (some (.ref f24))) (l24 : K.lookup f24 = some ⟨oc24, od24, .func (PySem.W.fnOf "is_way_on" "is_way_on" (defArgs s_is_way_on) (defBody s_is_way_on) (defScope s_is_way_on) .none kV24 dc24 pm24 an24 cd24 ct24), sl24⟩) (c24 : PySem.W.codeIn K cd24 "is_way_on" = true) (k24 : PySem.W.keepIn K (.ref f24) = true)
    (a25 : PySem.W.nsIn K mainGlobals "_law_pool" = some (some (.ref f25))) (l25 : K.lookup f25 = some ⟨oc25, od25, .func (PySem.W.fnOf "_law_pool" "_law_pool" (defArgs s_law_pool) (defBody s_law_pool) (defScope s_law_pool) .none kV25 dc25 pm25 an25 cd25 ct25), sl25⟩) (c25 : PySem.W.codeIn K cd25 "_law_pool" = true) (k25 : PySem.W.keepIn K (.ref f25) = true)
    (a26 : PySem.W.nsIn K mainGlobals "_law_take" = some (some (.ref f26))) (l26 : K.lookup f26 = some ⟨oc26, od26, .func (PySem.W.fnOf "_law_take" "_law_take" (defArgs s_law_take) (defBody s_law_take) (defScope s_law_take) .none kV26 dc26 pm26 an26 cd26 ct26), sl26⟩) (c26 : PySem.W.codeIn K cd26 "_law_take" = true) (k26 : PySem.W.keepIn K (.ref f26) = true)
    (a27 : PySem.W.nsIn K mainGlobals "_law_picked" = some (some (.ref f27))) (l27 : K.lookup f27 = some ⟨oc27, od27, .func (PySem.W.fnOf "_law_picked" "_law_picked" (defArgs s_law_picked) (defBody s_law_picked) (defScope s_law_picked) .none kV27 dc27 pm27 an27 cd27 ct27), sl27⟩) (c27 : PySem.W.codeIn K cd27 "_law_picked" = true) (k27 : PySem.W.keepIn K (.ref f27) = true)
    (a28 : PySem.W.nsIn K mainGlobals "_law_tos" = some (some (.ref f28))) (l28 : K.lookup f28 = some ⟨oc28, od28, .func (PySem.W.fnOf "_law_tos" "_law_tos" (defArgs s_law_tos) (defBody s_law_tos) (defScope s_law_tos) .none kV28 dc28 pm28 an28 cd28 ct28), sl28⟩) (c28 : PySem.W.codeIn K cd28 "_law_tos" = true) (k28 : PySem.W.keepIn K (.ref f28) = true)
    (a29 : PySem.W.nsIn K mainGlobals "_law_web" = some (some (.ref f29))) (l29 : K.lookup f29 = some ⟨oc29, od29, .func (PySem.W.fnOf "_law_web" "_law_web" (defArgs s_law_web) (defBody s_law_web) (defScope s_law_web) .none kV29 dc29 pm29 an29 cd29 ct29), sl29⟩) (c29 : PySem.W.codeIn K cd29 "_law_web" = true) (k29 : PySem.W.keepIn K (.ref f29) = true)
    (a30 : PySem.W.nsIn K mainGlobals "_law_made" = some (some (.ref f30))) (l30 : K.lookup f30 = some ⟨oc30, od30, .func (PySem.W.fnOf "_law_made" "_law_made" (defArgs s_law_made) (defBody s_law_made) (defScope s_law_made) .none kV30 dc30 pm30 an30 cd30 ct30), sl30⟩) (c30 : PySem.W.codeIn K cd30 "_law_made" = true) (k30 : PySem.W.keepIn K (.ref f30) = true)
    (a31 : PySem.W.nsIn K mainGlobals "_law_over" = some (some (.ref f31))) (l31 : K.lookup f31 = some ⟨oc31, od31, .func (PySem.W.fnOf "_law_over" "_law_over" (defArgs s_law_over) (defBody s_law_over) (defScope s_law_over) .none kV31 dc31 pm31 an31 cd31 ct31), sl31⟩) (c31 : PySem.W.codeIn K cd31 "_law_over" = true) (k31 : PySem.W.keepIn K (.ref f31) = true)
    (a32 : PySem.W.nsIn K mainGlobals "_law_no_room" = some (some (.ref f32))) (l32 : K.lookup f32 = some ⟨oc32, od32, .func (PySem.W.fnOf "_law_no_room" "_law_no_room" (defArgs s_law_no_room) (defBody s_law_no_room) (defScope s_law_no_room) .none kV32 dc32 pm32 an32 cd32 ct32), sl32⟩) (c32 : PySem.W.codeIn K cd32 "_law_no_room" = true) (k32 : PySem.W.keepIn K (.ref f32) = true)
    (a33 : PySem.W.nsIn K mainGlobals "_law_long" = some (some (.ref f33))) (l33 : K.lookup f33 = some ⟨oc33, od33, .func (PySem.W.fnOf "_law_long" "_law_long" (defArgs s_law_long) (defBody s_law_long) (defScope s_law_long) .none kV33 dc33 pm33 an33 cd33 ct33), sl33⟩) (c33 : PySem.W.codeIn K cd33 "_law_long" = true) (k33 : PySem.W.keepIn K (.ref f33) = true)
    (a34 : PySem.W.nsIn K mainGlobals "law" = some (some (.ref f34))) (l34 : K.lookup f34 = some ⟨oc34, od34, .func (PySem.W.fnOf "law" "law" (defArgs s_law) (defBody s_law) (defScope s_law) .none kV34 dc34 pm34 an34 cd34 ct34), sl34⟩) (c34 : PySem.W.codeIn K cd34 "law" = true) (k34 : PySem.W.keepIn K (.ref f34) = true)
    (m1 : PySem.W.nsIn K mainGlobals "LAST_ROOM" = some (some (.int 99 g1)))
    (m2 : PySem.W.nsIn K mainGlobals "MOST_SLOTS" = some (some (.int 8 g2)))
    (m3 : PySem.W.nsIn K mainGlobals "EMPTY" = some (some (.int (-1) g3)))
    (m4 : PySem.W.nsIn K mainGlobals "MOST_ROWS" = some (some (.int 80 g4)))
    (m5 : PySem.W.nsIn K mainGlobals "MOST_ROOMS" = some (some (.int 12 g5)))
    (eg1 : PySem.W.nsIn K mainGlobals "NoRoom" = some (some (.ref C1)))
    (ek1 : PySem.W.keepIn K (.ref C1) = true)
    (ex1 : PySem.W.subIn K (.ref C1) (.type "BaseException") = some true)
    (et1 : PySem.W.typeIn K (.ref C1) = some (.type "type"))
    (ec1 : PySem.W.clsIn K C1 = some cdC1)
    (ga1 : PySem.W.findIn K (.ref C1) "__getattribute__" = some (some (.builtin "BaseException.__getattribute__")))
    (gg1 : PySem.W.findIn K (.ref C1) "__getattr__" = some none)
    (gc1 : PySem.W.findIn K (.ref C1) "__class__" = some (some (.builtin "object.__class__")))
    (mo1 : PySem.W.mroIn K C1 (.type "object") = some true)
    (ed1 : PySem.W.hasDictIn K C1 = true)
    (ei1 : PySem.W.excInitIn K C1 [.type "LookupError", .type "Exception", .type "BaseException", .type "object"] "LookupError.__new__" = true)
    (eo1 : PySem.W.excOver K C1 [.type "LookupError", .type "Exception", .type "BaseException", .type "object"] = true)
    (es1 : PySem.W.findIn K (.ref C1) "__setattr__" = some (some (.builtin "object.__setattr__")))
    (en1 : PySem.W.findIn K (.ref C1) "room" = some none)
    (ef1 : PySem.W.findIn K (.ref C1) "__init__" = some (some (.ref fI1)))
    (eh1 : PySem.W.isFn K (.ref fI1) = true)
    (ev1 : PySem.W.subIn K (.ref C1) (.type "LookupError") = some true)
    (eu1 : PySem.W.ks_superIn K C1 C1 "__init__" = some (some (.builtin "LookupError.__init__")))
    (em1 : PySem.W.mroIn K C1 (.ref C1) = some true)
    (el1 : K.lookup fI1 = some ⟨oc_1, od_1, .func (PySem.W.ksFn "__init__" q_1 (XC.inA "room" p1_1 p2_1) (XC.inB "room" t_1 r1_1 r2_1 r3_1 r4_1 r5_1 r6_1 q1_1 q2_1 q3_1 q4_1) (XC.inS "room") .none .none doc_1 pm_1 an_1 (.ref cda1) ct_1 cc1), osl1⟩)
    (eq1 : PySem.W.codeIn K (.ref cda1) q_1 = true)
    (ew1 : K.lookup cda1 = some ⟨ccl1, cdd1, .fields vs1, ccs1⟩)
    (ey1 : vs1[2]? = some (.str file1 tf1))
    (ez1 : ((l.prog.main.file : Str) == file1) = true)
    (ea1 : (r3_1.endLine == r5_1.line) = true)
    (eb1 : K.lookup cc1 = some ⟨cl_1, cld1, .cell (some (.ref C1)), csl1⟩)
    (eg2 : PySem.W.nsIn K mainGlobals "NoStep" = some (some (.ref C2)))
    (ek2 : PySem.W.keepIn K (.ref C2) = true)
    (ex2 : PySem.W.subIn K (.ref C2) (.type "BaseException") = some true)
    (et2 : PySem.W.typeIn K (.ref C2) = some (.type "type"))
    (ec2 : PySem.W.clsIn K C2 = some cdC2)
    (ga2 : PySem.W.findIn K (.ref C2) "__getattribute__" = some (some (.builtin "BaseException.__getattribute__")))
    (gg2 : PySem.W.findIn K (.ref C2) "__getattr__" = some none)
    (gc2 : PySem.W.findIn K (.ref C2) "__class__" = some (some (.builtin "object.__class__")))
    (mo2 : PySem.W.mroIn K C2 (.type "object") = some true)
    (ed2 : PySem.W.hasDictIn K C2 = true)
    (ei2 : PySem.W.excInitIn K C2 [.type "IndexError", .type "LookupError", .type "Exception", .type "BaseException", .type "object"] "IndexError.__new__" = true)
    (eo2 : PySem.W.excOver K C2 [.type "IndexError", .type "LookupError", .type "Exception", .type "BaseException", .type "object"] = true)
    (es2 : PySem.W.findIn K (.ref C2) "__setattr__" = some (some (.builtin "object.__setattr__")))
    (en2 : PySem.W.findIn K (.ref C2) "to" = some none)
    (ef2 : PySem.W.findIn K (.ref C2) "__init__" = some (some (.ref fI2)))
    (eh2 : PySem.W.isFn K (.ref fI2) = true)
    (ev2 : PySem.W.subIn K (.ref C2) (.type "IndexError") = some true)
    (eu2 : PySem.W.ks_superIn K C2 C2 "__init__" = some (some (.builtin "IndexError.__init__")))
    (em2 : PySem.W.mroIn K C2 (.ref C2) = some true)
    (el2 : K.lookup fI2 = some ⟨oc_2, od_2, .func (PySem.W.ksFn "__init__" q_2 (XC.inA "to" p1_2 p2_2) (XC.inB "to" t_2 r1_2 r2_2 r3_2 r4_2 r5_2 r6_2 q1_2 q2_2 q3_2 q4_2) (XC.inS "to") .none .none doc_2 pm_2 an_2 (.ref cda2) ct_2 cc2), osl2⟩)
    (eq2 : PySem.W.codeIn K (.ref cda2) q_2 = true)
    (ew2 : K.lookup cda2 = some ⟨ccl2, cdd2, .fields vs2, ccs2⟩)
    (ey2 : vs2[2]? = some (.str file2 tf2))
    (ez2 : ((l.prog.main.file : Str) == file2) = true)
    (ea2 : (r3_2.endLine == r5_2.line) = true)
    (eb2 : K.lookup cc2 = some ⟨cl_2, cld2, .cell (some (.ref C2)), csl2⟩)
    (eg3 : PySem.W.nsIn K mainGlobals "NoBack" = some (some (.ref C3)))
    (ek3 : PySem.W.keepIn K (.ref C3) = true)
    (ex3 : PySem.W.subIn K (.ref C3) (.type "BaseException") = some true)
    (et3 : PySem.W.typeIn K (.ref C3) = some (.type "type"))
    (ec3 : PySem.W.clsIn K C3 = some cdC3)
    (ga3 : PySem.W.findIn K (.ref C3) "__getattribute__" = some (some (.builtin "BaseException.__getattribute__")))
    (gg3 : PySem.W.findIn K (.ref C3) "__getattr__" = some none)
    (gc3 : PySem.W.findIn K (.ref C3) "__class__" = some (some (.builtin "object.__class__")))
    (mo3 : PySem.W.mroIn K C3 (.type "object") = some true)
    (ed3 : PySem.W.hasDictIn K C3 = true)
    (ei3 : PySem.W.excIn K C3 [.type "ValueError", .type "Exception", .type "BaseException", .type "object"] "ValueError.__new__" = true)
    (eg4 : PySem.W.nsIn K mainGlobals "HandError" = some (some (.ref C4)))
    (eg5 : PySem.W.nsIn K mainGlobals "NoWeb" = some (some (.ref C5)))
    (ek5 : PySem.W.keepIn K (.ref C5) = true)
    (ex5 : PySem.W.subIn K (.ref C5) (.type "BaseException") = some true)
    (et5 : PySem.W.typeIn K (.ref C5) = some (.type "type"))
    (ec5 : PySem.W.clsIn K C5 = some cdC5)
    (ga5 : PySem.W.findIn K (.ref C5) "__getattribute__" = some (some (.builtin "BaseException.__getattribute__")))
    (gg5 : PySem.W.findIn K (.ref C5) "__getattr__" = some none)
    (gc5 : PySem.W.findIn K (.ref C5) "__class__" = some (some (.builtin "object.__class__")))
    (mo5 : PySem.W.mroIn K C5 (.type "object") = some true)
    (ed5 : PySem.W.hasDictIn K C5 = true)
    (ei5 : PySem.W.excInitIn K C5 [.type "ValueError", .type "Exception", .type "BaseException", .type "object"] "ValueError.__new__" = true)
    (eo5 : PySem.W.excOver K C5 [.type "ValueError", .type "Exception", .type "BaseException", .type "object"] = true)
    (es5 : PySem.W.findIn K (.ref C5) "__setattr__" = some (some (.builtin "object.__setattr__")))
    (en5 : PySem.W.findIn K (.ref C5) "row" = some none)
    (ef5 : PySem.W.findIn K (.ref C5) "__init__" = some (some (.ref fI5)))
    (eh5 : PySem.W.isFn K (.ref fI5) = true)
    (ev5 : PySem.W.subIn K (.ref C5) (.type "ValueError") = some true)
    (eu5 : PySem.W.ks_superIn K C5 C5 "__init__" = some (some (.builtin "ValueError.__init__")))
    (em5 : PySem.W.mroIn K C5 (.ref C5) = some true)
    (el5 : K.lookup fI5 = some ⟨oc_5, od_5, .func (PySem.W.ksFn "__init__" q_5 (XC.inA "row" p1_5 p2_5) (XC.inB "row" t_5 r1_5 r2_5 r3_5 r4_5 r5_5 r6_5 q1_5 q2_5 q3_5 q4_5) (XC.inS "row") .none .none doc_5 pm_5 an_5 (.ref cda5) ct_5 cc5), osl5⟩)
    (eq5 : PySem.W.codeIn K (.ref cda5) q_5 = true)
    (ew5 : K.lookup cda5 = some ⟨ccl5, cdd5, .fields vs5, ccs5⟩)
    (ey5 : vs5[2]? = some (.str file5 tf5))
    (ez5 : ((l.prog.main.file : Str) == file5) = true)
    (ea5 : (r3_5.endLine == r5_5.line) = true)
    (eb5 : K.lookup cc5 = some ⟨cl_5, cld5, .cell (some (.ref C5)), csl5⟩)
    (eg6 : PySem.W.nsIn K mainGlobals "NoShelf" = some (some (.ref C6)))
    (ek6 : PySem.W.keepIn K (.ref C6) = true)
    (ex6 : PySem.W.subIn K (.ref C6) (.type "BaseException") = some true)
    (et6 : PySem.W.typeIn K (.ref C6) = some (.type "type"))
    (ec6 : PySem.W.clsIn K C6 = some cdC6)
    (ga6 : PySem.W.findIn K (.ref C6) "__getattribute__" = some (some (.builtin "BaseException.__getattribute__")))
    (gg6 : PySem.W.findIn K (.ref C6) "__getattr__" = some none)
    (gc6 : PySem.W.findIn K (.ref C6) "__class__" = some (some (.builtin "object.__class__")))
    (mo6 : PySem.W.mroIn K C6 (.type "object") = some true)
    (ed6 : PySem.W.hasDictIn K C6 = true)
    (ei6 : PySem.W.excInitIn K C6 [.type "ValueError", .type "Exception", .type "BaseException", .type "object"] "ValueError.__new__" = true)
    (eo6 : PySem.W.excOver K C6 [.type "ValueError", .type "Exception", .type "BaseException", .type "object"] = true)
    (es6 : PySem.W.findIn K (.ref C6) "__setattr__" = some (some (.builtin "object.__setattr__")))
    (en6 : PySem.W.findIn K (.ref C6) "part" = some none)
    (ef6 : PySem.W.findIn K (.ref C6) "__init__" = some (some (.ref fI6)))
    (eh6 : PySem.W.isFn K (.ref fI6) = true)
    (ev6 : PySem.W.subIn K (.ref C6) (.type "ValueError") = some true)
    (eu6 : PySem.W.ks_superIn K C6 C6 "__init__" = some (some (.builtin "ValueError.__init__")))
    (em6 : PySem.W.mroIn K C6 (.ref C6) = some true)
    (el6 : K.lookup fI6 = some ⟨oc_6, od_6, .func (PySem.W.ksFn "__init__" q_6 (XC.inA "part" p1_6 p2_6) (XC.inB "part" t_6 r1_6 r2_6 r3_6 r4_6 r5_6 r6_6 q1_6 q2_6 q3_6 q4_6) (XC.inS "part") .none .none doc_6 pm_6 an_6 (.ref cda6) ct_6 cc6), osl6⟩)
    (eq6 : PySem.W.codeIn K (.ref cda6) q_6 = true)
    (ew6 : K.lookup cda6 = some ⟨ccl6, cdd6, .fields vs6, ccs6⟩)
    (ey6 : vs6[2]? = some (.str file6 tf6))
    (ez6 : ((l.prog.main.file : Str) == file6) = true)
    (ea6 : (r3_6.endLine == r5_6.line) = true)
    (eb6 : K.lookup cc6 = some ⟨cl_6, cld6, .cell (some (.ref C6)), csl6⟩)
    (spG : PySem.W.specialIn K (.builtin "object.__class__") "__get__" = some (some (.builtin "getset_descriptor.__get__")))
    (tkG : PySem.W.takesIn K (.builtin "object.__class__") = some true)
    (nsG : PySem.W.nsIn K mainGlobals "super" = some none)
    (opG : PySem.W.nsIn K cStatics "thirdparty.any" = some none)
    (ntG : (l.prog.main.scope.names.lookup ("super" : Str)).isSome = false)
    (veN : PySem.W.nsIn K mainGlobals "ValueError" = some none)
    (ieN : PySem.W.nsIn K mainGlobals "IndexError" = some none)
    (leN : PySem.W.nsIn K mainGlobals "LookupError" = some none)
    (xwh : PySem.W.exmOne K (.ref C5) (.ref C4) = some true)
    (xfh : PySem.W.exmOne K (.ref C6) (.ref C4) = some true)
    (xrr : PySem.W.exmOne K (.ref C1) (.ref C1) = some true)
    (xss : PySem.W.exmOne K (.ref C2) (.ref C2) = some true)
    (kww : PySem.W.kitOne K (.ref C5) (.ref C5) = some true)
    (kwf : PySem.W.kitOne K (.ref C5) (.ref C6) = some false)
    (kfw : PySem.W.kitOne K (.ref C6) (.ref C5) = some false)
    (kff : PySem.W.kitOne K (.ref C6) (.ref C6) = some true)
    (kfv : PySem.W.kitOne K (.ref C6) (.type "ValueError") = some true)
    (kfb : PySem.W.kitOne K (.ref C6) (.ref C3) = some false)
    (ksi : PySem.W.kitOne K (.ref C2) (.type "IndexError") = some true)
    (kso : PySem.W.kitAny K (.ref C2) [.ref C4, .ref C1] = some false)
    (krl : PySem.W.kitOne K (.ref C1) (.type "LookupError") = some true)
    (kro : PySem.W.kitAny K (.ref C1) [.ref C4, .type "IndexError"] = some false)
    (mW : PySem.W.nsIn K mainGlobals "WAYS" = some (some (.ref aW)))
    (mW2 : K.lookup aW = some ⟨.type "tuple", dW, .seq #[.str "last" u1, .str "first" u2, .str "tree" u3] nW, slW⟩)
    (mZ : PySem.W.nsIn K mainGlobals "TREE_SIZES" = some (some (.ref aZ)))
    (mZ2 : K.lookup aZ = some ⟨.type "tuple", dZ, .seq #[.int 1 u4, .int 2 u5, .int 4 u6, .int 8 u7] nZ, slZ⟩)
    (cgCS : PySem.W.nsIn K mainGlobals "Shelf" = some (some (.ref CS)))
    (ckCS : PySem.W.keepIn K (.ref CS) = true)
    (cmCS : PySem.W.makesIn K CS = true)
    (cpCS : PySem.W.plainGet K CS Str.empty = true)
    (cdCS : PySem.W.hasDictIn K CS = true)
    (coCS : PySem.W.plainOver K CS = true)
    (csCS : PySem.W.findIn K (.ref CS) "__setattr__" = some (some (.builtin "object.__setattr__")))
    (cfCS0 : PySem.W.findIn K (.ref CS) "many" = some none)
    (cfCS1 : PySem.W.findIn K (.ref CS) "kept_by" = some none)
    (cfCS2 : PySem.W.findIn K (.ref CS) "slots" = some none)
    (cfCS3 : PySem.W.findIn K (.ref CS) "bits" = some none)
    (cfCS4 : PySem.W.findIn K (.ref CS) "near" = some none)
    (cfCS5 : PySem.W.findIn K (.ref CS) "far" = some none)
    (neCS : PySem.W.findIn K (.ref CS) "__ne__" = some (some (.builtin "object.__ne__")))
    (obCS : PySem.W.subIn K (.ref CS) (.type "object") = some true)
    (na0 : PySem.W.subIn K (.type "NoneType") (.ref CS) = some false)
    (na1 : PySem.W.subIn K (.type "int") (.ref CS) = some false)
    (na2 : PySem.W.subIn K (.type "bool") (.ref CS) = some false)
    (na3 : PySem.W.subIn K (.type "str") (.ref CS) = some false)
    (na4 : PySem.W.subIn K (.type "tuple") (.ref CS) = some false)
    (na5 : PySem.W.subIn K (.type "list") (.ref CS) = some false)
    (na6 : PySem.W.subIn K (.type "dict") (.ref CS) = some false)
    (nb0 : PySem.W.subIn K (.ref CS) (.type "NoneType") = some false)
    (nb1 : PySem.W.subIn K (.ref CS) (.type "int") = some false)
    (nb2 : PySem.W.subIn K (.ref CS) (.type "bool") = some false)
    (nb3 : PySem.W.subIn K (.ref CS) (.type "str") = some false)
    (nb4 : PySem.W.subIn K (.ref CS) (.type "tuple") = some false)
    (nb5 : PySem.W.subIn K (.ref CS) (.type "list") = some false)
    (nb6 : PySem.W.subIn K (.ref CS) (.type "dict") = some false)
    (kt0 : PySem.W.kitOne K (.type "NoneType") (.ref CS) = some false)
    (kt1 : PySem.W.kitOne K (.type "int") (.ref CS) = some false)
    (kt2 : PySem.W.kitOne K (.type "bool") (.ref CS) = some false)
    (kt3 : PySem.W.kitOne K (.type "str") (.ref CS) = some false)
    (kt4 : PySem.W.kitOne K (.type "tuple") (.ref CS) = some false)
    (kt5 : PySem.W.kitOne K (.type "list") (.ref CS) = some false)
    (kt6 : PySem.W.kitOne K (.type "dict") (.ref CS) = some false)
    (ktS : PySem.W.kitOne K (.ref CS) (.ref CS) = some true)
    (clA : PySem.W.findIn K (.ref CS) "__class__" = some (some (.builtin "object.__class__")))
    (clD : PySem.W.mroIn K CS (.type "object") = some true)
    (cgCW : PySem.W.nsIn K mainGlobals "Walk" = some (some (.ref CW)))
    (ckCW : PySem.W.keepIn K (.ref CW) = true)
    (cmCW : PySem.W.makesIn K CW = true)
    (cpCW : PySem.W.plainGet K CW Str.empty = true)
    (cdCW : PySem.W.hasDictIn K CW = true)
    (coCW : PySem.W.plainOver K CW = true)
    (csCW : PySem.W.findIn K (.ref CW) "__setattr__" = some (some (.builtin "object.__setattr__")))
    (cfCW0 : PySem.W.findIn K (.ref CW) "rows" = some none)
    (cfCW1 : PySem.W.findIn K (.ref CW) "place" = some none)
    (cfCW2 : PySem.W.findIn K (.ref CW) "kept" = some none)
    (cfCW3 : PySem.W.findIn K (.ref CW) "counts_ahead" = some none)
    (cfCW4 : PySem.W.findIn K (.ref CW) "past" = some none)
    (cbCW : PySem.W.findIn K (.ref CW) "__bool__" = some none)
    (clAW : PySem.W.findIn K (.ref CW) "__class__" = some (some (.builtin "object.__class__")))
    (clDW : PySem.W.mroIn K CW (.type "object") = some true)
    (kWS : PySem.W.kitOne K (.ref CW) (.ref CS) = some false)
    (maCSinit : PySem.W.findIn K (.ref CS) "__init__" = some (some (.ref fCSinit)))
    (miCSinit : PySem.W.isFn K (.ref fCSinit) = true)
    (mkCSinit : PySem.W.keepIn K (.ref fCSinit) = true)
    (mlCSinit : K.lookup fCSinit = some ⟨ocCSinit, odCSinit, .func (PySem.W.fnOf "__init__" "Shelf.__init__" (defArgs sS_init) (defBody sS_init) (defScope sS_init) (.ref aDCSinit) kVCSinit dcCSinit pmCSinit anCSinit cdCSinit ctCSinit), slCSinit⟩)
    (mcCSinit : PySem.W.codeIn K cdCSinit "Shelf.__init__" = true)
    (mqCSinit : K.lookup aDCSinit = some ⟨.type "tuple", dDCSinit, .seq #[.int 4 tkCSinit_0, .str "last" tkCSinit_1, .none, .none] nDCSinit, sDCSinit⟩)
    (maCSlay : PySem.W.findIn K (.ref CS) "lay" = some (some (.ref fCSlay)))
    (miCSlay : PySem.W.isFn K (.ref fCSlay) = true)
    (mkCSlay : PySem.W.keepIn K (.ref fCSlay) = true)
    (mlCSlay : K.lookup fCSlay = some ⟨ocCSlay, odCSlay, .func (PySem.W.fnOf "lay" "Shelf.lay" (defArgs sS_lay) (defBody sS_lay) (defScope sS_lay) .none kVCSlay dcCSlay pmCSlay anCSlay cdCSlay ctCSlay), slCSlay⟩)
    (mcCSlay : PySem.W.codeIn K cdCSlay "Shelf.lay" = true)
    (maCScounts : PySem.W.findIn K (.ref CS) "counts" = some (some (.ref fCScounts)))
    (miCScounts : PySem.W.isFn K (.ref fCScounts) = true)
    (mkCScounts : PySem.W.keepIn K (.ref fCScounts) = true)
    (mlCScounts : K.lookup fCScounts = some ⟨ocCScounts, odCScounts, .func (PySem.W.fnOf "counts" "Shelf.counts" (defArgs sS_counts) (defBody sS_counts) (defScope sS_counts) .none kVCScounts dcCScounts pmCScounts anCScounts cdCScounts ctCScounts), slCScounts⟩)
    (mcCScounts : PySem.W.codeIn K cdCScounts "Shelf.counts" = true)
    (maCSask : PySem.W.findIn K (.ref CS) "ask" = some (some (.ref fCSask)))
    (miCSask : PySem.W.isFn K (.ref fCSask) = true)
    (mkCSask : PySem.W.keepIn K (.ref fCSask) = true)
    (mlCSask : K.lookup fCSask = some ⟨ocCSask, odCSask, .func (PySem.W.fnOf "ask" "Shelf.ask" (defArgs sS_ask) (defBody sS_ask) (defScope sS_ask) .none kVCSask dcCSask pmCSask anCSask cdCSask ctCSask), slCSask⟩)
    (mcCSask : PySem.W.codeIn K cdCSask "Shelf.ask" = true)
    (maCStwin : PySem.W.findIn K (.ref CS) "twin" = some (some (.ref fCStwin)))
    (miCStwin : PySem.W.isFn K (.ref fCStwin) = true)
    (mkCStwin : PySem.W.keepIn K (.ref fCStwin) = true)
    (mlCStwin : K.lookup fCStwin = some ⟨ocCStwin, odCStwin, .func (PySem.W.fnOf "twin" "Shelf.twin" (defArgs sS_twin) (defBody sS_twin) (defScope sS_twin) .none kVCStwin dcCStwin pmCStwin anCStwin cdCStwin ctCStwin), slCStwin⟩)
    (mcCStwin : PySem.W.codeIn K cdCStwin "Shelf.twin" = true)
    (maCSeq : PySem.W.findIn K (.ref CS) "__eq__" = some (some (.ref fCSeq)))
    (miCSeq : PySem.W.isFn K (.ref fCSeq) = true)
    (mkCSeq : PySem.W.keepIn K (.ref fCSeq) = true)
    (mlCSeq : K.lookup fCSeq = some ⟨ocCSeq, odCSeq, .func (PySem.W.fnOf "__eq__" "Shelf.__eq__" (defArgs sS_eq) (defBody sS_eq) (defScope sS_eq) .none kVCSeq dcCSeq pmCSeq anCSeq cdCSeq ctCSeq), slCSeq⟩)
    (mcCSeq : PySem.W.codeIn K cdCSeq "Shelf.__eq__" = true)
    (maCWstep : PySem.W.findIn K (.ref CW) "step" = some (some (.ref fCWstep)))
    (miCWstep : PySem.W.isFn K (.ref fCWstep) = true)
    (mkCWstep : PySem.W.keepIn K (.ref fCWstep) = true)
    (mlCWstep : K.lookup fCWstep = some ⟨ocCWstep, odCWstep, .func (PySem.W.fnOf "step" "Walk.step" (defArgs sW_step) (defBody sW_step) (defScope sW_step) (.ref aDCWstep) kVCWstep dcCWstep pmCWstep anCWstep cdCWstep ctCWstep), slCWstep⟩)
    (mcCWstep : PySem.W.codeIn K cdCWstep "Walk.step" = true)
    (mqCWstep : K.lookup aDCWstep = some ⟨.type "tuple", dDCWstep, .seq #[.none, .none] nDCWstep, sDCWstep⟩)
    (maCWinit : PySem.W.findIn K (.ref CW) "__init__" = some (some (.ref fCWinit)))
    (miCWinit : PySem.W.isFn K (.ref fCWinit) = true)
    (mkCWinit : PySem.W.keepIn K (.ref fCWinit) = true)
    (mlCWinit : K.lookup fCWinit = some ⟨ocCWinit, odCWinit, .func (PySem.W.fnOf "__init__" "Walk.__init__" (defArgs sW_init) (defBody sW_init) (defScope sW_init) .none kVCWinit dcCWinit pmCWinit anCWinit cdCWinit ctCWinit), slCWinit⟩)
    (mcCWinit : PySem.W.codeIn K cdCWinit "Walk.__init__" = true)
    (maCWundo : PySem.W.findIn K (.ref CW) "undo" = some (some (.ref fCWundo)))
    (miCWundo : PySem.W.isFn K (.ref fCWundo) = true)
    (mkCWundo : PySem.W.keepIn K (.ref fCWundo) = true)
    (mlCWundo : K.lookup fCWundo = some ⟨ocCWundo, odCWundo, .func (PySem.W.fnOf "undo" "Walk.undo" (defArgs sW_undo) (defBody sW_undo) (defScope sW_undo) .none kVCWundo dcCWundo pmCWundo anCWundo cdCWundo ctCWundo), slCWundo⟩)
    (mcCWundo : PySem.W.codeIn K cdCWundo "Walk.undo" = true)
    (maCWat : PySem.W.findIn K (.ref CW) "at" = some (some (.ref fCWat)))
    (miCWat : PySem.W.isFn K (.ref fCWat) = true)
    (mkCWat : PySem.W.keepIn K (.ref fCWat) = true)
    (mlCWat : K.lookup fCWat = some ⟨ocCWat, odCWat, .func (PySem.W.fnOf "at" "Walk.at" (defArgs sW_at) (defBody sW_at) (defScope sW_at) .none kVCWat dcCWat pmCWat anCWat cdCWat ctCWat), slCWat⟩)
    (mcCWat : PySem.W.codeIn K cdCWat "Walk.at" = true)
    (maCWrun : PySem.W.findIn K (.ref CW) "run" = some (some (.ref fCWrun)))
    (miCWrun : PySem.W.isFn K (.ref fCWrun) = true)
    (mkCWrun : PySem.W.keepIn K (.ref fCWrun) = true)
    (mlCWrun : K.lookup fCWrun = some ⟨ocCWrun, odCWrun, .func (PySem.W.fnOf "run" "Walk.run" (defArgs sW_run) (defBody sW_run) (defScope sW_run) .none kVCWrun dcCWrun pmCWrun anCWrun cdCWrun ctCWrun), slCWrun⟩)
    (mcCWrun : PySem.W.codeIn K cdCWrun "Walk.run" = true)
    (maCWcounts : PySem.W.findIn K (.ref CW) "counts" = some (some (.ref fCWcounts)))
    (miCWcounts : PySem.W.isFn K (.ref fCWcounts) = true)
    (mkCWcounts : PySem.W.keepIn K (.ref fCWcounts) = true)
    (mlCWcounts : K.lookup fCWcounts = some ⟨ocCWcounts, odCWcounts, .func (PySem.W.fnOf "counts" "Walk.counts" (defArgs sW_counts) (defBody sW_counts) (defScope sW_counts) .none kVCWcounts dcCWcounts pmCWcounts anCWcounts cdCWcounts ctCWcounts), slCWcounts⟩)
    (mcCWcounts : PySem.W.codeIn K cdCWcounts "Walk.counts" = true)
    (maCWshelf : PySem.W.findIn K (.ref CW) "shelf" = some (some (.ref fCWshelf)))
    (miCWshelf : PySem.W.isFn K (.ref fCWshelf) = true)
    (mkCWshelf : PySem.W.keepIn K (.ref fCWshelf) = true)
    (mlCWshelf : K.lookup fCWshelf = some ⟨ocCWshelf, odCWshelf, .func (PySem.W.fnOf "shelf" "Walk.shelf" (defArgs sW_shelf) (defBody sW_shelf) (defScope sW_shelf) .none kVCWshelf dcCWshelf pmCWshelf anCWshelf cdCWshelf ctCWshelf), slCWshelf⟩)
    (mcCWshelf : PySem.W.codeIn K cdCWshelf "Walk.shelf" = true)
    (maCWlen : PySem.W.findIn K (.ref CW) "__len__" = some (some (.ref fCWlen)))
    (miCWlen : PySem.W.isFn K (.ref fCWlen) = true)
    (mkCWlen : PySem.W.keepIn K (.ref fCWlen) = true)
    (mlCWlen : K.lookup fCWlen = some ⟨ocCWlen, odCWlen, .func (PySem.W.fnOf "__len__" "Walk.__len__" (defArgs sW_len) (defBody sW_len) (defScope sW_len) .none kVCWlen dcCWlen pmCWlen anCWlen cdCWlen ctCWlen), slCWlen⟩)
    (mcCWlen : PySem.W.codeIn K cdCWlen "Walk.__len__" = true)
    (z1 : PySem.W.nsIn K mainGlobals "len" = some none) (z2 : PySem.W.nsIn K mainGlobals "sum" = some none) (z3 : PySem.W.nsIn K mainGlobals "abs" = some none) (z4 : PySem.W.nsIn K mainGlobals "int" = some none) (z5 : PySem.W.nsIn K mainGlobals "min" = some none) (z6 : PySem.W.nsIn K mainGlobals "max" = some none) (z7 : PySem.W.nsIn K mainGlobals "range" = some none) (z8 : PySem.W.nsIn K mainGlobals "sorted" = some none) (z9 : PySem.W.nsIn K mainGlobals "list" = some none) (z10 : PySem.W.nsIn K mainGlobals "tuple" = some none) (z11 : PySem.W.nsIn K mainGlobals "repr" = some none) (z12 : PySem.W.nsIn K mainGlobals "set" = some none) (z13 : PySem.W.nsIn K mainGlobals "all" = some none) (z14 : PySem.W.nsIn K mainGlobals "isinstance" = some none) (z15 : PySem.W.nsIn K mainGlobals "str" = some none) (z16 : PySem.W.nsIn K mainGlobals "bool" = some none) (z17 : PySem.W.nsIn K mainGlobals "reversed" = some none) (z18 : PySem.W.nsIn K mainGlobals "enumerate" = some none) (z19 : PySem.W.nsIn K mainGlobals "zip" = some none) (z20 : PySem.W.nsIn K mainGlobals "any" = some none) (z21 : PySem.W.nsIn K mainGlobals "dict" = some none) :
    ∃ fd : FuncData, (∀ (s : Shared) (v : Value), BindsTo s fd ⟨[v], []⟩ [("_law_script", v)]) ∧ ∀ base : Heap, K.In base → base.Ns mainGlobals mg → FnG l.prog w K mg base CX0 12 fa fd ["_law_script"] (spLaw K) := by
  have e := hfa.symm.trans (PySem.W.mg_of X G a34)
  cases e
  have B : Bt mg := ⟨PySem.W.mg_none_of X G z1, PySem.W.mg_none_of X G z2, PySem.W.mg_none_of X G z3, PySem.W.mg_none_of X G z4, PySem.W.mg_none_of X G z5, PySem.W.mg_none_of X G z6, PySem.W.mg_none_of X G z7, PySem.W.mg_none_of X G z8, PySem.W.mg_none_of X G z9, PySem.W.mg_none_of X G z10, PySem.W.mg_none_of X G z11, PySem.W.mg_none_of X G z12, PySem.W.mg_none_of X G z13, PySem.W.mg_none_of X G z14, PySem.W.mg_none_of X G z15, PySem.W.mg_none_of X G z16, PySem.W.mg_none_of X G z17, PySem.W.mg_none_of X G z18, PySem.W.mg_none_of X G z19, PySem.W.mg_none_of X G z20, PySem.W.mg_none_of X G z21⟩
  have F1 := fun_mk (st := s_is_whole) l1 c1 k1
  have b1 := F1.binds (ps := ["thing"]) fun _ _ _ _ _ _ us hl => match us, hl with | [_], _ => rfl
  have T1 := at_mk X G a1 F1 b1
  have F2 := fun_mk (st := s_is_room) l2 c2 k2
  have b2 := F2.binds (ps := ["thing"]) fun _ _ _ _ _ _ us hl => match us, hl with | [_], _ => rfl
  have T2 := at_mk X G a2 F2 b2
  have F3 := fun_mk (st := s_are_rising) l3 c3 k3
  have b3 := F3.binds (ps := ["numbers"]) fun _ _ _ _ _ _ us hl => match us, hl with | [_], _ => rfl
  have T3 := at_mk X G a3 F3 b3
  have F4 := fun_mk (st := s_are_rooms) l4 c4 k4
  have b4 := F4.binds (ps := ["thing", "least", "most"]) fun _ _ _ _ _ _ us hl => match us, hl with | [_, _, _], _ => rfl
  have T4 := at_mk X G a4 F4 b4
  have F5 := fun_mk (st := s_is_way) l5 c5 k5
  have b5 := F5.binds (ps := ["thing"]) fun _ _ _ _ _ _ us hl => match us, hl with | [_], _ => rfl
  have T5 := at_mk X G a5 F5 b5
  have F6 := fun_mk (st := s_is_size) l6 c6 k6
  have b6 := F6.binds (ps := ["thing", "way"]) fun _ _ _ _ _ _ us hl => match us, hl with | [_, _], _ => rfl
  have T6 := at_mk X G a6 F6 b6
  have F7 := fun_mk (st := s_how_many_bits) l7 c7 k7
  have b7 := F7.binds (ps := ["size", "way"]) fun _ _ _ _ _ _ us hl => match us, hl with | [_, _], _ => rfl
  have T7 := at_mk X G a7 F7 b7
  have F8 := fun_mk (st := s_is_slot) l8 c8 k8
  have b8 := F8.binds (ps := ["thing"]) fun _ _ _ _ _ _ us hl => match us, hl with | [_], _ => rfl
  have T8 := at_mk X G a8 F8 b8
  have F9 := fun_mk (st := s_is_bit) l9 c9 k9
  have b9 := F9.binds (ps := ["thing"]) fun _ _ _ _ _ _ us hl => match us, hl with | [_], _ => rfl
  have T9 := at_mk X G a9 F9 b9
  have F10 := fun_mk (st := s_are_slots) l10 c10 k10
  have b10 := F10.binds (ps := ["thing", "size"]) fun _ _ _ _ _ _ us hl => match us, hl with | [_, _], _ => rfl
  have T10 := at_mk X G a10 F10 b10
  have F11 := fun_mk (st := s_are_bits) l11 c11 k11
  have b11 := F11.binds (ps := ["thing", "size", "way"]) fun _ _ _ _ _ _ us hl => match us, hl with | [_, _, _], _ => rfl
  have T11 := at_mk X G a11 F11 b11
  have F12 := fun_mk (st := s_put_first) l12 c12 k12
  have b12 := F12.binds (ps := ["slots", "room"]) fun _ _ _ _ _ _ us hl => match us, hl with | [_, _], _ => rfl
  have T12 := at_mk X G a12 F12 b12
  have F13 := fun_mk (st := s_slot_led_to) l13 c13 k13
  have b13 := F13.binds (ps := ["bits", "size"]) fun _ _ _ _ _ _ us hl => match us, hl with | [_, _], _ => rfl
  have T13 := at_mk X G a13 F13 b13
  have F14 := fun_mk (st := s_led_away) l14 c14 k14
  have b14 := F14.binds (ps := ["bits", "slot", "size"]) fun _ _ _ _ _ _ us hl => match us, hl with | [_, _, _], _ => rfl
  have T14 := at_mk X G a14 F14 b14
  have F15 := fun_mk (st := s_asked_by_tree) l15 c15 k15
  have b15 := F15.binds (ps := ["slots", "bits", "room"]) fun _ _ _ _ _ _ us hl => match us, hl with | [_, _, _], _ => rfl
  have T15 := at_mk X G a15 F15 b15
  have F16 := fun_mk (st := s_asked) l16 c16 k16
  have b16 := F16.binds (ps := ["lay", "room", "way"]) fun _ _ _ _ _ _ us hl => match us, hl with | [_, _, _], _ => rfl
  have T16 := at_mk X G a16 F16 b16
  have F17 := fun_mk (st := s_are_tos) l17 c17 k17
  have b17 := F17.binds (ps := ["thing", "rows"]) fun _ _ _ _ _ _ us hl => match us, hl with | [_, _], _ => rfl
  have T17 := at_mk X G a17 F17 b17
  have F18 := fun_mk (st := s_is_row) l18 c18 k18
  have b18 := F18.binds (ps := ["thing", "rows"]) fun _ _ _ _ _ _ us hl => match us, hl with | [_, _], _ => rfl
  have T18 := at_mk X G a18 F18 b18
  have F19 := fun_mk (st := s_rooms_in) l19 c19 k19
  have b19 := F19.binds (ps := ["rows"]) fun _ _ _ _ _ _ us hl => match us, hl with | [_], _ => rfl
  have T19 := at_mk X G a19 F19 b19
  have F20 := fun_mk (st := s_look_at_web) l20 c20 k20
  have b20 := F20.binds (ps := ["thing"]) fun _ _ _ _ _ _ us hl => match us, hl with | [_], _ => rfl
  have T20 := at_mk X G a20 F20 b20
  have F21 := fun_mk (st := s_is_ask_of) l21 c21 k21
  have b21 := F21.binds (ps := ["rooms", "thing"]) fun _ _ _ _ _ _ us hl => match us, hl with | [_, _], _ => rfl
  have T21 := at_mk X G a21 F21 b21
  have F22 := fun_mk (st := s_wrong_part) l22 c22 k22
  have b22 := F22.binds (ps := ["size", "way", "slots", "bits"]) fun _ _ _ _ _ _ us hl => match us, hl with | [_, _, _, _], _ => rfl
  have T22 := at_mk X G a22 F22 b22
  have F23 := fun_mk (st := s_look_at_room) l23 c23 k23
  have b23 := F23.binds (ps := ["thing"]) fun _ _ _ _ _ _ us hl => match us, hl with | [_], _ => rfl
  have T23 := at_mk X G a23 F23 b23
  have F24 := fun_mk (st := s_is_way_on) l24 c24 k24
  have b24 := F24.binds (ps := ["tos", "thing"]) fun _ _ _ _ _ _ us hl => match us, hl with | [_, _], _ => rfl
  have T24 := at_mk X G a24 F24 b24
  have F25 := fun_mk (st := s_law_pool) l25 c25 k25
  have b25 := F25.binds (ps := ["_law_script", "_law_k"]) fun _ _ _ _ _ _ us hl => match us, hl with | [_, _], _ => rfl
  have T25 := at_mk X G a25 F25 b25
  have F26 := fun_mk (st := s_law_take) l26 c26 k26
  have b26 := F26.binds (ps := ["_law_pool_here", "_law_many"]) fun _ _ _ _ _ _ us hl => match us, hl with | [_, _], _ => rfl
  have T26 := at_mk X G a26 F26 b26
  have F27 := fun_mk (st := s_law_picked) l27 c27 k27
  have b27 := F27.binds (ps := ["_law_pool_here", "_law_some", "_law_many"]) fun _ _ _ _ _ _ us hl => match us, hl with | [_, _, _], _ => rfl
  have T27 := at_mk X G a27 F27 b27
  have F28 := fun_mk (st := s_law_tos) l28 c28 k28
  have b28 := F28.binds (ps := ["_law_pool_here", "_law_row", "_law_many"]) fun _ _ _ _ _ _ us hl => match us, hl with | [_, _, _], _ => rfl
  have T28 := at_mk X G a28 F28 b28
  have F29 := fun_mk (st := s_law_web) l29 c29 k29
  have b29 := F29.binds (ps := ["_law_pool_here", "_law_most_rows", "_law_most_rooms"]) fun _ _ _ _ _ _ us hl => match us, hl with | [_, _, _], _ => rfl
  have T29 := at_mk X G a29 F29 b29
  have F30 := fun_mk (st := s_law_made) l30 c30 k30
  have b30 := F30.binds (ps := ["_law_web_here", "_law_one"]) fun _ _ _ _ _ _ us hl => match us, hl with | [_, _], _ => rfl
  have T30 := at_mk X G a30 F30 b30
  have F31 := fun_mk (st := s_law_over) l31 c31 k31
  have b31 := F31.binds (ps := ["_law_walk"]) fun _ _ _ _ _ _ us hl => match us, hl with | [_], _ => rfl
  have T31 := at_mk X G a31 F31 b31
  have F32 := fun_mk (st := s_law_no_room) l32 c32 k32
  have b32 := F32.binds (ps := ["_law_walk", "_law_thing"]) fun _ _ _ _ _ _ us hl => match us, hl with | [_, _], _ => rfl
  have T32 := at_mk X G a32 F32 b32
  have F33 := fun_mk (st := s_law_long) l33 c33 k33
  have b33 := F33.binds (ps := []) fun _ _ _ _ _ _ us hl => match us, hl with | [], _ => rfl
  have T33 := at_mk X G a33 F33 b33
  have F34 := fun_mk (st := s_law) l34 c34 k34
  refine ⟨PySem.W.fnOf "law" "law" (defArgs s_law) (defBody s_law) (defScope s_law) .none kV34 dc34 pm34 an34 cd34 ct34, fun s v => .of_eq rfl, fun base _ _ => ?_⟩
  have O1 : XC.Own l.prog K mg "NoRoom" "room" C1 fI1 "LookupError" "LookupError.__new__" "LookupError.__init__" [.type "LookupError", .type "Exception", .type "BaseException", .type "object"] := ⟨XC.fld_room, PySem.W.mg_of X G eg1, ei1, eo1, PySem.F.excBase_LookupError, PySem.F.store_LookupError, PySem.W.kxs_LookupError, es1, en1, ef1, eh1, ek1, ex1, et1, ed1, ev1, eu1, em1, PySem.W.mg_none_of X G nsG, opG, ntG, _, _, _, _, _, _, _, _, _, _, _, _, _, _, _, _, _, _, _, _, _, _, _, _, _, _, _, _, _, _, _, _, el1, eq1, ew1, ey1, ez1, ea1, eb1⟩
  have O2 : XC.Own l.prog K mg "NoStep" "to" C2 fI2 "IndexError" "IndexError.__new__" "IndexError.__init__" [.type "IndexError", .type "LookupError", .type "Exception", .type "BaseException", .type "object"] := ⟨XC.fld_to, PySem.W.mg_of X G eg2, ei2, eo2, PySem.F.excBase_IndexError, PySem.F.store_IndexError, PySem.W.kxs_IndexError, es2, en2, ef2, eh2, ek2, ex2, et2, ed2, ev2, eu2, em2, PySem.W.mg_none_of X G nsG, opG, ntG, _, _, _, _, _, _, _, _, _, _, _, _, _, _, _, _, _, _, _, _, _, _, _, _, _, _, _, _, _, _, _, _, el2, eq2, ew2, ey2, ez2, ea2, eb2⟩
  have O3 : Own0 K mg "NoBack" C3 "ValueError" "ValueError.__new__" "ValueError.__init__" [.type "ValueError", .type "Exception", .type "BaseException", .type "object"] := ⟨PySem.F.excBase_ValueError, ei3, PySem.W.mg_of X G eg3, ek3, ex3, et3⟩
  have O5 : XC.Own l.prog K mg "NoWeb" "row" C5 fI5 "ValueError" "ValueError.__new__" "ValueError.__init__" [.type "ValueError", .type "Exception", .type "BaseException", .type "object"] := ⟨XC.fld_row, PySem.W.mg_of X G eg5, ei5, eo5, PySem.F.excBase_ValueError, PySem.F.store_ValueError, PySem.W.kxs_ValueError, es5, en5, ef5, eh5, ek5, ex5, et5, ed5, ev5, eu5, em5, PySem.W.mg_none_of X G nsG, opG, ntG, _, _, _, _, _, _, _, _, _, _, _, _, _, _, _, _, _, _, _, _, _, _, _, _, _, _, _, _, _, _, _, _, el5, eq5, ew5, ey5, ez5, ea5, eb5⟩
  have O6 : XC.Own l.prog K mg "NoShelf" "part" C6 fI6 "ValueError" "ValueError.__new__" "ValueError.__init__" [.type "ValueError", .type "Exception", .type "BaseException", .type "object"] := ⟨XC.fld_part, PySem.W.mg_of X G eg6, ei6, eo6, PySem.F.excBase_ValueError, PySem.F.store_ValueError, PySem.W.kxs_ValueError, es6, en6, ef6, eh6, ek6, ex6, et6, ed6, ev6, eu6, em6, PySem.W.mg_none_of X G nsG, opG, ntG, _, _, _, _, _, _, _, _, _, _, _, _, _, _, _, _, _, _, _, _, _, _, _, _, _, _, _, _, _, _, _, _, el6, eq6, ew6, ey6, ez6, ea6, eb6⟩
  have EM : ErrM K mg C4 C5 C6 C3 C1 C2 := ⟨PySem.W.mg_of X G eg4, PySem.W.mg_of X G eg5, PySem.W.mg_of X G eg6, PySem.W.mg_of X G eg3, PySem.W.mg_of X G eg1, PySem.W.mg_of X G eg2, PySem.W.mg_none_of X G veN, PySem.W.mg_none_of X G ieN, PySem.W.mg_none_of X G leN, ⟨by rw [ec5]; rfl, ga5, gg5, ex5, gc5, spG, tkG, mo5, ed5⟩, ⟨by rw [ec6]; rfl, ga6, gg6, ex6, gc6, spG, tkG, mo6, ed6⟩, ⟨by rw [ec1]; rfl, ga1, gg1, ex1, gc1, spG, tkG, mo1, ed1⟩, ⟨by rw [ec2]; rfl, ga2, gg2, ex2, gc2, spG, tkG, mo2, ed2⟩, en5, en6, en1, en2, xwh, xfh, xrr, xss, kww, kwf, kfw, kff, kfv, kfb, ksi, kso, krl, kro⟩
  have D : Gb K mg := ⟨⟨_, PySem.W.mg_of X G m1⟩, ⟨_, PySem.W.mg_of X G m2⟩, ⟨_, PySem.W.mg_of X G m3⟩, ⟨aW, PySem.W.mg_of X G mW, fun H => .inr ⟨_, _, _, mW2, rfl, rfl, by show 3 ≤ sizeLine; decide, .cons ⟨_, rfl⟩ (.cons ⟨_, rfl⟩ (.cons ⟨_, rfl⟩ .nil))⟩⟩, ⟨aZ, PySem.W.mg_of X G mZ, fun H => .inr ⟨_, _, _, mZ2, rfl, rfl, by show 4 ≤ sizeLine; decide, .cons ⟨_, rfl⟩ (.cons ⟨_, rfl⟩ (.cons ⟨_, rfl⟩ (.cons ⟨_, rfl⟩ .nil)))⟩⟩⟩
  have DW : GbW mg := ⟨⟨_, PySem.W.mg_of X G m1⟩, ⟨_, PySem.W.mg_of X G m4⟩, ⟨_, PySem.W.mg_of X G m5⟩⟩
  have DG : GW.GbW mg := ⟨⟨_, PySem.W.mg_of X G m1⟩, ⟨_, PySem.W.mg_of X G m4⟩, ⟨_, PySem.W.mg_of X G m5⟩⟩
  have clsCS : Cls K CS := ⟨cpCS, cdCS, coCS, csCS⟩
  have clsCW : Cls K CW := ⟨cpCW, cdCW, coCW, csCW⟩
  have FCSinit : FunD K "__init__" "Shelf.__init__" (defArgs sS_init) (defBody sS_init) (defScope sS_init) [.int 4, .str "last", .non, .non] [] fCSinit _ := ⟨⟨ocCSinit, odCSinit, _, kVCSinit, dcCSinit, pmCSinit, anCSinit, cdCSinit, ctCSinit, slCSinit, rfl, mlCSinit, mcCSinit, .inr ⟨by simp, aDCSinit, _, [.int 4 tkCSinit_0, .str "last" tkCSinit_1, .none, .none], nDCSinit, rfl, mqCSinit, rfl, .cons ⟨_, rfl⟩ (.cons ⟨_, rfl⟩ (.cons rfl (.cons rfl (.nil))))⟩, .inl rfl⟩, mkCSinit⟩
  have FCSlay := fun_mk (st := sS_lay) mlCSlay mcCSlay mkCSlay
  have MCSlay : Meth K CS "lay" fCSlay := ⟨maCSlay, miCSlay, mkCSlay⟩
  have FCScounts := fun_mk (st := sS_counts) mlCScounts mcCScounts mkCScounts
  have MCScounts : Meth K CS "counts" fCScounts := ⟨maCScounts, miCScounts, mkCScounts⟩
  have FCSask := fun_mk (st := sS_ask) mlCSask mcCSask mkCSask
  have MCSask : Meth K CS "ask" fCSask := ⟨maCSask, miCSask, mkCSask⟩
  have FCStwin := fun_mk (st := sS_twin) mlCStwin mcCStwin mkCStwin
  have MCStwin : Meth K CS "twin" fCStwin := ⟨maCStwin, miCStwin, mkCStwin⟩
  have FCSeq := fun_mk (st := sS_eq) mlCSeq mcCSeq mkCSeq
  have MCSeq : Meth K CS "__eq__" fCSeq := ⟨maCSeq, miCSeq, mkCSeq⟩
  have FCWstep : FunD K "step" "Walk.step" (defArgs sW_step) (defBody sW_step) (defScope sW_step) [.non, .non] [] fCWstep _ := ⟨⟨ocCWstep, odCWstep, _, kVCWstep, dcCWstep, pmCWstep, anCWstep, cdCWstep, ctCWstep, slCWstep, rfl, mlCWstep, mcCWstep, .inr ⟨by simp, aDCWstep, _, [.none, .none], nDCWstep, rfl, mqCWstep, rfl, .cons rfl (.cons rfl (.nil))⟩, .inl rfl⟩, mkCWstep⟩
  have FCWinit := fun_mk (st := sW_init) mlCWinit mcCWinit mkCWinit
  have MCWinit : Meth K CW "__init__" fCWinit := ⟨maCWinit, miCWinit, mkCWinit⟩
  have FCWundo := fun_mk (st := sW_undo) mlCWundo mcCWundo mkCWundo
  have MCWundo : Meth K CW "undo" fCWundo := ⟨maCWundo, miCWundo, mkCWundo⟩
  have FCWat := fun_mk (st := sW_at) mlCWat mcCWat mkCWat
  have MCWat : Meth K CW "at" fCWat := ⟨maCWat, miCWat, mkCWat⟩
  have FCWrun := fun_mk (st := sW_run) mlCWrun mcCWrun mkCWrun
  have MCWrun : Meth K CW "run" fCWrun := ⟨maCWrun, miCWrun, mkCWrun⟩
  have FCWcounts := fun_mk (st := sW_counts) mlCWcounts mcCWcounts mkCWcounts
  have MCWcounts : Meth K CW "counts" fCWcounts := ⟨maCWcounts, miCWcounts, mkCWcounts⟩
  have FCWshelf := fun_mk (st := sW_shelf) mlCWshelf mcCWshelf mkCWshelf
  have MCWshelf : Meth K CW "shelf" fCWshelf := ⟨maCWshelf, miCWshelf, mkCWshelf⟩
  have FCWlen := fun_mk (st := sW_len) mlCWlen mcCWlen mkCWlen
  have MCWlen : Meth K CW "__len__" fCWlen := ⟨maCWlen, miCWlen, mkCWlen⟩
  have MCWstep : Meth K CW "step" fCWstep := ⟨maCWstep, miCWstep, mkCWstep⟩
  have SC : ShC K CS := ⟨clsCS, cfCS0, cfCS1, cfCS2, cfCS3, cfCS4, cfCS5⟩
  have WC : WkC K CW := ⟨clsCW, cfCW0, cfCW1, cfCW2, cfCW3, cfCW4⟩
  have IS : IsS K mg CS := ⟨PySem.W.mg_of X G cgCS, clA, spG, tkG, clD, ktS, ⟨kt0, kt1, kt2, kt3, kt4, kt5, kt6⟩⟩
  have v1 := ok_whole (P := l.prog) (w := w) (base := base) T1 B
  have v2 := ok_room (P := l.prog) (w := w) (base := base) T2 D v1
  have v3 := ok_slot (P := l.prog) (w := w) (base := base) T8 D v1 v2
  have v4 := ok_slots (P := l.prog) (w := w) (base := base) T10 B D v3
  have vh := ok_how (P := l.prog) (w := w) (base := base) T7
  have v5 := ok_bits (P := l.prog) (w := w) (base := base) T11 B (ok_bit T9 v1) vh
  have v6 := ok_part (P := l.prog) (w := w) (base := base) T22 (ok_way T5 B D) (ok_size T6 D v1) v4 v5
  have mk : MakV l.prog w K mg base 6 CS (spInitV CS) := makV_of ⟨cmCS, maCSinit, miCSinit, ckCS⟩ (PySem.W.mg_of X G cgCS) FCSinit (ok_init SC D B FCSinit v6 vh)
  have mk0 : MakD l.prog w K mg base 6 CS [.int 4, .str "last", .non, .non] (spInit2 CS) := mak0_of ⟨cmCS, maCSinit, miCSinit, ckCS⟩ (PySem.W.mg_of X G cgCS) FCSinit (ok_init2 SC D B FCSinit v6 vh)
  have mk1 : MakD l.prog w K mg base 6 CS [.str "last", .non, .non] (spInit2 CS) := mak1_of ⟨cmCS, maCSinit, miCSinit, ckCS⟩ (PySem.W.mg_of X G cgCS) FCSinit (ok_init2 SC D B FCSinit v6 vh)
  have mk3 : MakD l.prog w K mg base 6 CS [.non] (spInit3 CS) := mak3_of ⟨cmCS, maCSinit, miCSinit, ckCS⟩ (PySem.W.mg_of X G cgCS) FCSinit (ok_init3 SC D B FCSinit v6 vh)
  have a1 := ok_asked (P := l.prog) (w := w) (base := base) T16 (ok_tree T15 B (ok_led T13) (ok_away T14 B)) (ok_put T12 B)
  have s3 : MetS l.prog w K mg base 1 CS "lay" (spTwo CS "slots" "bits") := ⟨_, _, clsCS, MCSlay, okS_lay SC FCSlay, (FCSlay).binds (ps := ["self"]) fun _ _ _ _ _ _ us hl => match us, hl with | [_], _ => rfl⟩
  have s4 : MetS l.prog w K mg base 1 CS "counts" (spTwo CS "near" "far") := ⟨_, _, clsCS, MCScounts, okS_counts SC FCScounts, (FCScounts).binds (ps := ["self"]) fun _ _ _ _ _ _ us hl => match us, hl with | [_], _ => rfl⟩
  have s6 : MetS l.prog w K mg base 8 CS "twin" (spTwin CS) := ⟨_, _, clsCS, MCStwin, okS_twin SC FCStwin mk, (FCStwin).binds (ps := ["self"]) fun _ _ _ _ _ _ us hl => match us, hl with | [_], _ => rfl⟩
  have s5 : MetA l.prog w K mg base 4 CS "ask" ["self", "room"] (spAsk CS) := ⟨_, _, clsCS, MCSask, okS_ask SC FCSask (ok_look_room T23 v2) a1 s3, (FCSask).binds (ps := ["self", "room"]) fun _ _ _ _ _ _ us hl => match us, hl with | [_, _], _ => rfl⟩
  have s7 : MetE l.prog w K mg base 1 CS (spEqS CS) := ⟨⟨_, _, maCSeq, miCSeq, okS_eq SC IS B FCSeq, (FCSeq).binds (ps := ["self", "other"]) fun _ _ _ _ _ _ us hl => match us, hl with | [_, _], _ => rfl⟩, neCS, obCS, ⟨na0, na1, na2, na3, na4, na5, na6⟩, ⟨nb0, nb1, nb2, nb3, nb4, nb5, nb6⟩⟩
  have w1 := ok_wholeI (P := l.prog) (w := w) (base := base) T1 B
  have w2 := ok_roomI (P := l.prog) (w := w) (base := base) T2 DW w1
  have w3 := ok_rising (P := l.prog) (w := w) (base := base) T3 B
  have w4 := ok_row (P := l.prog) (w := w) (base := base) T18 B (ok_rooms T4 B w2 w3) (ok_tos T17 B w1 w3)
  have w6 := ok_look (P := l.prog) (w := w) (base := base) T20 B DW w4 (ok_rooms_in T19 B)
  have g1 := GW.ok_whole (P := l.prog) (w := w) (base := base) T1 B
  have g2 := GW.ok_room (P := l.prog) (w := w) (base := base) T2 DG g1
  have g3 := GW.ok_rising (P := l.prog) (w := w) (base := base) T3 B
  have g4 := GW.ok_row (P := l.prog) (w := w) (base := base) T18 B (GW.ok_rooms T4 B g2 g3) (GW.ok_tos T17 B g1 g3)
  have g6 := GW.ok_look (P := l.prog) (w := w) (base := base) O5 T20 B DG g4 (GW.ok_rooms_in T19 B)
  have iW := okW_init (P := l.prog) (w := w) (base := base) SC IS WC B FCWinit w6 s6 s4
  have kW : MakN l.prog w K mg base 9 "Walk" CW ["self", "web", "shelf"] (spInitW CS CW) := ⟨_, _, ⟨cmCW, maCWinit, miCWinit, ckCW⟩, iW, PySem.W.mg_of X G cgCW, (FCWinit).binds (ps := ["self", "web", "shelf"]) fun _ _ _ _ _ _ us hl => match us, hl with | [_, _, _], _ => rfl⟩
  have kK := walkK_of ⟨cmCW, maCWinit, miCWinit, ckCW⟩ (PySem.W.mg_of X G cgCW) FCWinit iW
  have kX : MakX l.prog w K mg base 9 "Walk" CW ["self", "web", "shelf"] (spInitX K CS CW C5 C6) := ⟨_, _, ⟨cmCW, maCWinit, miCWinit, ckCW⟩, okW_initX IS O6 B FCWinit g6 s6 s4 WC, PySem.W.mg_of X G cgCW, (FCWinit).binds (ps := ["self", "web", "shelf"]) fun _ _ _ _ _ _ us hl => match us, hl with | [_, _, _], _ => rfl⟩
  have q1 : MetS l.prog w K mg base 1 CW "at" (spFld CW "place") := ⟨_, _, clsCW, MCWat, okW_at WC FCWat, (FCWat).binds (ps := ["self"]) fun _ _ _ _ _ _ us hl => match us, hl with | [_], _ => rfl⟩
  have q2 : MetS l.prog w K mg base 1 CW "run" (spRunW CW) := ⟨_, _, clsCW, MCWrun, okW_run WC FCWrun, (FCWrun).binds (ps := ["self"]) fun _ _ _ _ _ _ us hl => match us, hl with | [_], _ => rfl⟩
  have q3 : MetS l.prog w K mg base 2 CW "counts" (spCountsW CS CW) := ⟨_, _, clsCW, MCWcounts, okW_counts SC WC FCWcounts s4, (FCWcounts).binds (ps := ["self"]) fun _ _ _ _ _ _ us hl => match us, hl with | [_], _ => rfl⟩
  have q4 : MetS l.prog w K mg base 9 CW "shelf" (spShelfW CS CW) := ⟨_, _, clsCW, MCWshelf, okW_shelf SC WC FCWshelf s6, (FCWshelf).binds (ps := ["self"]) fun _ _ _ _ _ _ us hl => match us, hl with | [_], _ => rfl⟩
  have q5 : MetD l.prog w K mg base 1 CW "__len__" (spLenW CW) := ⟨_, _, maCWlen, miCWlen, fnG_ok (okW_len WC B FCWlen), (FCWlen).binds (ps := ["self"]) fun _ _ _ _ _ _ us hl => match us, hl with | [_], _ => rfl⟩
  have q6 : MetX l.prog w K mg base 1 CW "undo" ["self"] (spUndoW CW C3) := ⟨_, _, clsCW, MCWundo, okW_undo WC B O3 FCWundo, (FCWundo).binds (ps := ["self"]) fun _ _ _ _ _ _ us hl => match us, hl with | [_], _ => rfl⟩
  have q7 := step_of clsCW MCWstep FCWstep (okW_step (P := l.prog) (w := w) (base := base) (mg := mg) SC WC B O1 O2 FCWstep (ok_askof T21 B v2) (ok_wayon T24 B v1) s6 s5)
  have t1 := ok_take (P := l.prog) (w := w) (base := base) T26
  have t2 := ok_picked (P := l.prog) (w := w) (base := base) T27 B t1
  have tyW : ∀ (H : Hp) (x dx : Addr) (fs : List (Str × V)), H x = some (.ins CW dx fs) → TyX K H (.ref x) (.ref CW) := fun H x dx fs h => .base (.ins h clsCW clAW spG tkG clDW)
  exact ok_law (CN := C5) (CF := C6) IS F34 B ⟨mk0, mk3, kW, kK, q1, q2, q3, q4, q5, cbCW, q6, q7.1, q7.2.1, q7.2.2, s3, s7, ok_pool T25 B, t1, ok_lweb T29 B t1 t2 (ok_ltos T28 B t1), ok_made EM T30 B kX, ok_noroom EM T32 B q7.1, ok_over EM T31 B q7.1, ok_long ⟨mk1, kW, q7.1, q5, q1, q2⟩ T33 B, kWS, tyW⟩
end Su
open PySem PySem.W PyProof.Rows
set_option maxRecDepth 100000 in
set_option maxHeartbeats 0 in
theorem PySem.Challenge.cw_surehand_k20_walks_made_holds : PySem.Challenge.rw_surehand_k20_walks_made.Holds := by
  w_on; o_law; k_head; (case hw => w_witness2)
  k_fill
  refine Su.walk_ofG (l := PySem.Challenge.rw_surehand_k20_walks_made) (n := 63) (k := 12) (x := "_law_script") (CX := L2.CX0) (sp := Su.spLaw) rfl (by decide) rfl ⟨rfl, by decide, by decide⟩ (fun w h Y => PySem.W.kIn_of Y) ?F (fun _ _ a ns hl hS => ⟨a, ns, rfl, hS, hl, fun _ => rfl⟩) (fun _ _ _ _ h => h)
  case F =>
    intro w mg fa h KX G hmg
    refine' Su.all_mk KX G hmg ?a1 ?l1 ?c1 ?k1 ?a2 ?l2 ?c2 ?k2 ?a3 ?l3 ?c3 ?k3 ?a4 ?l4 ?c4 ?k4 ?a5 ?l5 ?c5 ?k5 ?a6 ?l6 ?c6 ?k6 ?a7 ?l7 ?c7 ?k7 ?a8 ?l8 ?c8 ?k8 ?a9 ?l9 ?c9 ?k9 ?a10 ?l10 ?c10 ?k10 ?a11 ?l11 ?c11 ?k11 ?a12 ?l12 ?c12 ?k12 ?a13 ?l13 ?c13 ?k13 ?a14 ?l14 ?c14 ?k14 ?a15 ?l15 ?c15 ?k15 ?a16 ?l16 ?c16 ?k16 ?a17 ?l17 ?c17 ?k17 ?a18 ?l18 ?c18 ?k18 ?a19 ?l19 ?c19 ?k19 ?a20 ?l20 ?c20 ?k20 ?a21 ?l21 ?c21 ?k21 ?a22 ?l22 ?c22 ?k22 ?a23 ?l23 ?c23 ?k23 ?a24 ?l24 ?c24 ?k24 ?a25 ?l25 ?c25 ?k25 ?a26 ?l26 ?c26 ?k26 ?a27 ?l27 ?c27 ?k27 ?a28 ?l28 ?c28 ?k28 ?a29 ?l29 ?c29 ?k29 ?a30 ?l30 ?c30 ?k30 ?a31 ?l31 ?c31 ?k31 ?a32 ?l32 ?c32 ?k32 ?a33 ?l33 ?c33 ?k33 ?a34 ?l34 ?c34 ?k34 ?m1 ?m2 ?m3 ?m4 ?m5 ?eg1 ?ek1 ?ex1 ?et1 ?ec1 ?ga1 ?gg1 ?gc1 ?mo1 ?ed1 ?ei1 ?eo1 ?es1 ?en1 ?ef1 ?eh1 ?ev1 ?eu1 ?em1 ?el1 ?eq1 ?ew1 ?ey1 ?ez1 ?ea1 ?eb1 ?eg2 ?ek2 ?ex2 ?et2 ?ec2 ?ga2 ?gg2 ?gc2 ?mo2 ?ed2 ?ei2 ?eo2 ?es2 ?en2 ?ef2 ?eh2 ?ev2 ?eu2 ?em2 ?el2 ?eq2 ?ew2 ?ey2 ?ez2 ?ea2 ?eb2 ?eg3 ?ek3 ?ex3 ?et3 ?ec3 ?ga3 ?gg3 ?gc3 ?mo3 ?ed3 ?ei3 ?eg4 ?eg5 ?ek5 ?ex5 ?et5 ?ec5 ?ga5 ?gg5 ?gc5 ?mo5 ?ed5 ?ei5 ?eo5 ?es5 ?en5 ?ef5 ?eh5 ?ev5 ?eu5 ?em5 ?el5 ?eq5 ?ew5 ?ey5 ?ez5 ?ea5 ?eb5 ?eg6 ?ek6 ?ex6 ?et6 ?ec6 ?ga6 ?gg6 ?gc6 ?mo6 ?ed6 ?ei6 ?eo6 ?es6 ?en6 ?ef6 ?eh6 ?ev6 ?eu6 ?em6 ?el6 ?eq6 ?ew6 ?ey6 ?ez6 ?ea6 ?eb6 ?spG ?tkG ?nsG ?opG ?ntG ?veN ?ieN ?leN ?xwh ?xfh ?xrr ?xss ?kww ?kwf ?kfw ?kff ?kfv ?kfb ?ksi ?kso ?krl ?kro ?mW ?mW2 ?mZ ?mZ2 ?cgCS ?ckCS ?cmCS ?cpCS ?cdCS ?coCS ?csCS ?cfCS0 ?cfCS1 ?cfCS2 ?cfCS3 ?cfCS4 ?cfCS5 ?neCS ?obCS ?na0 ?na1 ?na2 ?na3 ?na4 ?na5 ?na6 ?nb0 ?nb1 ?nb2 ?nb3 ?nb4 ?nb5 ?nb6 ?kt0 ?kt1 ?kt2 ?kt3 ?kt4 ?kt5 ?kt6 ?ktS ?clA ?clD ?cgCW ?ckCW ?cmCW ?cpCW ?cdCW ?coCW ?csCW ?cfCW0 ?cfCW1 ?cfCW2 ?cfCW3 ?cfCW4 ?cbCW ?clAW ?clDW ?kWS ?maCSinit ?miCSinit ?mkCSinit ?mlCSinit ?mcCSinit ?mqCSinit ?maCSlay ?miCSlay ?mkCSlay ?mlCSlay ?mcCSlay ?maCScounts ?miCScounts ?mkCScounts ?mlCScounts ?mcCScounts ?maCSask ?miCSask ?mkCSask ?mlCSask ?mcCSask ?maCStwin ?miCStwin ?mkCStwin ?mlCStwin ?mcCStwin ?maCSeq ?miCSeq ?mkCSeq ?mlCSeq ?mcCSeq ?maCWstep ?miCWstep ?mkCWstep ?mlCWstep ?mcCWstep ?mqCWstep ?maCWinit ?miCWinit ?mkCWinit ?mlCWinit ?mcCWinit ?maCWundo ?miCWundo ?mkCWundo ?mlCWundo ?mcCWundo ?maCWat ?miCWat ?mkCWat ?mlCWat ?mcCWat ?maCWrun ?miCWrun ?mkCWrun ?mlCWrun ?mcCWrun ?maCWcounts ?miCWcounts ?mkCWcounts ?mlCWcounts ?mcCWcounts ?maCWshelf ?miCWshelf ?mkCWshelf ?mlCWshelf ?mcCWshelf ?maCWlen ?miCWlen ?mkCWlen ?mlCWlen ?mcCWlen ?z1 ?z2 ?z3 ?z4 ?z5 ?z6 ?z7 ?z8 ?z9 ?z10 ?z11 ?z12 ?z13 ?z14 ?z15 ?z16 ?z17 ?z18 ?z19 ?z20 ?z21
    (case a1 => k_is); (case l1 => k_is); (case c1 => k_is); (case k1 => k_is); (case a2 => k_is); (case l2 => k_is)
    (case c2 => k_is); (case k2 => k_is); (case a3 => k_is); (case l3 => k_is); (case c3 => k_is); (case k3 => k_is)
    (case a4 => k_is); (case l4 => k_is); (case c4 => k_is); (case k4 => k_is); (case a5 => k_is); (case l5 => k_is)
    (case c5 => k_is); (case k5 => k_is); (case a6 => k_is); (case l6 => k_is); (case c6 => k_is); (case k6 => k_is)
    (case a7 => k_is); (case l7 => k_is); (case c7 => k_is); (case k7 => k_is); (case a8 => k_is); (case l8 => k_is)
    (case c8 => k_is); (case k8 => k_is); (case a9 => k_is); (case l9 => k_is); (case c9 => k_is); (case k9 => k_is)
    (case a10 => k_is); (case l10 => k_is); (case c10 => k_is); (case k10 => k_is); (case a11 => k_is); (case l11 => k_is)
    (case c11 => k_is); (case k11 => k_is); (case a12 => k_is); (case l12 => k_is); (case c12 => k_is); (case k12 => k_is)
    (case a13 => k_is); (case l13 => k_is); (case c13 => k_is); (case k13 => k_is); (case a14 => k_is); (case l14 => k_is)
    (case c14 => k_is); (case k14 => k_is); (case a15 => k_is); (case l15 => k_is); (case c15 => k_is); (case k15 => k_is)
    (case a16 => k_is); (case l16 => k_is); (case c16 => k_is); (case k16 => k_is); (case a17 => k_is); (case l17 => k_is)
    (case c17 => k_is); (case k17 => k_is); (case a18 => k_is); (case l18 => k_is); (case c18 => k_is); (case k18 => k_is)
    (case a19 => k_is); (case l19 => k_is); (case c19 => k_is); (case k19 => k_is); (case a20 => k_is); (case l20 => k_is)
    (case c20 => k_is); (case k20 => k_is); (case a21 => k_is); (case l21 => k_is); (case c21 => k_is); (case k21 => k_is)
    (case a22 => k_is); (case l22 => k_is); (case c22 => k_is); (case k22 => k_is); (case a23 => k_is); (case l23 => k_is)
    (case c23 => k_is); (case k23 => k_is); (case a24 => k_is); (case l24 => k_is); (case c24 => k_is); (case k24 => k_is)
    (case a25 => k_is); (case l25 => k_is); (case c25 => k_is); (case k25 => k_is); (case a26 => k_is); (case l26 => k_is)
    (case c26 => k_is); (case k26 => k_is); (case a27 => k_is); (case l27 => k_is); (case c27 => k_is); (case k27 => k_is)
    (case a28 => k_is); (case l28 => k_is); (case c28 => k_is); (case k28 => k_is); (case a29 => k_is); (case l29 => k_is)
    (case c29 => k_is); (case k29 => k_is); (case a30 => k_is); (case l30 => k_is); (case c30 => k_is); (case k30 => k_is)
    (case a31 => k_is); (case l31 => k_is); (case c31 => k_is); (case k31 => k_is); (case a32 => k_is); (case l32 => k_is)
    (case c32 => k_is); (case k32 => k_is); (case a33 => k_is); (case l33 => k_is); (case c33 => k_is); (case k33 => k_is)
    (case a34 => k_is); (case l34 => k_is); (case c34 => k_is); (case k34 => k_is); (case m1 => k_is); (case m2 => k_is)
    (case m3 => k_is); (case m4 => k_is); (case m5 => k_is); (case eg1 => k_is); (case ek1 => k_is); (case ex1 => k_is)
    (case et1 => k_is); (case ec1 => k_is); (case ga1 => k_is); (case gg1 => k_is); (case gc1 => k_is); (case mo1 => k_is)
    (case ed1 => k_is); (case ei1 => kx_is); (case eo1 => kx_is); (case es1 => k_is); (case en1 => k_is); (case ef1 => k_is)
    (case eh1 => k_is); (case ev1 => k_is); (case eu1 => ks_is); (case em1 => k_is); (case el1 => k_is); (case eq1 => k_is)
    (case ew1 => k_is); (case ey1 => rfl); (case ez1 => first | rfl | decide +kernel); (case ea1 => first | rfl | decide +kernel); (case eb1 => k_is); (case eg2 => k_is)
    (case ek2 => k_is); (case ex2 => k_is); (case et2 => k_is); (case ec2 => k_is); (case ga2 => k_is); (case gg2 => k_is)
    (case gc2 => k_is); (case mo2 => k_is); (case ed2 => k_is); (case ei2 => kx_is); (case eo2 => kx_is); (case es2 => k_is)
    (case en2 => k_is); (case ef2 => k_is); (case eh2 => k_is); (case ev2 => k_is); (case eu2 => ks_is); (case em2 => k_is)
    (case el2 => k_is); (case eq2 => k_is); (case ew2 => k_is); (case ey2 => rfl); (case ez2 => first | rfl | decide +kernel); (case ea2 => first | rfl | decide +kernel)
    (case eb2 => k_is); (case eg3 => k_is); (case ek3 => k_is); (case ex3 => k_is); (case et3 => k_is); (case ec3 => k_is)
    (case ga3 => k_is); (case gg3 => k_is); (case gc3 => k_is); (case mo3 => k_is); (case ed3 => k_is); (case ei3 => k_exc)
    (case eg4 => k_is); (case eg5 => k_is); (case ek5 => k_is); (case ex5 => k_is); (case et5 => k_is); (case ec5 => k_is)
    (case ga5 => k_is); (case gg5 => k_is); (case gc5 => k_is); (case mo5 => k_is); (case ed5 => k_is); (case ei5 => kx_is)
    (case eo5 => kx_is); (case es5 => k_is); (case en5 => k_is); (case ef5 => k_is); (case eh5 => k_is); (case ev5 => k_is)
    (case eu5 => ks_is); (case em5 => k_is); (case el5 => k_is); (case eq5 => k_is); (case ew5 => k_is); (case ey5 => rfl)
    (case ez5 => first | rfl | decide +kernel); (case ea5 => first | rfl | decide +kernel); (case eb5 => k_is); (case eg6 => k_is); (case ek6 => k_is); (case ex6 => k_is)
    (case et6 => k_is); (case ec6 => k_is); (case ga6 => k_is); (case gg6 => k_is); (case gc6 => k_is); (case mo6 => k_is)
    (case ed6 => k_is); (case ei6 => kx_is); (case eo6 => kx_is); (case es6 => k_is); (case en6 => k_is); (case ef6 => k_is)
    (case eh6 => k_is); (case ev6 => k_is); (case eu6 => ks_is); (case em6 => k_is); (case el6 => k_is); (case eq6 => k_is)
    (case ew6 => k_is); (case ey6 => rfl); (case ez6 => first | rfl | decide +kernel); (case ea6 => first | rfl | decide +kernel); (case eb6 => k_is); (case spG => k_is)
    (case tkG => k_is); (case nsG => k_is); (case opG => k_is); (case ntG => first | rfl | decide +kernel); (case veN => k_is); (case ieN => k_is)
    (case leN => k_is); (case xwh => kts_exm); (case xfh => kts_exm); (case xrr => kts_exm); (case xss => kts_exm); (case kww => kit_is)
    (case kwf => kit_is); (case kfw => kit_is); (case kff => kit_is); (case kfv => kit_is); (case kfb => kit_is); (case ksi => kit_is)
    (case kso => kit_is); (case krl => kit_is); (case kro => kit_is); (case mW => k_is); (case mW2 => k_is); (case mZ => k_is)
    (case mZ2 => k_is); (case cgCS => k_is); (case ckCS => k_is); (case cmCS => k_is); (case cpCS => k_is); (case cdCS => k_is)
    (case coCS => k_is); (case csCS => k_is); (case cfCS0 => k_is); (case cfCS1 => k_is); (case cfCS2 => k_is); (case cfCS3 => k_is)
    (case cfCS4 => k_is); (case cfCS5 => k_is); (case neCS => k_is); (case obCS => k_is); (case na0 => k_is); (case na1 => k_is)
    (case na2 => k_is); (case na3 => k_is); (case na4 => k_is); (case na5 => k_is); (case na6 => k_is); (case nb0 => k_is)
    (case nb1 => k_is); (case nb2 => k_is); (case nb3 => k_is); (case nb4 => k_is); (case nb5 => k_is); (case nb6 => k_is)
    (case kt0 => kit_is); (case kt1 => kit_is); (case kt2 => kit_is); (case kt3 => kit_is); (case kt4 => kit_is); (case kt5 => kit_is)
    (case kt6 => kit_is); (case ktS => kit_is); (case clA => k_is); (case clD => k_is); (case cgCW => k_is); (case ckCW => k_is)
    (case cmCW => k_is); (case cpCW => k_is); (case cdCW => k_is); (case coCW => k_is); (case csCW => k_is); (case cfCW0 => k_is)
    (case cfCW1 => k_is); (case cfCW2 => k_is); (case cfCW3 => k_is); (case cfCW4 => k_is); (case cbCW => k_is); (case clAW => k_is)
    (case clDW => k_is); (case kWS => kit_is); (case maCSinit => k_is); (case miCSinit => k_is); (case mkCSinit => k_is); (case mlCSinit => k_is)
    (case mcCSinit => k_is); (case mqCSinit => k_is); (case maCSlay => k_is); (case miCSlay => k_is); (case mkCSlay => k_is); (case mlCSlay => k_is)
    (case mcCSlay => k_is); (case maCScounts => k_is); (case miCScounts => k_is); (case mkCScounts => k_is); (case mlCScounts => k_is); (case mcCScounts => k_is)
    (case maCSask => k_is); (case miCSask => k_is); (case mkCSask => k_is); (case mlCSask => k_is); (case mcCSask => k_is); (case maCStwin => k_is)
    (case miCStwin => k_is); (case mkCStwin => k_is); (case mlCStwin => k_is); (case mcCStwin => k_is); (case maCSeq => k_is); (case miCSeq => k_is)
    (case mkCSeq => k_is); (case mlCSeq => k_is); (case mcCSeq => k_is); (case maCWstep => k_is); (case miCWstep => k_is); (case mkCWstep => k_is)
    (case mlCWstep => k_is); (case mcCWstep => k_is); (case mqCWstep => k_is); (case maCWinit => k_is); (case miCWinit => k_is); (case mkCWinit => k_is)
    (case mlCWinit => k_is); (case mcCWinit => k_is); (case maCWundo => k_is); (case miCWundo => k_is); (case mkCWundo => k_is); (case mlCWundo => k_is)
    (case mcCWundo => k_is); (case maCWat => k_is); (case miCWat => k_is); (case mkCWat => k_is); (case mlCWat => k_is); (case mcCWat => k_is)
    (case maCWrun => k_is); (case miCWrun => k_is); (case mkCWrun => k_is); (case mlCWrun => k_is); (case mcCWrun => k_is); (case maCWcounts => k_is)
    (case miCWcounts => k_is); (case mkCWcounts => k_is); (case mlCWcounts => k_is); (case mcCWcounts => k_is); (case maCWshelf => k_is); (case miCWshelf => k_is)
    (case mkCWshelf => k_is); (case mlCWshelf => k_is); (case mcCWshelf => k_is); (case maCWlen => k_is); (case miCWlen => k_is); (case mkCWlen => k_is)
    (case mlCWlen => k_is); (case mcCWlen => k_is); (case z1 => k_is); (case z2 => k_is); (case z3 => k_is); (case z4 => k_is)
    (case z5 => k_is); (case z6 => k_is); (case z7 => k_is); (case z8 => k_is); (case z9 => k_is); (case z10 => k_is)
    (case z11 => k_is); (case z12 => k_is); (case z13 => k_is); (case z14 => k_is); (case z15 => k_is); (case z16 => k_is)
    (case z17 => k_is); (case z18 => k_is); (case z19 => k_is); (case z20 => k_is); (case z21 => k_is)

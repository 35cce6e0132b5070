import PyProof.Rows.All
import Wide.All
import OpenK.AllK
import Wide.FinOn
import HandS.ForMost
import HandS.SortInts
import HandS.TupAny
import HandS.Conv
import KE.KIndexOf
import PyProof.ReprRoads
import PyProof.ReprLen
import HandS.IsInst
import HandS.Strs
import HandS.Rev
import HandS.Style
import HandS.TupLe
import HandS.Zip
import HandS.Comp
import HandS.SetBool
import HandS.SetFor
import HandS.TupMul
import HandS.More
import HandS.ForExc
import HandS.ExcInit
import HandS.ExcValue
import KE.KExcSuper
import KE.KExcIs
import KE.KIsAll
import HandS.Exc
import KE.KExcInit
import KE.KSuper
import HandS.WordsExc
import HandS.ExcOwn
import PyProof.CallFns
import PyProof.WalksMore
import HandS.TryOnly
import KE.KDictZip
import PyProof.ListNew
import HandS.DictComp
import HandS.Iter
import HandS.OwnEq
import KE.KCallOwn
import PyProof.Conv_bool
import PyProof.FactsAll.object
import PyProof.EqKinds
import PyProof.InstEq
import PyProof.InstNe
import HandS.Dict
import PyProof.FactsAll.NoneType
import PyProof.FactsAll.int
import PyProof.FactsAll.bool
import PyProof.FactsAll.str
import PyProof.FactsAll.list
import PyProof.FactsAll.tuple
import PyProof.FactsAll.dict
import HandS.Codes
import HandS.FStr
import HandS.Text
import PyProof.StrOps2
import KE.KExcLine
import KE.RegKTryMore
import PyProof.ExcBaseAll.ValueError
import PyProof.InstStoreFacts
import PySem.Challenge.RW_surehand_k61_called_and_ordered
set_option Elab.async false
set_option linter.all false
set_option maxRecDepth 100000
set_option maxHeartbeats 4000000
/-! ### B0: what every law's text uses: a def by its name, calls, the end where nothing is being written out -/
namespace Su
open PySem PySem.Spec PyProof.Rows L2
/-- a def of the text stands under its name -/
structure At (K : PySem.W.Frag) (mg : Str → Option Value) (x : Str) (st : Stmt) (ps : List Str) : Prop where
  ex : ∃ (f : Addr) (fd : FuncData), Fun K x x st f fd ∧ mg x = some (.ref f) ∧ Binds K fd ps []
/-- a def that keeps a promise may be called by its name -/
structure Cal (P : Program) (w : World) (K : PySem.W.Frag) (mg : Str → Option Value) (base : Heap) (k : Nat) (x : Str) (ps : List Str) (sp : Sp) : Prop where
  ex : ∃ (f : Addr) (fd : FuncData), FnOk P w K mg base CX0 k f fd ps sp ∧ mg x = some (.ref f) ∧ PySem.W.keepIn K (.ref f) = true ∧ Binds K fd ps [] ∧ ∃ o : Obj, K.lookup f = some o ∧ o.data = .func fd
section
variable {P : Program} {w : World} {K : PySem.W.Frag} {mg : Str → Option Value} {base : Heap}
theorem cal_of {x : Str} {st : Stmt} {N ps : List Str} {k : Nat} {sp : Sp} (T : At K mg x st ps) (S : FnScope N ps (defScope st)) (len : ∀ vs H Q E, sp vs H Q E → vs.length = ps.length)
    (hb : ∀ (f : Addr) (cdv : Value) (A : Around) (outer : List Env) (s : Shared) (H : Hp) (vs : List V) (Q : VK) (E : XK), Room k (A.deeper (envOfC x (defScope st) s.heap.objs.size f cdv)) → sp vs H Q E →
      ∃ t, PSs (cxOf CX0 P w K mg base N x (defScope st) f cdv A outer s H E).nox (defBody st) t ∧ t { nx := fun _ H' => Q .non H', rt := Q } (start N vs) H) : Cal P w K mg base (k + 1) x ps sp := by
  obtain ⟨f, fd, F, hm, b⟩ := T.ex
  have z : ∃ o : Obj, K.lookup f = some o ∧ o.data = .func fd := by
    obtain ⟨oc, od, kV, doc, pm, an, cdv, ct, osl, _, lk, _⟩ := F.ex
    exact ⟨_, lk, rfl⟩
  exact ⟨f, fd, F.ok S len (fun cdv A outer s H vs Q E => hb f cdv A outer s H vs Q E), hm, F.kp, b, z⟩
end
section
variable {X : Cx} {k j : Nat} {x : Str} {ps : List Str} {sp : Sp} {p pos : Pos} {e : Expr} {es : List Expr} {t : TA}
theorem pe_own (C : Cal X.prog X.w X.K X.mg X.base k x ps sp) (hr : Room j X.A) (hk : k ≤ j) (hg : Gl X x) (ha : PA X (e :: es) t)
    (hdb : (x == ("__debug__" : Str)) = false := by decide) (he : starEach (e :: es) X.env = (false, eval e X.env) :: starEach es X.env := by rfl) (hpl : (backTo pos (starEach es X.env)).any (·.1) = false := by rfl) :
    PE X (.Call (.Name x p) (e :: es) [] pos) (tCall sp [] E0 t) := by
  obtain ⟨f, fd, F, hm, kp, b, _⟩ := C.ex
  exact pe_call F (hr.mono hk) hg hm kp b .nil (fun _ _ _ _ _ _ _ h => h.elim) ha hdb he hpl
theorem pe_own0 (C : Cal X.prog X.w X.K X.mg X.base k x ps sp) (hr : Room j X.A) (hk : k ≤ j) (hg : Gl X x) (hdb : (x == ("__debug__" : Str)) = false := by decide) :
    PE X (.Call (.Name x p) [] [] pos) (tCall sp [] E0 tNil) := by
  obtain ⟨f, fd, F, hm, kp, b, _⟩ := C.ex
  exact pe_call0 F (hr.mono hk) hg hm kp b .nil (fun _ _ _ _ _ _ _ h => h.elim) hdb
end
/-- the same promise, asked only where no object is being written out -/
structure FnG (P : Program) (w : World) (K : PySem.W.Frag) (mg : Str → Option Value) (base : Heap) (CX : CXT) (k : Nat) (f : Addr) (fd : FuncData) (ps : List Str) (sp : Sp) : Prop where
  len : ∀ vs H Q E, sp vs H Q E → vs.length = ps.length
  run : ∀ (A : Around) (outer : List Env) (s : Shared) (H : Hp) (args : Args) (us : List Value) (vs : List V) (Q : VK) (E : XK), A.guards = some [] → Room k A → Env0 P w K mg base A outer s H →
    BindsTo s fd args (ps.zip us) → Vals vs us → sp vs H Q E → codeAny (model P w) A (.call (.ref f) args) (CR CX outer P w H s Q E) s
theorem deeper_guards {A : Around} {e : Env} (h : A.guards = some []) : (A.deeper e).guards = some [] := by
  first
    | exact h
    | simpa [Around.deeper, Around.under, pushGuards, Code.guards, Code.isGuard] using h
theorem fnG_of {CX : CXT} {P : Program} {w : World} {K : PySem.W.Frag} {mg : Str → Option Value} {base : Heap} {k : Nat} {f : Addr} {nm ql : Str} {pr : Arguments} {bd : List Stmt} {sc : Scope} {dv kv dc pm cd ct oc : Value} {an od : Option Addr}
    {sl : Array (Option Value)} {N ps : List Str} {sp : Sp}
    (lk : K.lookup f = some ⟨oc, od, .func (PySem.W.fnOf nm ql pr bd sc dv kv dc pm an cd ct), sl⟩)
    (hcd : PySem.W.codeIn K cd ql = true) (S : FnScope N ps sc) (len : ∀ vs H Q E, sp vs H Q E → vs.length = ps.length)
    (hb : ∀ (A : Around) (outer : List Env) (s : Shared) (H : Hp) (vs : List V) (Q : VK) (E : XK), (A.deeper (envOfC ql sc s.heap.objs.size f cd)).guards = some [] → Room k (A.deeper (envOfC ql sc s.heap.objs.size f cd)) → sp vs H Q E →
      ∃ t, PSs (cxOf CX P w K mg base N ql sc f cd A outer s H E) bd t ∧ t { nx := fun _ H' => Q .non H', rt := Q } (start N vs) H) :
    FnG P w K mg base CX (k + 1) f (PySem.W.fnOf nm ql pr bd sc dv kv dc pm an cd ct) ps sp := by
  refine ⟨len, fun A outer s H args us vs Q E hgd hr e0 hbi rv hs => ?_⟩
  obtain ⟨t, ht, hq⟩ := hb A outer s H vs Q E (deeper_guards hgd) (hr.deeper _) hs
  -- the very same body, as a promise that asks for this surrounding alone
  have kin : K.In s.heap := e0.mod.kin.keeps fun b o z => (e0.bs b o z).1
  have nol : s.heap.NoLimit := e0.mod.nolimit.keeps fun b o z => (e0.bs b o z).1
  refine codeAny_call_function hr.depth (kin _ _ lk) rfl S.co S.gen rfl (PySem.W.codeRec_of kin hcd) (hbi _ _ _ _ ?_)
  refine wpAny_newFunctionEnv_cells S.kind (fun y hy => ?_) fun env he s1 x => ?_
  · rcases S.par y.1 (List.of_mem_zip (show (y.1, y.2) ∈ ps.zip us from hy)).1 with z | z
    · exact Or.inl z
    · exact Or.inr ⟨z, PySem.W.cellsFrom_some _ _ _ (Or.inl z)⟩
  · subst he
    refine ⟨nol.keeps x.toInCall.keep, codeAny_func (wpAny_mono (ht.run [] s1 (start N vs) H _ (inv_start S hr.hd e0 (len _ _ _ _ hs) rv x) hq) (fun fl s' z => ?_) fun _ _ z => z)⟩
    cases fl with
    | ret u =>
      obtain ⟨v, σ', H', J, r', q'⟩ := z
      exact ⟨v, H', J.os, J.bare, J.base, J.hok, r', q'⟩
    | next =>
      obtain ⟨σ', H', J, q'⟩ := z
      exact ⟨V.non, H', J.os, J.bare, J.base, J.hok, rfl, q'⟩
    | brk => exact (z.elim fun _ z => z.elim fun _ z => False.elim z.2)
    | cont => exact (z.elim fun _ z => z.elim fun _ z => False.elim z.2)
theorem hid_ns {h : Heap} {H : Hp} {b : Addr} {m : Str → Option Value} (no : ∀ (o : Obj) (es : Array DictEntry) (ep : Nat), h.get? b = some o → o.data = .dict es ep → H b = none) (n : h.Ns b m) : (hidT h H).Ns b m := by
  obtain ⟨o, es, ep, e, d, r⟩ := n
  exact ⟨o, es, ep, hidT_get e (no o es ep e d), d, r⟩
/-- the law's call, from a promise that is asked only where no object is being written out -/
theorem law_callG {P : Program} {w : World} {K : PySem.W.Frag} {mg mb : Str → Option Value} {CX : CXT} {k : Nat} {fa a : Addr} {fd : FuncData} {x : Str} {sp : Sp} {t : Shared} {vs : List Value} {ns : List Int}
    (KX : K.In t.heap) (g1 : t.heap.Ns mainGlobals mg) (g2 : t.heap.Ns builtinsNs mb) (g3 : ∀ y : Str, y ≠ "__name__" → mb y = bootBuiltins y) (g4 : t.heap.NoLimit) (g5 : t.gens = #[])
    (ha : t.heap.get? a = some { cls := .type "list", data := .seq vs.toArray }) (hi : IntsAre vs ns) (hl : ns.length ≤ sizeLine) (hr : Room k callerA)
    (F : ∀ bs : Heap, K.In bs → bs.Ns mainGlobals mg → FnG P w K mg bs CX k fa fd [x] sp) (hbi : ∀ (s : Shared) (u : Value), BindsTo s fd ⟨[u], []⟩ [(x, u)])
    (hsp : ∀ H : Hp, Only H → SqL K H a (ns.map V.int) → sp [.ref a] H (fun v _ => v = .bl true) fun _ _ _ => False)
    (hCX : ∀ H e s', CX [] H t (fun _ _ _ => False) e s' → False) :
    codeAny (model P w) callerA (.call (.ref fa) ⟨[.ref a], []⟩) (fun r s' => r = .ok (.ret (.bool true)) ∧ OldK t.heap s'.heap ∧ s'.os = t.os ∧ AllBare s'.gens) t := by
  have rv := vals_ints hi
  have main : ∀ H : Hp, Only H → SqL K H a (ns.map V.int) → HOk P w H t.heap → (∀ b, H b ≠ none → b = a) → (H a ≠ none → K.lookup a = none) →
      codeAny (model P w) callerA (.call (.ref fa) ⟨[.ref a], []⟩) (fun r s' => r = .ok (.ret (.bool true)) ∧ OldK t.heap s'.heap ∧ s'.os = t.os ∧ AllBare s'.gens) t := by
    intro H only hS hok one out
    have no : ∀ (b : Addr) (o : Obj) (es : Array DictEntry) (ep : Nat), t.heap.get? b = some o → o.data = .dict es ep → H b = none := by
      intro b o es ep e d
      cases z : H b with
      | none => rfl
      | some u =>
        obtain rfl : b = a := one b (by rw [z]; simp)
        rw [ha] at e
        cases e
        exact absurd d (by simp)
    have kb : K.In (hidT t.heap H) := by
      intro b o e
      refine hidT_get (KX b o e) ?_
      cases z : H b with
      | none => rfl
      | some u =>
        obtain rfl : b = a := one b (by rw [z]; simp)
        rw [out (by rw [z]; simp)] at e
        cases e
    have ng : (hidT t.heap H).Ns mainGlobals mg := hid_ns (no _) g1
    have md : Mod K mg (hidT t.heap H) := ⟨kb, ng, ⟨mb, hid_ns (no _) g2, g3⟩, g4.elim fun mc h => ⟨mc, hid_ns (no _) h.1, h.2⟩⟩
    have ev : Env0 P w K mg (hidT t.heap H) callerA [] t H :=
      ⟨rfl, md, fun b o e => of_hidT e, Nat.le_of_eq (hidT_size _ _), trivial, fun b z => (List.not_mem_nil z).elim, hok, .of_eq g5⟩
    refine codeAny_mono ((F _ kb ng).run callerA [] t H ⟨[.ref a], []⟩ [.ref a] [.ref a] _ _ rfl hr ev (hbi t (.ref a)) (.cons rfl .nil) (hsp H only hS)) fun r s' h => ?_
    match r, h with
    | .error e, h => exact (hCX H e s' h).elim
    | .ok .next, h => exact False.elim h
    | .ok .brk, h => exact False.elim h
    | .ok .cont, h => exact False.elim h
    | .ok (.ret u), h =>
      obtain ⟨v, H', os, bare, un, hok2, r2, q⟩ := h
      obtain rfl : v = .bl true := q
      obtain rfl : u = Value.bool true := r2
      refine ⟨rfl, OldK.of_keep fun b o e => ?_, os, bare⟩
      rcases only b with z | ⟨ob, xs, z⟩
      · exact un.keep b o e z (fun y => (List.not_mem_nil y).elim) (by simp)
      · have y1 := (hok b _ z).1
        have y2 := (hok2 b _ (un.frzs b ob _ z)).1
        rw [e] at y1
        cases y1
        exact y2
  cases hk : K.lookup a with
  | some o =>
    have e := KX a o hk
    rw [ha] at e
    cases e
    refine main (fun _ => none) (fun _ => .inl rfl) (.inr ⟨_, vs.toArray, _, hk, rfl, rfl, rfl, ?_, ?_⟩) (fun b u z => nomatch (show (none : Option HO) = some u from z)) (fun b z => absurd rfl z) fun z => absurd rfl z
    · rw [List.size_toArray, hi.length]
      exact hl
    · simpa using rv
  | none =>
    have at1 : (fun b => if b = a then some (HO.frz { cls := .type "list", data := .seq vs.toArray } (.lst (ns.map V.int))) else none : Hp) a = some (HO.frz { cls := .type "list", data := .seq vs.toArray } (.lst (ns.map V.int))) := if_pos rfl
    refine main (fun b => if b = a then some (.frz { cls := .type "list", data := .seq vs.toArray } (.lst (ns.map V.int))) else none) (fun b => ?_) (.inl (.inr ⟨_, at1⟩)) (fun b u z => ?_) (fun b z => ?_) fun _ => hk
    · by_cases e : b = a
      · exact .inr ⟨_, _, if_pos e⟩
      · exact .inl (if_neg e)
    · by_cases e : b = a
      · subst e
        have y := at1.symm.trans z
        cases y
        exact ⟨ha, by rw [List.length_map]; exact hl, vs, _, rv, ha⟩
      · exact nomatch ((if_neg e).symm.trans z)
    · by_cases e : b = a
      · exact e
      · exact absurd (if_neg e) z
theorem walk_ofG {l : PySem.W.OpenLaw} {n k : Nat} {q : Program} {loose : List Str} {XP : (Str → Option Value) → Heap → Prop} {YP : World → Heap → Prop} {d : DefRec} {K : Params → PySem.W.Frag} {CX : CXT} {sp : PySem.W.Frag → Sp} {x : Str}
    (hn : l.most = some n) (hn2 : n ≤ sizeLine) (hdf : d.params.defaults = []) (hr : Room k callerA) (hY : ∀ (w : World) (h : Heap), YP w h → (K w.params).In h)
    (F : ∀ (w : World) (mg : Str → Option Value) (fa : Addr) (h : Heap), (K w.params).In h → h.Ns mainGlobals mg → mg d.name = some (.ref fa) →
      ∃ fd : FuncData, (∀ (s : Shared) (u : Value), BindsTo s fd ⟨[u], []⟩ [(x, u)]) ∧
        ∀ bs : Heap, (K w.params).In bs → bs.Ns mainGlobals mg → FnG l.prog w (K w.params) mg bs CX k fa fd [x] (sp (K w.params)))
    (hsp : ∀ (K : PySem.W.Frag) (H : Hp) (a : Addr) (ns : List Int), ns.length ≤ n → SqL K H a (ns.map V.int) → sp K [.ref a] H (fun v _ => v = .bl true) fun _ _ _ => False)
    (hCX : ∀ (H : Hp) (s : Shared) (e : Value) (s' : Shared), CX [] H s (fun _ _ _ => False) e s' → False) :
    PySem.W.WalkO q loose XP YP l.row.toRowW d [] (fun f vs => PySem.call f vs) := by
  refine Att.attach_call hn hdf fun w s₀ t mg mb fa o pm cd doc a vs ns G Y ho hd hcd hmg hobj hints hlen hg => ?_
  have KX := hY w _ Y
  obtain ⟨fd, hb, hF⟩ := F w mg fa _ KX G.T.g hmg
  exact law_callG KX G.T.g G.T.b G.T.builtins G.T.nolimit hg hobj hints (Nat.le_trans hlen hn2) hr hF hb (fun H _ hS => hsp (K w.params) H a ns hlen hS) fun H e s' => hCX H t e s'
end Su
/-! ### B1: repr of data, t.index(n), a call by keywords alone, data that is small enough -/
namespace Su
open PySem PySem.Spec PyProof.Rows L2
/-- data of small numbers, of depth n at most, of weight m at most -/
structure Fine (d : PyData) (n m : Nat) : Prop where
  sh : d.showable = true
  nd : d.hasDict = false
  dp : d.depth ≤ n
  lv : d.leavesShort 13 = true
  wt : d.weight ≤ m
  cl : d.canLay0 = true
structure FineL (ds : List PyData) (n m : Nat) : Prop where
  sh : PyData.showableAll ds = true
  nd : PyData.hasDictAll ds = false
  dp : PyData.depthAll ds ≤ n
  lv : PyData.leavesShortAll 13 ds = true
  wt : PyData.weightAll ds ≤ m
  cl : PyData.canLayAll0 ds = true
theorem Fine.int {i : Int} (h1 : -1000000 ≤ i) (h2 : i ≤ 1000000) : Fine (.int i) 0 40 := by
  have hb : i.natAbs < 10 ^ 12 := by omega
  have e : i.natAbs < 2 ^ 20 := by omega
  have hl : i.natAbs.log2 < 39 := by
    by_cases z : i.natAbs = 0
    · rw [z]
      decide
    · exact (Nat.log2_lt z).mpr (by omega)
  refine ⟨?_, by simp [PyData.hasDict], by simp [PyData.depth], ?_, ?_, by first | rfl | simp [PyData.canLay0]⟩
  · simp only [PyData.showable, decide_eq_true_eq]
    omega
  · simp only [PyData.leavesShort, decide_eq_true_eq]
    exact PyData.shown_int_le hb
  · simp only [PyData.weight]
    split <;> omega
theorem Fine.bool (b : Bool) : Fine (.bool b) 0 0 := ⟨by simp [PyData.showable], by simp [PyData.hasDict], by simp [PyData.depth], by simp [PyData.leavesShort], by simp [PyData.weight], by first | rfl | simp [PyData.canLay0]⟩
theorem Fine.none : Fine .none 0 0 := ⟨by simp [PyData.showable], by simp [PyData.hasDict], by simp [PyData.depth], by simp [PyData.leavesShort], by simp [PyData.weight], by first | rfl | simp [PyData.canLay0]⟩
theorem FineL.nil {n : Nat} : FineL [] n 0 := ⟨by simp [PyData.showableAll], by simp [PyData.hasDictAll], by simp [PyData.depthAll], by simp [PyData.leavesShortAll], by simp [PyData.weightAll], by first | rfl | simp [PyData.canLayAll0]⟩
theorem FineL.cons {d : PyData} {ds : List PyData} {n m k : Nat} (h : Fine d n m) (t : FineL ds n k) : FineL (d :: ds) n (m + 1 + k) := by
  refine ⟨?_, ?_, ?_, ?_, ?_, ?_⟩
  · simp only [PyData.showableAll, h.sh, t.sh, Bool.and_self]
  · simp only [PyData.hasDictAll, h.nd, t.nd, Bool.or_self]
  · simp only [PyData.depthAll]
    have := h.dp
    have := t.dp
    omega
  · simp only [PyData.leavesShortAll, h.lv, t.lv, Bool.and_self]
  · simp only [PyData.weightAll]
    have := h.wt
    have := t.wt
    omega
  · simp only [PyData.canLayAll0, h.cl, t.cl, Bool.and_self]
theorem Fine.tuple {ds : List PyData} {n m : Nat} (t : FineL ds n m) : Fine (.tuple ds) (n + 1) m :=
  ⟨by simpa only [PyData.showable] using t.sh, by simpa only [PyData.hasDict] using t.nd, by simp only [PyData.depth]; have := t.dp; omega, by simpa only [PyData.leavesShort] using t.lv, by simpa only [PyData.weight] using t.wt, by simpa only [PyData.canLay0] using t.cl⟩
theorem Fine.list {ds : List PyData} {n m : Nat} (t : FineL ds n m) : Fine (.list ds) (n + 1) m :=
  ⟨by simpa only [PyData.showable] using t.sh, by simpa only [PyData.hasDict] using t.nd, by simp only [PyData.depth]; have := t.dp; omega, by simpa only [PyData.leavesShort] using t.lv, by simpa only [PyData.weight] using t.wt, by simpa only [PyData.canLay0] using t.cl⟩
theorem Fine.up {d : PyData} {n m n' m' : Nat} (h : Fine d n m) (a : n ≤ n') (b : m ≤ m') : Fine d n' m' := ⟨h.sh, h.nd, Nat.le_trans h.dp a, h.lv, Nat.le_trans h.wt b, h.cl⟩
theorem FineL.ints : ∀ ns : List Int, (∀ z ∈ ns, -1000000 ≤ z ∧ z ≤ 1000000) → FineL (ns.map PyData.int) 0 (41 * ns.length)
  | [], _ => FineL.nil
  | z :: ns, h => by
    have a := FineL.cons (Fine.int (h z List.mem_cons_self).1 (h z List.mem_cons_self).2) (FineL.ints ns fun y hy => h y (List.mem_cons_of_mem _ hy))
    have e : 40 + 1 + 41 * ns.length = 41 * (z :: ns).length := by
      rw [List.length_cons]
      omega
    rw [e] at a
    exact a
theorem Fine.len {d : PyData} {n m : Nat} (h : Fine d n m) (hm : m ≤ 1000000) : d.shown.length ≤ sizeLine := PyData.shown_fits (B := 13) (by decide) (by decide) h.lv (by have := h.wt; omega)
theorem Fine.shaped {d : PyData} {n m : Nat} (h : Fine d n m) (hn : n ≤ 64) : SeqAt.shaped d = true := by
  unfold SeqAt.shaped
  rw [h.cl, Bool.true_and, decide_eq_true_eq]
  exact Nat.le_trans h.dp hn
theorem Fine.eqv {d : PyData} {n m : Nat} (h : Fine d n m) : PyData.eqv d d = true := SeqAt.eqv_refl d h.cl
section
variable {X : Cx}
/-- repr(x), x a list or tuple of data -/
def rReprD (K : PySem.W.Frag) : List V → Hp → VK → Prop := fun xs H Q => ∃ (a : Addr) (d : PyData) (n m : Nat), xs = [.ref a] ∧ Dp K H (.ref a) d ∧ Fine d n m ∧ n ≤ 60 ∧ m ≤ 1000000 ∧ Q (.str d.shown) H
theorem call_reprD (hg : X.A.guards = some []) (hu : X.A.units + 64 < cLine) : CallR X (.builtin "repr") (rReprD X.K) := by
  intro pins s σ H xs us Q I r h
  obtain ⟨a, d, n, m, rfl, hd, hf, hn, hm, q⟩ := h
  rw [Vals.ref1 r]
  obtain ⟨as, rd⟩ := Dp.reads I d _ (.ref a) hd rfl
  refine repr_of_reads' rd hf.sh (PyData.noDict_hsm hf.nd) hg (by have := hf.dp; omega) (fun _ _ z => z) (fun h' u tk hk => ⟨.str d.shown, H, I.kept hk, ⟨u, rfl⟩, q⟩) (hf.len hm)
/-- t.index(n), t a tuple of ints that has n -/
def rTIndex (K : PySem.W.Frag) : V → List V → Hp → VK → Prop := fun x xs H Q => ∃ (p : Addr) (ns : List Int) (k : Int), x = .ref p ∧ xs = [.int k] ∧ SqT K H p (ns.map V.int) ∧ k ∈ ns ∧ Q (.int (ns.idxOf k : Nat)) H
theorem ints_of : ∀ {ns : List Int} {vs : List Value}, Vals (ns.map V.int) vs → IntsAre vs ns
  | [], _, r => by
    cases r
    exact .nil
  | n :: ns, _, r => by
    cases r with
    | cons r1 r2 =>
      obtain ⟨t, rfl⟩ := r1
      exact .cons _ _ (ints_of r2)
theorem mt_tindex : MtR X "tuple.index" (rTIndex X.K) := by
  intro pins s σ H x xs v us Q I rx rs h
  obtain ⟨p, ns, k, rfl, rfl, hq, hk, q⟩ := h
  cases rx
  obtain ⟨u, rfl, t, rfl⟩ := vals1 rs
  obtain ⟨its, r, pl, hz⟩ := I.tuple hq
  exact PySem.SeqAt.tuple_index_ints (l := p) (vs := its) pl (ints_of r) hk ⟨.int (ns.idxOf k : Nat), H, I.tok _, ⟨_, rfl⟩, q⟩
end
section
variable {X : Cx} {k j : Nat} {x : Str} {ps ks : List Str} {sp : Sp} {p pos : Pos} {kws : List Keyword} {tk : TA}
/-- a def that keeps a promise, called by keywords alone -/
structure KCal (P : Program) (w : World) (K : PySem.W.Frag) (mg : Str → Option Value) (base : Heap) (k : Nat) (x : Str) (ks : List Str) (gV : List V → List V → List V) (sp : Sp) : Prop where
  ex : ∃ (f : Addr) (fd : FuncData) (ps : List Str) (g : List Value → List Value → List Value), FnOk P w K mg base CX0 k f fd ps sp ∧ mg x = some (.ref f) ∧ PySem.W.keepIn K (.ref f) = true ∧ KBinds K fd ps ks g gV
variable {gV : List V → List V → List V}
def tKws (sp : Sp) (gV : List V → List V → List V) (tk : TA) : TE := fun σ H Q => tk σ H fun zs H2 => sp (gV [] zs) H2 Q E0
theorem pe_ownK (C : KCal X.prog X.w X.K X.mg X.base k x ks gV sp) (hr : Room j X.A) (hk : k ≤ j) (hg : Gl X x) (hkw : PK X kws tk)
    (hall : (backToKw pos (keywordEach kws X.env)).all (·.1.isSome) = true := by rfl) (hks : (backToKw pos (keywordEach kws X.env)).filterMap (·.1) = ks := by rfl) (hdb : (x == ("__debug__" : Str)) = false := by decide)
    (hpl : ((backTo pos (starEach [] X.env)).any (·.1) || (backToKw pos (keywordEach kws X.env)).any (·.1.isNone)) = false := by rfl) : PE X (.Call (.Name x p) [] kws pos) (tKws sp gV tk) := by
  obtain ⟨f, fd, ps, g, F, hm, kp, b⟩ := C.ex
  refine ⟨fun pins s σ H Q I h => ?_⟩
  refine wpAny_Call_Name_kw (ld_glob I hg hm ?_ hdb)
  refine PySem.W.callWith_KW0 (h₀ := X.base) I.ok.mod.kin kp hall (thn (hkw.run pos pins s σ H _ I h) fun ws s2 ⟨zs, H2, I2, rz, q2⟩ => ⟨I2.kIn, ?_⟩) hpl
  rw [hks]
  exact run_fnk F (hr.mono hk) b (fun _ _ _ _ _ _ _ z => z.elim) I2 .nil rz q2
end
end Su
/-! ### B2: tuples whose object is known to have no dict: their methods may be called -/
namespace Su
open PySem PySem.Spec PyProof.Rows L2
def PTup (H : Hp) (a : Addr) (xs : List V) : Prop := ∃ o : Obj, H a = some (.frz o (.tup xs)) ∧ o.dict = none
theorem PTup.sq {K : PySem.W.Frag} {H : Hp} {a : Addr} {xs : List V} (h : PTup H a xs) : SqT K H a xs := by
  obtain ⟨o, e, _⟩ := h
  exact .inl (.inr ⟨o, e⟩)
theorem PTup.same {H H' : Hp} {a : Addr} {xs : List V} (h : PTup H a xs) (s : Same H H') : PTup H' a xs := by
  obtain ⟨o, e, d⟩ := h
  exact ⟨o, s _ _ e, d⟩
theorem same_upd {H : Hp} {p : Addr} {o : HO} (h : H p = none) : Same H (upd H p o) := fun b x e => by
  rw [upd_ne (ne_of_none e h)]
  exact e
section
variable {X : Cx} {pins : List (Addr × Obj)} {σ : L2.St} {H : Hp} {s : Shared}
/-- a new tuple's object -/
abbrev tupO (its : List Value) : Obj := { cls := .type "tuple", data := .seq its.toArray }
theorem laidF {xs : List V} {its : List Value} (I : Inv X pins σ H s) (r : Vals xs its) (hz : xs.length ≤ sizeLine) (t' : Tok) :
    Inv X pins σ (upd H s.heap.objs.size (.frz (tupO its) (.tup xs))) { s with heap := s.heap.push (tupO its), toks := t' } := by
  refine I.laid (t' := t') (o := .frz (tupO its) (.tup xs)) (fun b ob q => Heap.get?_push_of_some _ q) (Nat.le_refl _) ?_
  exact ⟨Heap.get?_push_size _ rfl, hz, its, r, IsTup.new _ _⟩
theorem newF {xs : List V} {its : List Value} {Q : VK} (I : Inv X pins σ H s) (r : Vals xs its) (hz : xs.length ≤ sizeLine) (q : ∀ v H', Same H H' → H v = none → PTup H' v xs → Q (.ref v) H') (t' : Tok) :
    EP X pins σ Q (.ref s.heap.objs.size) { s with heap := s.heap.push (tupO its), toks := t' } :=
  have hf : H s.heap.objs.size = none := I.hok.fresh (Nat.le_refl _)
  ⟨.ref s.heap.objs.size, _, laidF I r hz t', rfl, q _ _ (same_upd hf) hf ⟨_, upd_same, rfl⟩⟩
end
section
variable {X : Cx} {es : List Expr} {t : TA} {pos : Pos}
def tTupF (t : TA) : TE := fun σ H Q => t σ H fun xs H1 => xs.length ≤ sizeLine ∧ ∀ v H', Same H1 H' → H1 v = none → PTup H' v xs → Q (.ref v) H'
theorem pe_tupF {x1} (h : PA X es t) : PE X (.Tuple es x1 pos) (tTupF t) := by
  refine ⟨fun pins s σ H Q I hq => ?_⟩
  refine wpAny_Tuple_spliced (thn (h.run pos pins s σ H _ I hq) fun us s1 ⟨xs, H1, I1, r, z, q⟩ => ⟨by rw [← r.length]; exact z, ?_⟩)
  exact newF I1 r z q s1.toks
def rTupL (K : PySem.W.Frag) : List V → Hp → VK → Prop := fun xs H Q => ∃ p ys, xs = [.ref p] ∧ SqL K H p ys ∧ ∀ v H', Same H H' → H v = none → PTup H' v ys → Q (.ref v) H'
theorem call_tupleF : CallR X (.type "tuple") (rTupL X.K) := by
  intro pins s σ H xs us Q I r h
  obtain ⟨p, ys, rfl, hq, q⟩ := h
  obtain ⟨u, rfl, rx⟩ := vals1 r
  cases rx
  obtain ⟨its, r', pl, hz⟩ := I.list hq
  have hlen := r'.length
  refine call_tuple_list pl.isList (fun h' kp => ?_) (by simp only [List.size_toArray] <;> omega)
  exact newF (s := { s with heap := h' }) (I.kept (t' := s.toks) kp) r' hz q s.toks
def rCatF : R2 := fun x y H Q => ∃ a b xs ys, x = .ref a ∧ y = .ref b ∧ PTup H a xs ∧ PTup H b ys ∧ xs.length + ys.length ≤ sizeLine ∧ ∀ v H', Same H H' → PTup H' v (xs ++ ys) → Q (.ref v) H'
theorem op_catF : OpR X (binaryOp .Add) rCatF := by
  intro pins s σ H x y v u Q I rx ry h
  obtain ⟨a, b, xs, ys, rfl, rfl, ha, hb, hz, q⟩ := h
  cases rx
  cases ry
  obtain ⟨its, r1, p1, _⟩ := I.tuple (ha.sq (K := X.K))
  obtain ⟨its2, r2, p2, _⟩ := I.tuple (hb.sq (K := X.K))
  by_cases hx : xs = []
  · subst hx
    cases r1
    exact cat_tup0 p1 p2 ⟨.ref b, H, I, rfl, q b H (Same.refl H) hb⟩
  · refine HT.cat_tup p1 p2 (fun z => hx (r1.nil_iff.mp z)) (fun z => ⟨.ref a, H, I, rfl, q a H (Same.refl H) ?_⟩) (fun z => ?_) (by rw [← r1.length, ← r2.length]; exact hz)
    · rw [r2.nil_iff.mp z, List.append_nil]
      exact ha
    · exact newF I (r1.append r2) (by rw [List.length_append]; exact hz) (fun v H' s' _ h => q v H' s' h) s.toks
def rSlF : V → Option Int → Option Int → Hp → VK → Prop := fun x lo hi H Q => ∃ a xs, x = .ref a ∧ PTup H a xs ∧ ∀ v H', Same H H' → PTup H' v (cutV xs lo hi) → Q (.ref v) H'
theorem sl_tupF : SlR X rSlF := by
  intro pins s σ H x v vl vu lo hi sl Q I rx hs pl pu h
  obtain ⟨a, xs, rfl, hx, q⟩ := h
  cases rx
  obtain ⟨its, r, ht, hz⟩ := I.tuple (hx.sq (K := X.K))
  have hlen : its.toArray.size = xs.length := by rw [List.size_toArray]; exact r.length.symm
  refine ⟨"tuple", _, PyProof.Rows.slot_tuple_getitem.lookup, ht.typeIs, ?_⟩
  by_cases hw : HT.sIx xs.length 0 lo = 0 ∧ HT.sIx xs.length xs.length hi = xs.length
  · refine getItem_tuple_whole ht hs pl pu (by rw [hlen]; exact hw) ⟨.ref a, H, I, rfl, q a H (Same.refl H) ?_⟩
    have z : cutV xs lo hi = xs := by
      unfold cutV
      rw [hw.1, hw.2, Nat.sub_zero, List.drop_zero, List.take_length]
    rw [z]
    exact hx
  · refine HT.getItem_tuple_cut ht hs pl pu (by rw [hlen]; exact hw) ?_ (by rw [hlen]; exact hz)
    rw [hlen]
    exact newF I ((r.drop (HT.sIx xs.length 0 lo)).take (HT.sIx xs.length xs.length hi - HT.sIx xs.length 0 lo)) (Nat.le_trans (cutV_length xs lo hi) hz) (fun v H' s' _ h => q v H' s' h) s.toks
/-- t.m(e, ..), t such a tuple -/
def tMT (r : V → List V → Hp → VK → Prop) (to : TE) (t : TA) : TE := fun σ H Q => to σ H fun x H1 => (∃ a xs, x = .ref a ∧ PTup H1 a xs) ∧ t σ H1 fun xs H2 => r x xs H2 Q
variable {o e : Expr} {to : TE} {name : Str} {apos cpos : Pos} {id : String} {r : V → List V → Hp → VK → Prop}
theorem pe_mT (slot : Slot "tuple" name id) (hty : typeOf (.builtin id) = pure (.type "method_descriptor")) (hm : MtR X id r) (ho : PE X o to) (ha : PA X (e :: es) t)
    (hbase : attributeBase o name X.env (eval o X.env) = eval o X.env := by rfl)
    (hfew : ((backTo cpos (starEach (e :: es) X.env)).all (fun x => !x.1) && (backToKw cpos (keywordEach [] X.env)).all (fun x => x.1.isSome) && decide ((e :: es).length + ([] : List Keyword).length + (if ([] : List Keyword).isEmpty then 0 else 1) < 30)) = true := by rfl)
    (hline : (apos.endLine == cpos.line) = true := by rfl) (hs : starEach (e :: es) X.env = (false, eval e X.env) :: starEach es X.env := by rfl) (hplain : (backTo cpos (starEach es X.env)).any (·.1) = false := by rfl) :
    PE X (.Call (.Attribute o name apos) (e :: es) [] cpos) (tMT r to t) := by
  refine ⟨fun pins s σ H Q I h => ?_⟩
  refine wpAny_Call_method_late hbase hfew hline rfl (thn (ho.run pins s σ H _ I h) fun v s1 ⟨x, H1, I1, r1, ⟨a, xs, ex, pt⟩, q1⟩ => ?_)
  subst ex
  cases r1
  obtain ⟨its, rv, tp, _⟩ := I1.tuple (pt.sq (K := X.K))
  obtain ⟨ob, eo, ed⟩ := pt
  have g1 := (I1.hok a _ eo).1
  refine ⟨"tuple", id, PySem.F.plainAttrs_tuple, slot, hty, tp.typeIs, fun b eb => ?_, ?_⟩
  · cases eb
    exact ⟨ob, g1, ed⟩
  have hA := ha.run cpos pins s1 σ H1 _ I1 q1
  rw [hs] at hA ⊢
  refine Calls.callWith_builtin (by show (false || (backTo cpos (starEach es X.env)).any (·.1)) = false; rw [hplain] <;> rfl) (Calls.evalArgs_plain ?_)
  exact thn hA fun us s2 ⟨vs, H2, I2, r2, q2⟩ => hm pins s2 σ H2 (.ref a) vs _ us Q I2 rfl r2 q2
end
end Su
/-! ### PL: the pool from which a law draws -/
namespace Su
open PySem PySem.Spec PyProof.Rows L2
/-- the built-in names that the text does not bind -/
structure Bt (mg : Str → Option Value) : Prop where
  len : mg "len" = none
  sum : mg "sum" = none
  abs : mg "abs" = none
  int : mg "int" = none
  min : mg "min" = none
  max : mg "max" = none
  range : mg "range" = none
  sorted : mg "sorted" = none
  list : mg "list" = none
  tuple : mg "tuple" = none
  repr : mg "repr" = none
  set : mg "set" = none
  all : mg "all" = none
  isinstance : mg "isinstance" = none
  str : mg "str" = none
  bool : mg "bool" = none
  reversed : mg "reversed" = none
  enumerate : mg "enumerate" = none
  zip : mg "zip" = none
  any : mg "any" = none
  dict : mg "dict" = none
theorem cutV_ints (ns : List Int) (lo hi : Option Int) : ∃ ms : List Int, cutV (ns.map V.int) lo hi = ms.map V.int := by
  unfold cutV
  exact ⟨_, by rw [← List.map_drop, ← List.map_take]⟩
theorem atI_int {α : Type} {xs : List α} {i : Int} {v : α} (h0 : 0 ≤ i) (h : xs[i.toNat]? = some v) : atI xs i = some v := by
  have e := atI_nat h
  rw [Int.toNat_of_nonneg h0] at e
  exact e
theorem b01 (b : Bool) : -(2 ^ 64) < (if b = true then (1 : Int) else 0) ∧ (if b = true then (1 : Int) else 0) < 2 ^ 64 := by
  cases b <;> exact ⟨by decide, by decide⟩
/-! the pool -/
def PoolO (o : HO) : Prop := ∃ g m : Int, o = .lst [.int g, .int m] ∧ 0 ≤ g ∧ 0 ≤ m ∧ m < 2147483647
def PoolAt (H : Hp) (p : Addr) : Prop := ∃ o, H p = some o ∧ PoolO o
def spTake : Sp := fun vs H Q _ => ∃ (p : Addr) (many : Int), vs = [.ref p, .int many] ∧ PoolAt H p ∧ 1 ≤ many ∧ many < 1000000 ∧
  ∀ (r : Int) (o : HO), 0 ≤ r → r < many → PoolO o → Q (.int r) (upd H p o)
def spPool (K : PySem.W.Frag) : Sp := fun vs H Q _ => ∃ (a : Addr) (ns : List Int) (k : Int), vs = [.ref a, .int k] ∧ SqL K H a (ns.map V.int) ∧ 0 ≤ k ∧ k < 1000 ∧
  ∀ (p : Addr) (H' : Hp), Same H H' → H p = none → PoolAt H' p → Q (.ref p) H'
/-- all but what stands at p is as it was -/
def Kept (p : Addr) (H H' : Hp) : Prop := ∀ b o, H b = some o → b ≠ p → H' b = some o
theorem Kept.refl (p : Addr) (H : Hp) : Kept p H H := fun _ _ h _ => h
theorem Kept.trans {p : Addr} {H H1 H2 : Hp} (a : Kept p H H1) (b : Kept p H1 H2) : Kept p H H2 := fun c o h n => b c o (a c o h n) n
theorem Kept.same {p : Addr} {H H1 : Hp} (a : Same H H1) : Kept p H H1 := fun c o h _ => a c o h
theorem Kept.upd (p : Addr) (H : Hp) (o : HO) : Kept p H (upd H p o) := fun b x e n => by
  rw [upd_ne n]
  exact e
theorem Kept.set {p b : Addr} {H H1 : Hp} {o : HO} (a : Kept p H H1) (hb : H b = none) : Kept p H (L2.upd H1 b o) := fun c x e n => by
  rw [upd_ne (ne_of_none e hb)]
  exact a c x e n
theorem Kept.free {p b : Addr} {H H' : Hp} (a : Kept p H H') (n : b ≠ p) (h : H' b = none) : H b = none := by
  cases z : H b with
  | none => rfl
  | some o =>
    rw [a b o z n] at h
    cases h
theorem pool_ne {H : Hp} {p b : Addr} (h : PoolAt H p) (n : H b = none) : b ≠ p := by
  obtain ⟨o, e, _⟩ := h
  exact (ne_of_none e n).symm
theorem PoolAt.upd {H : Hp} {p b : Addr} {o : HO} (h : PoolAt H p) (n : p ≠ b) : PoolAt (upd H b o) p := by
  obtain ⟨x, e, z⟩ := h
  exact ⟨x, by rw [upd_ne n]; exact e, z⟩
theorem PoolAt.same {H H' : Hp} {p : Addr} (h : PoolAt H p) (s : Same H H') : PoolAt H' p := by
  obtain ⟨o, e, z⟩ := h
  exact ⟨o, s _ _ e, z⟩
theorem PTup.kept {p a : Addr} {H H' : Hp} {xs : List V} (h : PTup H a xs) (k : Kept p H H') (hp : PoolAt H p) : PTup H' a xs := by
  obtain ⟨o, e, d⟩ := h
  obtain ⟨x, e2, g, m, rfl, _⟩ := hp
  refine ⟨o, k _ _ e (fun z => ?_), d⟩
  subst z
  rw [e] at e2
  cases e2
theorem seq_kept {K : PySem.W.Frag} {p a : Addr} {H H' : Hp} {xs : List V} (k : Kept p H H') (n : a ≠ p) (h : SqL K H a xs) : SqL K H' a xs := by
  rcases h with (h | ⟨o, h⟩) | h
  · exact .inl (.inl (k _ _ h n))
  · exact .inl (.inr ⟨o, k _ _ h n⟩)
  · exact .inr h
theorem tyes {σ : L2.St} {H : Hp} {A B : Hp → Prop} (h : A H) : tYes σ H (fun b H3 => if b = true then A H3 else B H3) := (iteT h : if true = true then A H else B H)
theorem erase_map (f : Int → V) : ∀ (l : List Int) (j : Nat), (l.map f).eraseIdx j = (l.eraseIdx j).map f
  | [], _ => rfl
  | _ :: _, 0 => rfl
  | x :: l, j + 1 => by
    show f x :: (l.map f).eraseIdx j = f x :: (l.eraseIdx j).map f
    rw [erase_map f l j]
theorem free_upd {H : Hp} {a b : Addr} {o : HO} (h : upd H a o b = none) : b ≠ a ∧ H b = none := by
  by_cases e : b = a
  · subst e
    rw [upd_same] at h
    cases h
  · rw [upd_ne e] at h
    exact ⟨e, h⟩
theorem seqIx {i : Int} {n : Nat} (h0 : 0 ≤ i) (h : i < n) : seqIndex? i n = some i.toNat :=
  (ixN_seq (n := n) (i := i) (j := i.toNat) (by unfold ixN; rw [if_pos h0, if_pos h])).1
theorem erase_perm : ∀ (l : List Int) (j : Nat) (y : Int), l[j]? = some y → (y :: l.eraseIdx j).Perm l
  | [], j, y, h => by simp at h
  | x :: l, 0, y, h => by
    have e : x = y := by simpa using h
    rw [e]
    exact List.Perm.refl _
  | x :: l, j + 1, y, h => by
    have e : l[j]? = some y := by simpa using h
    exact (List.Perm.swap x y (l.eraseIdx j)).trans ((erase_perm l j y e).cons x)
abbrev rLenK (K : PySem.W.Frag) : List V → Hp → VK → Prop := fun xs H Q => ∃ p ys, xs = [.ref p] ∧ (SqL K H p ys ∨ SqT K H p ys) ∧ Q (.int ys.length) H
def spPicked (K : PySem.W.Frag) : Sp := fun vs H Q _ => ∃ (p b : Addr) (ns : List Int) (many : Int), vs = [.ref p, .ref b, .int many] ∧ PoolAt H p ∧ SqL K H b (ns.map V.int) ∧ b ≠ p ∧ ns.Nodup ∧ ns.length ≤ 1000 ∧ 0 ≤ many ∧
  ∀ (q : Addr) (H' : Hp) (ms : List Int), H q = none → Kept p H H' → PoolAt H' p → H' q = some (.lst (ms.map V.int)) → ms.Nodup → (∀ x ∈ ms, x ∈ ns) → ms.length = min many.toNat ns.length → ms.Pairwise (· ≤ ·) → Q (.ref q) H'
def hundred : List Int := (List.range 100).map fun i => ((i : Nat) : Int)
theorem hundred_rg : rgV 0 100 = hundred.map V.int := by
  unfold rgV hundred
  rw [List.map_map]
  rfl
theorem hundred_nd : hundred.Nodup := by decide +kernel
theorem hundred_len : hundred.length = 100 := rfl
theorem hundred_mem {x : Int} (h : x ∈ hundred) : 0 ≤ x ∧ x < 100 := by
  unfold hundred at h
  obtain ⟨i, hi, rfl⟩ := List.mem_map.mp h
  have := List.mem_range.mp hi
  omega
theorem cons_nil_fin {α : Type} {xs : List α} {r : Int} (n : Nat) (h : xs.length = n) (r0 : 0 ≤ r) (r1 : r < n) : ∃ v ∈ xs, atI xs r = some v := by
  have hr : r.toNat < xs.length := by omega
  exact ⟨xs[r.toNat], List.getElem_mem hr, atI_int r0 (List.getElem?_eq_getElem hr)⟩
theorem iteB {c : Bool} {A B : Prop} (h1 : c = true → A) (h2 : c = false → B) : if c = true then A else B := by
  cases c
  · exact iteF (h2 rfl)
  · exact iteT (h1 rfl)
theorem sorted_one : ∀ {xs ys : List Int}, xs.Pairwise (· < ·) → ys.Pairwise (· < ·) → (∀ k, k ∈ xs ↔ k ∈ ys) → xs = ys
  | [], [], _, _, _ => rfl
  | [], y :: ys, _, _, h => (List.not_mem_nil ((h y).mpr List.mem_cons_self)).elim
  | x :: xs, [], _, _, h => (List.not_mem_nil ((h x).mp List.mem_cons_self)).elim
  | x :: xs, y :: ys, hx, hy, h => by
    have px := List.pairwise_cons.mp hx
    have py := List.pairwise_cons.mp hy
    have e : x = y := by
      rcases List.mem_cons.mp ((h x).mp List.mem_cons_self) with z | z
      · exact z
      · rcases List.mem_cons.mp ((h y).mpr List.mem_cons_self) with z2 | z2
        · exact z2.symm
        · have h1 := py.1 x z
          have h2 := px.1 y z2
          omega
    subst e
    have r : xs = ys := sorted_one px.2 py.2 fun k => by
      constructor
      · intro hk
        rcases List.mem_cons.mp ((h k).mp (List.mem_cons_of_mem _ hk)) with z | z
        · have h1 := px.1 k hk
          omega
        · exact z
      · intro hk
        rcases List.mem_cons.mp ((h k).mpr (List.mem_cons_of_mem _ hk)) with z | z
        · have h1 := py.1 k hk
          omega
        · exact z
    rw [r]
theorem nodup_few {S : List Int} : ∀ {ms : List Int}, ms.Nodup → (∀ k ∈ ms, k ∈ S) → ms.length ≤ S.length := by
  induction S with
  | nil =>
    intro ms _ h
    cases ms with
    | nil => exact Nat.le_refl _
    | cons x l => exact (List.not_mem_nil (h x List.mem_cons_self)).elim
  | cons y S ih =>
    intro ms nd h
    have z := ih (ms := ms.erase y) (nd.erase y) fun k hk => by
      have h1 := (nd.mem_erase_iff.mp hk)
      rcases List.mem_cons.mp (h k h1.2) with e | e
      · exact absurd e h1.1
      · exact e
    rw [List.length_cons]
    by_cases hy : y ∈ ms
    · rw [List.length_erase_of_mem hy] at z
      omega
    · rw [List.erase_of_not_mem hy] at z
      omega
theorem fnG_fun {P : Program} {w : World} {K : PySem.W.Frag} {mg : Str → Option Value} {base : Heap} {x ql : Str} {st : Stmt} {f : Addr} {fd : FuncData} {N ps : List Str} {k : Nat} {sp : Sp} (F : Fun K x ql st f fd) (S : FnScope N ps (defScope st)) (len : ∀ vs H Q E, sp vs H Q E → vs.length = ps.length)
    (hb : ∀ (cdv : Value) (A : Around) (outer : List Env) (s : Shared) (H : Hp) (vs : List V) (Q : VK) (E : XK), (A.deeper (envOfC ql (defScope st) s.heap.objs.size f cdv)).guards = some [] → Room k (A.deeper (envOfC ql (defScope st) s.heap.objs.size f cdv)) → sp vs H Q E →
      ∃ t, PSs (cxOf CX0 P w K mg base N ql (defScope st) f cdv A outer s H E).nox (defBody st) t ∧ t { nx := fun _ H' => Q .non H', rt := Q } (start N vs) H) : FnG P w K mg base CX0 (k + 1) f fd ps sp := by
  obtain ⟨oc, od, kV, doc, pm, an, cdv, ct, osl, rfl, lk, hcd⟩ := F.ex
  refine fnG_of lk hcd S len fun A outer s H vs Q E hg hr hsp => ?_
  obtain ⟨t, h, q⟩ := hb cdv A outer s H vs Q E hg hr hsp
  exact ⟨t, h.nox, q⟩
section
variable {X : Cx} {e : Expr}
/-- a test that is never asked, an expression that is never reckoned -/
def tNo : TT := fun _ _ _ => False
theorem pt_never : PT X e tNo := ⟨fun _ _ _ _ _ _ h => h.elim⟩
def tNoE : TE := fun _ _ _ => False
theorem pe_never : PE X e tNoE := ⟨fun _ _ _ _ _ _ h => h.elim⟩
end
end Su
/-! ### SC: a set of ints by a comprehension with two clauses -/
namespace Su
open PySem PySem.Spec PyProof.Rows L2
abbrev sc2 (e a b c d : Expr) (sp : Scope) (po : Pos) : Expr := .SetComp e [⟨a, b, [], 0⟩, ⟨c, d, [], 0⟩] sp po
section
variable {prog : Program} {w : World} {A : Around} {R : Result → Shared → Prop} {s : Shared} {e a b c d : Expr} {sp : Scope} {po : Pos} {it acc : Value} {env : Env}
theorem sc2_out : compTurn (sc2 e a b c d sp po) 0 it acc env = (do
      standAt b.pos
      match ← pyNext it with
      | none => pure (.done .next)
      | some v =>
        letOwnedTupleGo a it v
        assign a env v
        let x ← eval d env
        standAt d.pos
        let y ← foldedSetIterable d env x
        let _ ← runOwn (.compStart (sc2 e a b c d sp po) 1 (← holding [y] (pyIter y)) acc env) env
        again (.compLoop (sc2 e a b c d sp po) 0 it acc env)) := by rfl
theorem sc2_in : compTurn (sc2 e a b c d sp po) 1 it acc env = (do
      standAt d.pos
      match ← pyNext it with
      | none => pure (.done .next)
      | some v =>
        letOwnedTupleGo c it v
        assign c env v
        (do let x ← eval e env; standAt e.pos; let _ ← call (.builtin "set.add") [acc, x])
        again (.compLoop (sc2 e a b c d sp po) 1 it acc env)) := by rfl
/-- the tail of a turn that raises: the frame is noted -/
abbrev nb (prog : Program) (w : World) (A : Around) (env : Env) (R : Result → Shared → Prop) : Value → Shared → Prop := notedBy (model prog w) A env fun x u => R (.error x) u
theorem sc2_loop0 (hf : ∀ x, foldedSetIterable d env x = pure x) (J : Nat → Shared → Prop)
    (one : ∀ n u, J n u → wpAny (model prog w) A (pyNext it) (fun r u1 => match r with
      | none => R (.ok .next) u1
      | some v => wpAny (model prog w) A (letOwnedTupleGo a it v) (fun _ u2 => wpAny (model prog w) A (assign a env v) (fun _ u3 =>
          wpAny (model prog w) A (eval d env) (fun x u4 => wpAny (model prog w) A (pyIter x) (fun jt u5 =>
            codeAny (model prog w) A (.compStart (sc2 e a b c d sp po) 1 jt acc env) (fun r u6 => match r with
              | .ok _ => ∃ m, m < n ∧ J m u6
              | .error _ => False) u5) (nb prog w A env R) u4) (nb prog w A env R) u3) (nb prog w A env R) u2) (nb prog w A env R) u1) (nb prog w A env R) u)
    (n : Nat) (h : J n s) : codeAny (model prog w) A (.compLoop (sc2 e a b c d sp po) 0 it acc env) R s := by
  refine codeAny_loop rfl J (fun n u hJ => ?_) n h
  show wpAny _ A ((compTurn (sc2 e a b c d sp po) 0 it acc env).onRaise (fun x => do noteFrame x env; theTreesLotGoes x)) _ _ u
  refine wpAny_noted ?_
  rw [sc2_out]
  refine wpAny_bind (wpAny_standAt (wpAny_bind (wpAny_mono (one n u hJ) (fun r u1 h1 => ?_) fun _ _ k => k)))
  cases r with
  | none => exact wpAny_pure h1
  | some v =>
    refine wpAny_bind (wpAny_mono h1 (fun _ u2 h2 => wpAny_bind (wpAny_mono h2 (fun _ u3 h3 => ?_) fun _ _ k => k)) fun _ _ k => k)
    refine wpAny_bind (wpAny_mono h3 (fun x u4 h4 => ?_) fun _ _ k => k)
    refine wpAny_bind (wpAny_standAt (wpAny_bind (wpAny_of_eq (hf x) (wpAny_bind (wpAny_holding (wpAny_mono h4 (fun jt u5 h5 => ?_) fun _ _ k => k))))))
    refine wpAny_bind (wpAny_runOwn ?_)
    rw [Around.mark_none]
    refine codeAny_mono h5 fun r u6 hr => ?_
    cases r with
    | error x => exact hr.elim
    | ok f =>
      first
        | exact wpAny_pure ⟨rfl, hr⟩
        | exact wpAny_bind (wpAny_pure (wpAny_pure ⟨rfl, hr⟩))
theorem sc2_loop1 (J : Nat → Shared → Prop)
    (one : ∀ n u, J n u → wpAny (model prog w) A (pyNext it) (fun r u1 => match r with
      | none => R (.ok .next) u1
      | some v => wpAny (model prog w) A (letOwnedTupleGo c it v) (fun _ u2 => wpAny (model prog w) A (assign c env v) (fun _ u3 =>
          wpAny (model prog w) A (eval e env) (fun x u4 => wpAny (model prog w) A (call (.builtin "set.add") [acc, x]) (fun _ u5 => ∃ m, m < n ∧ J m u5) (nb prog w A env R) u4) (nb prog w A env R) u3)
            (nb prog w A env R) u2) (nb prog w A env R) u1) (nb prog w A env R) u)
    (n : Nat) (h : J n s) : codeAny (model prog w) A (.compLoop (sc2 e a b c d sp po) 1 it acc env) R s := by
  refine codeAny_loop rfl J (fun n u hJ => ?_) n h
  show wpAny _ A ((compTurn (sc2 e a b c d sp po) 1 it acc env).onRaise (fun x => do noteFrame x env; theTreesLotGoes x)) _ _ u
  refine wpAny_noted ?_
  rw [sc2_in]
  refine wpAny_bind (wpAny_standAt (wpAny_bind (wpAny_mono (one n u hJ) (fun r u1 h1 => ?_) fun _ _ k => k)))
  cases r with
  | none => exact wpAny_pure h1
  | some v =>
    refine wpAny_bind (wpAny_mono h1 (fun _ u2 h2 => wpAny_bind (wpAny_mono h2 (fun _ u3 h3 => ?_) fun _ _ k => k)) fun _ _ k => k)
    refine wpAny_bind (wpAny_bind (wpAny_mono h3 (fun x u4 h4 => wpAny_bind (wpAny_standAt (wpAny_bind (wpAny_mono h4 (fun _ u5 h5 => ?_) fun _ _ k => k)))) fun _ _ k => k))
    first
      | exact wpAny_pure (wpAny_pure ⟨rfl, h5⟩)
      | exact wpAny_pure ⟨rfl, h5⟩
theorem sc2_begin (h0 : codeAny (model prog w) A (.compLoop (sc2 e a b c d sp po) 1 it acc env) R s)
    (h : wpAny (model prog w) A (pyIter it) (fun jt u => codeAny (model prog w) A (.compLoop (sc2 e a b c d sp po) 1 jt acc env) R u) (nb prog w A env R) s) :
    codeAny (model prog w) A (.compStart (sc2 e a b c d sp po) 1 it acc env) R s := by
  refine codeAny_of_tree ?_
  show wpAny _ _ ((compStart (sc2 e a b c d sp po) 1 it acc env).onRaise (fun x => do noteFrame x env; standAt theWindowsPlace)) _ _ s
  refine wpAny_notedAt ?_
  unfold compStart
  show wpAny _ _ (ask >>= _) _ _ s
  refine wpAny_bind (wpAny_askSetting (wpAny_ite ?_))
  split
  · first
      | exact wpAny_pure ⟨rfl, h0⟩
      | exact wpAny_bind (wpAny_pure (wpAny_pure ⟨rfl, h0⟩))
  · refine wpAny_bind (wpAny_rule ?_)
    show wpAny _ _ (standAt d.pos >>= _) _ _ s
    exact wpAny_bind (wpAny_standAt (wpAny_bind (wpAny_mono h (fun jt u k => wpAny_pure ⟨rfl, k⟩) fun _ _ k => k)))
end
end Su
namespace Su
open PySem PySem.Spec PyProof.Rows L2
section
variable {X : Cx}
/-- what the comprehension asks: the outer walk, in each of its turns the inner one, and each int put into the set -/
def tSC (w : World) (wo : TI) (go : TG) (wn : TI) (gn : TG) (te : TE) (vs vs1 : List Nat) : TE := fun σ H Q => wo σ H fun J H1 => ∀ D, H1 D = none →
  ∃ W : Nat → Nat → Hp → Prop, (∃ m, W 0 m (upd H1 D (SetO w D (fun _ => false) 0))) ∧ ∀ i m H, W i m H →
    (J.stop i H ∧ Q (.ref D) H) ∨
    (J.go i H ∧ ∃ Nx : Hp → Prop, (∀ H', Nx H' → ∃ m', m' < m ∧ W (i + 1) m' H') ∧ ∀ x H', J.yld i H x H' → go x (wipe σ vs) H' fun σ2 H2 => wipe σ2 vs = wipe σ vs ∧
      wn σ2 H2 fun L H3 => ∃ U : Nat → Nat → Hp → Prop, (∃ m, U 0 m H3) ∧ ∀ j k H, U j k H →
        (L.stop j H ∧ Nx H) ∨
        (L.go j H ∧ ∃ Ny : Hp → Prop, (∀ H', Ny H' → ∃ k', k' < k ∧ U (j + 1) k' H') ∧ ∀ y H', L.yld j H y H' → gn y (wipe σ2 vs1) H' fun σ3 H4 => wipe σ3 vs1 = wipe σ2 vs1 ∧
          te σ3 H4 fun z H5 => ∃ (c : Int) (S : Int → Bool) (n : Nat), z = .int c ∧ H5 D = some (SetO w D S n) ∧ n + 1 < scanBound ∧
            Ny (upd H5 D (SetO w D (fun j => S j || decide (j = c)) (if S c = true then n else n + 1)))))
abbrev setE (w : World) : Obj := { cls := .type "set", dict := none, data := .set #[] 0 (.fresh 0 0 (!w.params.followText "set-order")) }
theorem put_int {pins : List (Addr × Obj)} {σ : L2.St} {H : Hp} {s : Shared} {E : Value → Shared → Prop} {D : Addr} {S : Int → Bool} {n : Nat} {k : Int} {v : Value} {Q : Value → Shared → Prop}
    (I : Inv X pins σ H s) (hD : H D = some (SetO X.w D S n)) (few : n + 1 < scanBound) (r : RelV (.int k) v)
    (h : ∀ t, Inv X pins σ (upd H D (SetO X.w D (fun j => S j || decide (j = k)) (if S k = true then n else n + 1))) t → Q .none t) :
    wpAny (model X.prog X.w) X.A (call (.builtin "set.add") [.ref D, v]) Q E s := by
  obtain ⟨tk, rfl⟩ := r
  refine setR_add (setO_get I hD) few fun g sb new => ?_
  have there : ∃ u, g.get? D = some u := by
    have ⟨o, _, _, _, ho, _⟩ := new
    exact ⟨o, ho⟩
  refine h _ (I.write (e := D) (t' := s.toks + 1) (by rw [hD]; trivial) (.inl rfl) (fun b u hb hu => ?_) there (setO_new new))
  exact (sb.2 b hb).trans hu
theorem pe_sc2 {e a b c d : Expr} {sp : Scope} {own : List (Str × Nat)} {vs1 : List Nat} {pos : Pos} {wo wn : TI} {go gn : TG} {te : TE} (hc : X.calm = true) (hN : X.N.Nodup) (pio : PI X a b wo)
    (ok : BlkOk X.N X.env.scope sp own) (hv : ∀ i ∈ vs1, i ∈ own.map (·.2))
    (pgo : ∀ (s : Shared) (H : Hp) (C : Addr) (cl : List (Str × Addr)) (fp : List Addr), PG (X.blk s H sp (compEnvC sp cl C X.env) fp) a go)
    (pin : ∀ (s : Shared) (H : Hp) (C : Addr) (cl : List (Str × Addr)) (fp : List Addr), PI (X.blk s H sp (compEnvC sp cl C X.env) fp) c d wn)
    (pgn : ∀ (s : Shared) (H : Hp) (C : Addr) (cl : List (Str × Addr)) (fp : List Addr), PG (X.blk s H sp (compEnvC sp cl C X.env) fp) c gn)
    (pe : ∀ (s : Shared) (H : Hp) (C : Addr) (cl : List (Str × Addr)) (fp : List Addr), PE (X.blk s H sp (compEnvC sp cl C X.env) fp) e te)
    (fo : ∀ x, foldedSetIterable b X.env x = pure x := by intro _; rfl) (fn : ∀ env x, foldedSetIterable d env x = pure x := by intro _ _; rfl) :
    PE X (sc2 e a b c d sp pos) (tSC X.w wo go wn gn te (own.map (·.2)) vs1) := by
  refine ⟨fun pins s σ H Q I hq => ?_⟩
  rw [PpSet.eval_SetComp]
  have cl0 : ∀ y ∈ sp.names, y.2 = .free → ∃ k, X.env.cells.lookup y.1 = some k := by
    intro y hy z
    rcases ok.free y hy z with k | k
    · exact I.ok.has _ (.inl k)
    · exact I.ok.has _ (.inr k)
  refine wpAny_comprehension_free (use := none) rfl fo (closure_ok cl0) ok.kind (fun y hy z => by rw [ok.uniq y hy, z]) ?_
  refine thn (pio.run pins s σ H _ I hq) fun xv s1 hx => thn hx fun iv s2 h2 => ?_
  obtain ⟨it, fa, tn, J, Hb, rfl, Ib, T, stb, fb, q⟩ := h2
  refine PpSet.newSet_ok (newEnv_comp ?_)
  generalize eD : s2.heap.objs.size = D
  obtain ⟨W, ⟨m0, w0⟩, turn⟩ := q D (Ib.hok.fresh (Nat.le_of_eq eD))
  generalize e3 : ({ s2 with heap := s2.heap.push (setE X.w) } : Shared) = s3
  have hp3 : s3.heap = s2.heap.push (setE X.w) := by rw [← e3]
  have Ic : Inv X pins σ (upd Hb D (SetO X.w D (fun _ => false) 0)) s3 := by
    rw [← e3]
    refine Ib.laid (t' := s2.toks) (fun _ _ z => Heap.get?_push_of_some _ z) (Nat.le_of_eq eD) ?_
    rw [← eD]
    exact setO_new (setR_fresh X.w)
  have small : ∀ x ∈ fa, x < s2.heap.objs.size := by
    intro x hx
    obtain ⟨o, z, _⟩ := T.obj _ _ stb x hx
    exact Heap.lt_size z
  have fc : ∀ x ∈ fa, FpOk X pins (upd Hb D (SetO X.w D (fun _ => false) 0)) x ∧ x < s3.heap.objs.size := by
    intro x hx
    have lt := small x hx
    constructor
    · refine ⟨?_, (fb x hx).2⟩
      rw [upd_ne (by rw [← eD]; exact Nat.ne_of_lt lt)]
      exact (fb x hx).1
    · rw [hp3, Heap.size_push]
      exact Nat.lt_succ_of_lt lt
  have stc : tn 0 s3.heap := T.keep _ _ _ stb fun _ _ _ z => by
    rw [hp3]
    exact Heap.get?_push_of_some _ z
  have Id := block_start Ic ok hN fc
  have qgo := pgo s3 (upd Hb D (SetO X.w D (fun _ => false) 0)) s3.heap.objs.size (cellsFrom (s3.heap.objs.size + 1) sp.names (cloFrom X.env.cells sp.names [])) fa
  have qin := pin s3 (upd Hb D (SetO X.w D (fun _ => false) 0)) s3.heap.objs.size (cellsFrom (s3.heap.objs.size + 1) sp.names (cloFrom X.env.cells sp.names [])) fa
  have qgn := pgn s3 (upd Hb D (SetO X.w D (fun _ => false) 0)) s3.heap.objs.size (cellsFrom (s3.heap.objs.size + 1) sp.names (cloFrom X.env.cells sp.names [])) fa
  have qe := pe s3 (upd Hb D (SetO X.w D (fun _ => false) 0)) s3.heap.objs.size (cellsFrom (s3.heap.objs.size + 1) sp.names (cloFrom X.env.cells sp.names [])) fa
  have nofa : ∀ x ∈ fa, (upd Hb D (SetO X.w D (fun _ => false) 0)) x = none := fun x hx => (fc x hx).1.1
  show codeAny _ _ (.compStart (sc2 e a b c d sp pos) 0 (.ref it) (.ref D) (compEnvC sp (cellsFrom (s3.heap.objs.size + 1) sp.names (cloFrom X.env.cells sp.names [])) s3.heap.objs.size X.env)) _ { s3 with heap := pushCells (s3.heap.push { cls := .type "dict", data := .dict #[] }) sp.names }
  generalize eE : compEnvC sp (cellsFrom (s3.heap.objs.size + 1) sp.names (cloFrom X.env.cells sp.names [])) s3.heap.objs.size X.env = en at Id qgo qin qgn qe ⊢
  have locE : en.locals = s3.heap.objs.size := by
    subst eE
    rfl
  generalize eH : upd Hb D (SetO X.w D (fun _ => false) 0) = Hc at Ic Id qgo qin qgn qe w0 nofa fc
  generalize e4 : ({ s3 with heap := pushCells (s3.heap.push { cls := .type "dict", data := .dict #[] }) sp.names } : Shared) = s4 at Id ⊢
  have std : tn 0 s4.heap := T.keep _ _ _ stc fun _ _ _ z => by
    rw [← e4]
    exact pushCells_keeps _ _ _ _ (Heap.get?_push_of_some _ z)
  have foot : ∀ {τ : L2.St} {G : Hp} {t : Shared}, Inv (X.blk s3 Hc sp en fa) [] τ G t → (∀ x ∈ fa, G x = none) → ∀ x ∈ fa, FpOk (X.blk s3 Hc sp en fa) [] G x := by
    intro τ G t It hn x hx
    refine ⟨hn x hx, (It.ok.exf x hx).1, It.ok.exfs x hx, .inl hx, fun y k z => (It.ok.exf x hx).2 y k z, fun p hp => ?_⟩
    exact absurd (show p ∈ ([] : List (Addr × Obj)) ++ [] from hp) (by simp)
  have main : codeAny (model X.prog X.w) X.A (.compLoop (sc2 e a b c d sp pos) 0 (.ref it) (.ref D) en) (compPost (model X.prog X.w) X.A X.xe none (fun u t => EP X pins σ Q u t) (.ref D) s3.heap.objs.size) s4 := by
    refine sc2_loop0 (fn en) (fun n t => ∃ i G, Inv (X.blk s3 Hc sp en fa) [] (wipe σ (own.map (·.2))) G t ∧ tn i t.heap ∧ (∀ x ∈ fa, G x = none) ∧ W i n G) ?_ m0 ⟨0, Hc, Id, std, nofa, w0⟩
    rintro n s5 ⟨i, H5, I5, st5, n5, w5⟩
    rcases turn i n H5 w5 with ⟨stop, qq⟩ | ⟨hgo, Nx, hNx, step⟩
    · refine thnF (T.done (X.blk s3 Hc sp en fa) rfl rfl rfl hc i [] s5 _ H5 (fun _ _ => False) I5 (foot I5 n5) st5 stop) fun r s6 ⟨hr, I6⟩ => ?_
      subst hr
      have I7 : Inv X pins σ H5 s6 := by
        refine Ic.call' (ch := fa) I6.os I6.base I6.hok I6.bare fun x hx => ?_
        have z := (fc x hx).1.2
        exact ⟨z.2.2.1, z.1, z.2.2.2.1, z.2.2.2.2⟩
      have nl : H5 s3.heap.objs.size = none := by
        have z : H5 en.locals = none := I6.free
        rwa [locE] at z
      obtain ⟨m, hn, _⟩ := I6.loc
      have hn2 : s6.heap.Ns en.locals m := hn
      rw [locE] at hn2
      obtain ⟨f0, f1, f2, f3, f4, f5⟩ := Ic.fpOk (Nat.le_refl _) nl
      refine ⟨m, hn2, fun g sb => ?_⟩
      exact ⟨.ref D, H5, I7.turned (t' := s6.toks) (fun y o hy z => (sb.2 y hy).trans z) f0 f1 f3 f4 f5, rfl, qq⟩
    · refine thnF (T.item (X.blk s3 Hc sp en fa) rfl rfl rfl hc i [] s5 _ H5 (fun _ _ => False) I5 (foot I5 n5) st5 hgo) fun r s6 ⟨u, hr, h6⟩ => ?_
      subst hr
      refine thnF h6 fun _ s7 ⟨x, H7, I7, r7, y7, st7, n7⟩ => ?_
      refine thnF (qgo.run _ s7 _ H7 x u _ (I7.pinned (foot I7 n7) (T.obj _ _ st7)) r7 (step x H7 y7)) fun _ s8 ⟨σ8, H8, I8, hw8, q8⟩ => ?_
      have shut : ∀ {τ : L2.St} {t : Shared} {G : Hp}, Inv (X.blk s3 Hc sp en fa) ([] ++ pinsAt fa s7.heap) τ G t → (wipe σ (own.map (·.2))).length = τ.length →
          (∀ (j : Nat) v, (wipe σ (own.map (·.2)))[j]? = some (some v) → τ[j]? = some (some v)) → Nx G →
          ∃ m, m < n ∧ ∃ i G, Inv (X.blk s3 Hc sp en fa) [] (wipe σ (own.map (·.2))) G t ∧ tn i t.heap ∧ (∀ x ∈ fa, G x = none) ∧ W i m G := by
        intro τ t G It hl hk nx
        obtain ⟨m', lt, w'⟩ := hNx G nx
        have held : ∀ y ∈ fa, ∀ o, s7.heap.get? y = some o → t.heap.get? y = some o ∧ G y = none := by
          intro y hy o z
          have k := It.pin (y, o) (List.mem_append_right _ (List.mem_append_right _ (mem_pinsAt hy z)))
          exact ⟨k.1, k.2.1⟩
        refine ⟨m', lt, i + 1, G, (It.unpinned (pins := [])).weak hl hk, T.keep _ _ _ st7 fun y hy o z => (held y hy o z).1, fun y hy => ?_, w'⟩
        obtain ⟨o, z, _⟩ := T.obj _ _ st7 y hy
        exact (held y hy o z).2
      have len8 : (wipe σ (own.map (·.2))).length = σ8.length := by
        rw [← hw8, wipe_length]
      have keep8 : ∀ (j : Nat) v, (wipe σ (own.map (·.2)))[j]? = some (some v) → (wipe σ8 vs1)[j]? = some (some v) := by
        intro j v z
        rw [← hw8] at z
        obtain ⟨z1, z2⟩ := wipe_some z
        rw [wipe_out fun k => z2 (hv j k)]
        exact z1
      refine thnF (qin.run _ s8 σ8 H8 _ I8 q8) fun xv s9 hx => thnF hx fun iw s10 h10 => ?_
      obtain ⟨jt, fi, tm, L, H10, rfl, I10, T1, st10, f10, U, ⟨m1, u1⟩, turn1⟩ := h10
      have foot1 : ∀ {G : Hp}, (∀ y ∈ fi, G y = none) → ∀ y ∈ fi, FpOk (X.blk s3 Hc sp en fa) ([] ++ pinsAt fa s7.heap) G y := fun hn y hy => ⟨hn y hy, (f10 y hy).2⟩
      have inner : codeAny (model X.prog X.w) X.A (.compLoop (sc2 e a b c d sp pos) 1 (.ref jt) (.ref D) en)
          (fun r t => match r with
            | .ok _ => ∃ m, m < n ∧ ∃ i G, Inv (X.blk s3 Hc sp en fa) [] (wipe σ (own.map (·.2))) G t ∧ tn i t.heap ∧ (∀ x ∈ fa, G x = none) ∧ W i m G
            | .error _ => False) s10 := by
        refine sc2_loop1 (fun k t => ∃ j G, Inv (X.blk s3 Hc sp en fa) ([] ++ pinsAt fa s7.heap) (wipe σ8 vs1) G t ∧ tm j t.heap ∧ (∀ y ∈ fi, G y = none) ∧ U j k G) ?_ m1
          ⟨0, H10, I10.weak (wipe_length _ _) (fun j v z => (wipe_some z).1), st10, fun y hy => (f10 y hy).1, u1⟩
        rintro k s11 ⟨j, H11, I11, st11, n11, w11⟩
        rcases turn1 j k H11 w11 with ⟨stop1, nx1⟩ | ⟨go1, Ny, hNy, step1⟩
        · refine thnF (T1.done (X.blk s3 Hc sp en fa) rfl rfl rfl hc j _ s11 (wipe σ8 vs1) H11 (fun _ _ => False) I11 (foot1 n11) st11 stop1) fun r s12 ⟨hr, I12⟩ => ?_
          subst hr
          exact shut I12 (len8.trans (wipe_length σ8 vs1).symm) keep8 nx1
        · refine thnF (T1.item (X.blk s3 Hc sp en fa) rfl rfl rfl hc j _ s11 (wipe σ8 vs1) H11 (fun _ _ => False) I11 (foot1 n11) st11 go1) fun r s12 ⟨v1, hr, h12⟩ => ?_
          subst hr
          refine thnF h12 fun _ s13 ⟨x1, H13, I13, r13, y13, st13, n13⟩ => ?_
          refine thnF (qgn.run _ s13 (wipe σ8 vs1) H13 x1 v1 _ (I13.pinned (foot1 n13) (T1.obj _ _ st13)) r13 (step1 x1 H13 y13)) fun _ s14 ⟨σ14, H14, I14, hw14, q14⟩ => ?_
          refine thnF (qe.run _ s14 σ14 H14 _ I14 q14) fun z s15 ⟨yv, H15, I15, r15, cc, S, nn, ey, hD15, few, nx⟩ => ?_
          subst ey
          refine put_int (X := X.blk s3 Hc sp en fa) I15 hD15 few r15 fun s16 I16 => ?_
          obtain ⟨m', lt, w'⟩ := hNy _ nx
          have held : ∀ y ∈ fi, ∀ o, s13.heap.get? y = some o → s16.heap.get? y = some o ∧ (upd H15 D (SetO X.w D (fun j => S j || decide (j = cc)) (if S cc = true then nn else nn + 1))) y = none := by
            intro y hy o z
            have k := I16.pin (y, o) (List.mem_append_right _ (List.mem_append_right _ (mem_pinsAt hy z)))
            exact ⟨k.1, k.2.1⟩
          refine ⟨m', lt, j + 1, _, I16.unpinned.weak (by rw [← hw14, wipe_length]) (fun j v z => by rw [← hw14] at z; exact (wipe_some z).1), T1.keep _ _ _ st13 fun y hy o z => (held y hy o z).1, fun y hy => ?_, w'⟩
          obtain ⟨o, z, _⟩ := T1.obj _ _ st13 y hy
          exact (held y hy o z).2
      exact sc2_begin inner (T1.self X.A 0 _ _ _ st10 inner)
  exact PpSet.codeAny_compStart_set main (T.self X.A 0 _ _ _ std main)
end
end Su
/-! ### SE: sets of ints: set(l), sorted(s) of any size -/
namespace Su
open PySem PySem.Spec PyProof.Rows L2
/-- the set that set(..) begins with -/
abbrev set0 (w : World) : Obj := { cls := .type "set", dict := none, data := .set #[] 0 (.fresh 0 0 (!w.params.followText "set-order")) }
section
variable {P : Program} {w : World} {A : Around} {E : Value → Shared → Prop} {s : Shared}
theorem set_of_list {l : Addr} {its : Array Value} (ns : List Int) {Q : Value → Shared → Prop} (hh : A.handled = none) (hl : s.heap.IsList l its) (ia : IntsAre its.toList ns) (few : ns.length + 1 < scanBound)
    (q : ∀ (h' : Heap) (tk c : Nat), SetR w h' s.heap.objs.size (fun j => decide (j ∈ ns)) c → c ≤ ns.length → (∀ b o, s.heap.get? b = some o → h'.get? b = some o) → Q (.ref s.heap.objs.size) { s with heap := h', toks := tk }) :
    wpAny (model P w) A (call (.type "set") [.ref l]) Q E s := by
  have sz : its.size = ns.length := by
    have z := IntsAre.length ia
    rwa [Array.length_toList] at z
  obtain ⟨c0, tl0, m0⟩ := F.called_set.mro
  have m1 := F.called_set.made
  have m2 := F.called_set.sub
  have m3 := F.called_set.notType
  have m4 := F.called_set.canCreate
  have m5 := F.typeCall_set_1 (.ref l)
  refine wpAny_call (codeAny_of_tree ?_)
  show wpAny _ _ (callAny (.type "set") _) _ _ _
  refine wpAny_pure ⟨Code.quiet_builtin _ (by decide +kernel), codeAny_builtin F.entry_type_call ?_⟩
  rw [Around.under_plain (weight_type_call_type "set" [.ref l] []) rfl]
  repeat (any_goals (first | assumption | wp_step))
  refine codeAny_mono (code_set_led1 (.ref l) (E := E) (Q₁ := fun x t => x = .ref s.heap.objs.size ∧ t = { s with heap := s.heap.push (set0 w) }) ⟨rfl, rfl⟩) fun r t hr => ?_
  match r, hr with
  | .error e, hr => exact hr
  | .ok .next, hr => exact hr.elim
  | .ok .brk, hr => exact hr.elim
  | .ok .cont, hr => exact hr.elim
  | .ok (.ret x), hr =>
    obtain ⟨rfl, rfl⟩ := hr
    have at0 : (s.heap.push (set0 w)).get? s.heap.objs.size = some (set0 w) := Heap.get?_push_size _ rfl
    have ty0 : Shared.TypeIs { s with heap := s.heap.push (set0 w) } (.ref s.heap.objs.size) "set" := ⟨_, at0, rfl⟩
    have n1 := F.called_set.init.lookup
    have n2 := F.called_set.init.bind (.ref s.heap.objs.size)
    repeat (any_goals (first | assumption | wp_step))
    refine codeAny_mono (codeAny_call_builtin (R := wants (fun r t => r = .none ∧ ∃ h' tk c, t = { s with heap := h', toks := tk } ∧ SetR w h' s.heap.objs.size (fun j => decide (j ∈ ns)) c ∧ c ≤ ns.length ∧ ∀ b o, s.heap.get? b = some o → h'.get? b = some o) E)
      F.called_set.init.plain F.entry_set_init (check_set_init_1 ty0 ?_)) fun r2 t2 hr2 => ?_
    · obtain ⟨⟨oc, od, odt, os⟩, ho, hc, nl, hd⟩ := hl
      simp only at hc hd
      subst hc hd
      have lt : l < s.heap.objs.size := Heap.lt_size ho
      have ho1 : (s.heap.push (set0 w)).get? l = some { cls := .type "list", dict := od, data := .seq its nl, slots := os } := Heap.get?_push_of_some _ ho
      have isl : (s.heap.push (set0 w)).IsList l its := ⟨_, ho1, rfl, nl, rfl⟩
      have p1 := F.sub_list_set
      have p2 := F.sub_list_frozenset
      have p3 : (Value.type "list" == Value.type "dict") = false := by decide
      unfold Builtin.«set.__init__» noKeywords Builtin.Frozenset.updateFrom
      generalize hPI : pyIter = PI
      wp_walk
      subst hPI
      refine wpAny_pyIter_list isl (wpAny_bind (wpAny_runValue ?_))
      have size1 : (s.heap.push (set0 w)).objs.size = s.heap.objs.size + 1 := Heap.size_push ..
      have ap : l ≠ (s.heap.push (set0 w)).objs.size := by
        rw [size1]
        exact Nat.ne_of_lt (Nat.lt_succ_of_lt lt)
      have ap2 : s.heap.objs.size ∉ [(s.heap.push (set0 w)).objs.size, l] := by
        rw [size1]
        simp only [List.mem_cons, List.not_mem_nil, or_false, not_or]
        exact ⟨Nat.ne_of_lt (Nat.lt_succ_self _), Nat.ne_of_gt lt⟩
      refine set_update_ints ((Walks.list (by simp [hh]) _ l ap its).toS) s.heap.objs.size ap2 ns sz few (fun i v hv => ?_) (its.size - 0) 0 _ (by omega) (Nat.zero_le _) ⟨⟨_, Heap.get?_push_size _ rfl, rfl, rfl⟩, isl.push _⟩ ⟨0, Nat.le_refl 0, setR_new_at (Heap.get?_push_of_some _ at0)⟩ fun t3 c3 mv hc3 hS3 => ?_
      · have hi : i < ns.length := by
          rw [← sz]
          exact (Array.getElem?_eq_some_iff.mp hv).1
        obtain ⟨tk, e⟩ := PyProof.Rows.IntsAre.int_at ia i v (by rw [Array.getElem?_toList]; exact hv)
        refine ⟨ns[i], tk, List.getElem?_eq_getElem hi, ?_⟩
        rw [e, List.getD_eq_getElem?_getD, List.getElem?_eq_getElem hi] <;> rfl
      · obtain ⟨h3, g3, d3, tk3, os3⟩ := t3
        obtain rfl : g3 = s.gens := mv.gens
        obtain rfl : d3 = s.drawn := mv.drawn
        obtain rfl : os3 = s.os := mv.os
        show wpAny _ _ _ _ _ _
        refine wpAny_pure ?_
        show wpAny _ _ (ret Value.none) _ _ _
        refine wpAny_pure ⟨rfl, h3, tk3, c3, rfl, hS3, by omega, fun b o e => ?_⟩
        have bl : b < s.heap.objs.size := Heap.lt_size e
        refine mv.heap b o ?_ (Heap.get?_push_of_some _ (Heap.get?_push_of_some _ e))
        rw [size1]
        simp only [List.mem_cons, List.not_mem_nil, or_false, not_or]
        exact ⟨Nat.ne_of_lt bl, Nat.ne_of_lt (Nat.lt_succ_of_lt bl)⟩
    · match r2, hr2 with
      | .error e, hr2 => exact hr2
      | .ok .next, hr2 => exact hr2.elim
      | .ok .brk, hr2 => exact hr2.elim
      | .ok .cont, hr2 => exact hr2.elim
      | .ok (.ret y), hr2 =>
        obtain ⟨rfl, h', tk, c, rfl, hS, hc, hk⟩ := hr2
        repeat (any_goals (first | assumption | wp_step))
        exact q _ _ _ hS hc hk
end
/-- a set of ints whose members are those of l -/
def SetIs (w : World) (H : Hp) (D : Addr) (l : List Int) : Prop := ∃ (S : Int → Bool) (n : Nat) (d : List Int), H D = some (SetO w D S n) ∧ d.Nodup ∧ d.length = n ∧ (∀ k, S k = true ↔ k ∈ d) ∧ ∀ k, k ∈ d ↔ k ∈ l
theorem SetIs.add {w : World} {H : Hp} {D : Addr} {l : List Int} (h : SetIs w H D l) {A : List Int} (hA : A.length < 1000) (hl : ∀ k ∈ l, k ∈ A) (c : Int) :
    ∃ (S : Int → Bool) (n : Nat), H D = some (SetO w D S n) ∧ n + 1 < scanBound ∧ ∀ (H' : Hp), H' D = some (SetO w D (fun j => S j || decide (j = c)) (if S c = true then n else n + 1)) → SetIs w H' D (l ++ [c]) := by
  obtain ⟨S, n, d, e, nd, hn, hS, hd⟩ := h
  have z := nodup_few (S := A) nd fun k hk => hl k ((hd k).mp hk)
  refine ⟨S, n, e, by unfold scanBound; omega, fun H' e' => ?_⟩
  by_cases hc : S c = true
  · rw [if_pos hc] at e'
    refine ⟨_, n, d, e', nd, hn, fun k => ?_, fun k => ?_⟩
    · rw [Bool.or_eq_true, decide_eq_true_eq, hS k]
      constructor
      · rintro (h | rfl)
        · exact h
        · exact (hS k).mp hc
      · exact .inl
    · rw [List.mem_append, List.mem_singleton, hd k]
      constructor
      · exact .inl
      · rintro (h | rfl)
        · exact h
        · exact (hd k).mp ((hS k).mp hc)
  · rw [if_neg hc] at e'
    refine ⟨_, n + 1, c :: d, e', List.nodup_cons.mpr ⟨fun h => hc ((hS c).mpr h), nd⟩, by rw [List.length_cons, hn], fun k => ?_, fun k => ?_⟩
    · rw [Bool.or_eq_true, decide_eq_true_eq, hS k, List.mem_cons]
      exact Or.comm
    · rw [List.mem_append, List.mem_singleton, List.mem_cons, hd k]
      exact Or.comm
theorem SetIs.of {w : World} {h : Heap} {H : Hp} {D : Addr} {S : Int → Bool} {c : Nat} {l : List Int} (R : SetR w h D S c) (e : H D = some (SetO w D S c)) (hl : ∀ k, S k = true ↔ k ∈ l) : SetIs w H D l := by
  obtain ⟨o, es, ep, t, ho, hex, hd, g, nd, hm, hb, hf, hn, _⟩ := R
  exact ⟨S, c, es.toList.map keyOf, e, nd, by rw [List.length_map, Array.length_toList]; exact hn, hm, fun k => (hm k).symm.trans (hl k)⟩
section
variable {X : Cx}
/-- set(l), l a list of ints -/
def rSetL (w : World) (K : PySem.W.Frag) : List V → Hp → VK → Prop := fun xs H Q => ∃ (l : Addr) (ns : List Int), xs = [.ref l] ∧ SqL K H l (ns.map V.int) ∧ ns.length ≤ 4000 ∧ ∀ (p : Addr) (H' : Hp), Same H H' → H p = none → SetIs w H' p ns → Q (.ref p) H'
theorem cr_setL (hc : X.calm = true) : CallR X (.type "set") (rSetL X.w X.K) := by
  intro pins s σ H xs us Q I r h
  obtain ⟨l, ns, rfl, hq, hl, q⟩ := h
  rw [Vals.ref1 r]
  obtain ⟨its, rv, pl, hz⟩ := I.list hq
  refine set_of_list ns (I.ok.hd hc) pl.isList (by simpa using ints_of rv) (by unfold scanBound; omega) fun h' tk c hR hc' hk => ?_
  have new : H s.heap.objs.size = none := I.hok.fresh (Nat.le_refl _)
  refine ⟨.ref s.heap.objs.size, _, I.laid (t' := tk) hk (Nat.le_refl _) (setO_new hR), rfl, q _ _ (same_upd new) new ?_⟩
  exact SetIs.of hR upd_same fun k => decide_eq_true_iff
/-- sorted(s), s a set of ints -/
theorem sorted_setA {P : Program} {w : World} {A : Around} {E : Value → Shared → Prop} {s : Shared} {a : Addr} {S : Int → Bool} {n : Nat} {Q : Value → Shared → Prop} (R : SetR w s.heap a S n) (hh : A.handled = none)
    (q : ∀ (t : Shared) (p : Addr) (out : Array Value) (c : Nat) (ns : List Int), (∀ b o, s.heap.get? b = some o → t.heap.get? b = some o) → t.gens = s.gens → t.os = s.os → s.heap.objs.size ≤ p →
      t.heap.get? p = some (seqObj "list" out c) → IntsAre out.toList ns → ns.Pairwise (· < ·) → (∀ k, k ∈ ns ↔ S k = true) → ns.length < 4096 → Q (.ref p) t) :
    wpAny (model P w) A (call (.builtin "sorted") [.ref a]) Q E s := by
  obtain ⟨o, es, ep, t, ho, hex, hd, g, nd, hm, hb, hf, hn, hr, hl⟩ := R
  refine Calls.call_function_entry kind_sorted plain_sorted entry_sorted (args_sorted1 _) ?_
  unfold Builtin.«sorted»
  refine wpAny_bind (m := checkCount "sorted" 1 1 _) (wpAny_pure (wpAny_bind (collect_set (A := A.in1) hh ⟨o, ho, hex.1, hd⟩ hf hb hr hl fun s1 vs k1 hz g1 o1 pm => ?_)))
  have len : vs.length = es.size := by
    rw [pm.length_eq, List.length_map, Array.length_toList]
  have hI : IntsAre vs (vs.map Builtin.Re.reRawOf) := L2.ints_of vs fun v hv => by
    obtain ⟨x, hx, z⟩ := List.mem_map.mp (pm.mem_iff.mp hv)
    obtain ⟨k, tk, h1, _⟩ := g x hx
    exact ⟨k, tk, z ▸ h1⟩
  have pk : (vs.map Builtin.Re.reRawOf).Perm (es.toList.map keyOf) := by
    have z := pm.map Builtin.Re.reRawOf
    rwa [List.map_map] at z
  have small : vs.length ≤ sizeLine := by
    have : es.size < 4096 := hb
    rw [len, sizeLine_eq]
    omega
  refine wpAny_bind (wpAny_newList ?_ small)
  have at1 : (s1.heap.push (seqObj "list" vs.toArray 0)).get? s1.heap.objs.size = some (seqObj "list" vs.toArray 0) := Heap.get?_push_size _ rfl
  refine wpAny_bind (wpAny_holding (wpAny_call_entry slot_list_sort ⟨_, at1, rfl⟩ entry_list_sort (SrtO.list_sort_ord SrtO.swo_int at1 small (fun h2 => SrtO.ints_sortable hI h2) fun out h1 h2 => ⟨_, rfl, ?_⟩) (args_list_sort _)))
  obtain ⟨k3, k4, k5⟩ := SrtO.ints_out hI h1 h2
  obtain ⟨c, hc⟩ := sortedHeap_at (vs := vs) (out := out.toArray) at1
  have pn := k4.trans pk
  refine wpAny_pure ⟨_, rfl, q _ s1.heap.objs.size out.toArray c (out.map SrtO.iv) (fun b u z => ?_) g1 o1 hz hc k3 (lt_of_le_nodup _ k5 (pn.nodup_iff.mpr nd)) (fun k => by rw [pn.mem_iff, ← hm k]) ?_⟩
  · have y := k1 b u z
    have lt := Heap.lt_size y
    show (sortedHeap (s1.heap.push (seqObj "list" vs.toArray 0)) s1.heap.objs.size vs out.toArray).get? b = some u
    rw [sortedHeap_old (Nat.ne_of_lt lt) (by rw [size_push']; exact Nat.lt_succ_of_lt lt)]
    exact Heap.get?_push_of_some _ y
  · rw [pn.length_eq, List.length_map, Array.length_toList]
    exact hb
def rSortedS (w : World) : List V → Hp → VK → Prop := fun vs H Q => ∃ (a : Addr) (l : List Int), vs = [.ref a] ∧ SetIs w H a l ∧ ∀ (ns : List Int) (p : Addr), ns.Pairwise (· < ·) → (∀ k : Int, k ∈ ns ↔ k ∈ l) → H p = none → Q (.ref p) (upd H p (.lst (ns.map V.int)))
theorem cr_sortedS (hc : X.calm = true) : CallR X (.builtin "sorted") (rSortedS X.w) := by
  intro pins s σ H vs us Q I r h
  obtain ⟨a, l, rfl, ⟨S, n, d, ha, nd, hn, hS, hd⟩, q⟩ := h
  rw [Vals.ref1 r]
  refine sorted_setA (setO_get I ha) (I.ok.hd hc) fun t p out c ns k g o hp hg hi hs hm hl => ?_
  have len : (ns.map V.int).length ≤ sizeLine := by
    rw [List.length_map, sizeLine_eq]
    omega
  have new : H p = none := I.hok.fresh hp
  have J : Inv X pins σ (upd H p (.lst (ns.map V.int))) { s with heap := t.heap, gens := t.gens, drawn := t.drawn, toks := t.toks } :=
    I.call (ch := []) (Un.laid k hp new) (I.hok.laid k hp ⟨len, out.toList, c, vals_of_ints hi, hg⟩) (by rw [g]; exact I.bare) (fun _ z => nomatch z)
  have et : t = { s with heap := t.heap, gens := t.gens, drawn := t.drawn, toks := t.toks } := by
    cases t
    cases s
    cases o
    rfl
  rw [et]
  exact ⟨.ref p, _, J, rfl, q ns p hs (fun k => (hm k).trans ((hS k).trans (hd k))) new⟩
end
end Su
/-! ### WA: webs in the heap -/
namespace Su
open PySem PySem.Spec PyProof.Rows L2
/-- a tuple, by whatever it was made -/
def T2 (H : Hp) (a : Addr) (xs : List V) : Prop := PTup H a xs ∨ H a = some (.tup xs)
theorem T2.sq {K : PySem.W.Frag} {H : Hp} {a : Addr} {xs : List V} (h : T2 H a xs) : SqT K H a xs := by
  rcases h with h | h
  · exact h.sq
  · exact .inl (.inl h)
theorem T2.same {H H' : Hp} {a : Addr} {xs : List V} (h : T2 H a xs) (s : Same H H') : T2 H' a xs := by
  rcases h with h | h
  · exact .inl (h.same s)
  · exact .inr (s _ _ h)
theorem T2.ty {K : PySem.W.Frag} {H : Hp} {a : Addr} {xs : List V} (h : T2 H a xs) : TyX K H (.ref a) (.type "tuple") := by
  rcases h with ⟨o, h, _⟩ | h
  · exact .fTuple h
  · exact .base (.tup h)
/-- all tuples stay -/
def K2 (H H' : Hp) : Prop := ∀ a xs, T2 H a xs → T2 H' a xs
theorem K2.same {H H' : Hp} (s : Same H H') : K2 H H' := fun _ _ h => h.same s
theorem K2.trans {H H1 H2 : Hp} (a : K2 H H1) (b : K2 H1 H2) : K2 H H2 := fun x xs h => b x xs (a x xs h)
/-- what is no tuple may be changed -/
theorem K2.upd {H : Hp} {a : Addr} {o u : HO} (e : H a = some o) (n : ∀ xs, o ≠ .tup xs) (n2 : ∀ b xs, o ≠ .frz b (.tup xs)) : K2 H (upd H a u) := by
  rintro b xs (⟨ob, h, d⟩ | h)
  · refine .inl ⟨ob, ?_, d⟩
    rw [upd_ne]
    · exact h
    · rintro rfl
      rw [e] at h
      cases h
      exact n2 _ _ rfl
  · refine .inr ?_
    rw [upd_ne]
    · exact h
    · rintro rfl
      rw [e] at h
      cases h
      exact n _ rfl
theorem K2.lst {H : Hp} {a : Addr} {xs : List V} {u : HO} (e : H a = some (.lst xs)) : K2 H (L2.upd H a u) := K2.upd e (fun _ z => nomatch z) (fun _ _ z => nomatch z)
abbrev Rw := List Int × List Int
def RowAt (H : Hp) (v : V) (r : Rw) : Prop := ∃ a b c, v = .ref a ∧ T2 H a [.ref b, .ref c] ∧ T2 H b (r.1.map V.int) ∧ T2 H c (r.2.map V.int)
theorem RowAt.keep {H H' : Hp} {v : V} {r : Rw} (k : K2 H H') (h : RowAt H v r) : RowAt H' v r := by
  obtain ⟨a, b, c, e, h1, h2, h3⟩ := h
  exact ⟨a, b, c, e, k _ _ h1, k _ _ h2, k _ _ h3⟩
def RowsAt (H : Hp) : List V → List Rw → Prop
  | [], [] => True
  | v :: vs, r :: rs => RowAt H v r ∧ RowsAt H vs rs
  | _, _ => False
theorem RowsAt.keep {H H' : Hp} (k : K2 H H') : ∀ {vs : List V} {rs : List Rw}, RowsAt H vs rs → RowsAt H' vs rs
  | [], [], _ => trivial
  | _ :: _, _ :: _, h => ⟨h.1.keep k, RowsAt.keep k h.2⟩
  | [], _ :: _, h => h.elim
  | _ :: _, [], h => h.elim
theorem RowsAt.len {H : Hp} : ∀ {vs : List V} {rs : List Rw}, RowsAt H vs rs → vs.length = rs.length
  | [], [], _ => rfl
  | _ :: _, _ :: _, h => by rw [List.length_cons, List.length_cons, RowsAt.len h.2]
  | [], _ :: _, h => h.elim
  | _ :: _, [], h => h.elim
theorem RowsAt.get {H : Hp} : ∀ {vs : List V} {rs : List Rw}, RowsAt H vs rs → ∀ {i : Nat} {v : V}, vs[i]? = some v → ∃ r, rs[i]? = some r ∧ RowAt H v r
  | [], [], _, i, v, e => by simp at e
  | _ :: _, _ :: _, h, 0, v, e => by
    obtain rfl := (by simpa using e : _ = v)
    exact ⟨_, rfl, h.1⟩
  | _ :: _, _ :: _, h, i + 1, v, e => RowsAt.get h.2 (i := i) (by simpa using e)
  | [], _ :: _, h, _, _, _ => h.elim
  | _ :: _, [], h, _, _, _ => h.elim
theorem RowsAt.app {H : Hp} : ∀ {vs ws : List V} {rs qs : List Rw}, RowsAt H vs rs → RowsAt H ws qs → RowsAt H (vs ++ ws) (rs ++ qs)
  | [], _, [], _, _, h => h
  | _ :: _, _, _ :: _, _, g, h => ⟨g.1, RowsAt.app g.2 h⟩
  | [], _, _ :: _, _, g, _ => g.elim
  | _ :: _, _, [], _, g, _ => g.elim
theorem RowsAt.snoc {H : Hp} {vs : List V} {rs : List Rw} {v : V} {r : Rw} (g : RowsAt H vs rs) (h : RowAt H v r) : RowsAt H (vs ++ [v]) (rs ++ [r]) := g.app ⟨h, trivial⟩
theorem RowsAt.of {H : Hp} : ∀ {vs : List V} {rs : List Rw}, vs.length = rs.length → (∀ (i : Nat) (v : V) (r : Rw), vs[i]? = some v → rs[i]? = some r → RowAt H v r) → RowsAt H vs rs
  | [], [], _, _ => trivial
  | v :: vs, r :: rs, e, h => ⟨h 0 v r rfl rfl, RowsAt.of (by simpa using e) fun i x y h1 h2 => h (i + 1) x y h1 h2⟩
  | [], _ :: _, e, _ => by simp at e
  | _ :: _, [], e, _ => by simp at e
/-- a web in the heap -/
def WebAt (H : Hp) (p : Addr) (rs : List Rw) : Prop := ∃ ws, H p = some (.lst ws) ∧ RowsAt H ws rs
theorem WebAt.same {H H' : Hp} {p : Addr} {rs : List Rw} (h : WebAt H p rs) (s : Same H H') : WebAt H' p rs := by
  obtain ⟨ws, e, r⟩ := h
  exact ⟨ws, s _ _ e, r.keep (K2.same s)⟩
/-- rising numbers within a bound -/
structure Ris (lo hi : Int) (ns : List Int) : Prop where
  pw : ns.Pairwise (· < ·)
  lo : ∀ k ∈ ns, lo ≤ k
  hi : ∀ k ∈ ns, k ≤ hi
structure RowOk (n : Nat) (r : Rw) : Prop where
  rooms : Ris 0 99 r.1
  few : r.1.length ≤ 6
  tos : Ris 0 ((n : Int) - 1) r.2
def allRooms (rs : List Rw) : List Int := (rs.map Prod.fst).flatten
structure WebOk (rs : List Rw) : Prop where
  pos : 1 ≤ rs.length
  few : rs.length ≤ 80
  row : ∀ r ∈ rs, RowOk rs.length r
  all : ∃ S : List Int, S.length ≤ 12 ∧ ∀ k ∈ allRooms rs, k ∈ S
theorem ris_len {ns : List Int} {n : Nat} : Ris 0 ((n : Int) - 1) ns → ns.length ≤ n := by
  induction n generalizing ns with
  | zero =>
    intro h
    cases ns with
    | nil => exact Nat.le_refl _
    | cons a l =>
      have h1 := h.lo a List.mem_cons_self
      have h2 := h.hi a List.mem_cons_self
      omega
  | succ n ih =>
    intro h
    rcases List.eq_nil_or_concat ns with e | ⟨l, a, e⟩
    · rw [e]
      exact Nat.zero_le _
    · rw [List.concat_eq_append] at e
      subst e
      have pw := List.pairwise_append.mp h.pw
      have ha := h.hi a (List.mem_append_right _ List.mem_cons_self)
      have z := ih (ns := l) ⟨pw.1, fun k hk => h.lo k (List.mem_append_left _ hk), fun k hk => by
        have := pw.2.2 k hk a List.mem_cons_self
        omega⟩
      rw [List.length_append]
      show l.length + 1 ≤ n + 1
      omega
section
variable {X : Cx}
/-- a slice of a tuple, whatever it is -/
def rSl2 : V → Option Int → Option Int → Hp → VK → Prop := fun x lo hi H Q => ∃ a xs, x = .ref a ∧ T2 H a xs ∧ ∀ v H', Same H H' → T2 H' v (cutV xs lo hi) → Q (.ref v) H'
theorem sl_tup2 : SlR X rSl2 := by
  intro pins s σ H x v vl vu lo hi sl Q I rx hs pl pu h
  obtain ⟨a, xs, rfl, hx, q⟩ := h
  refine sl_tupA pins s σ H _ v vl vu lo hi sl Q I rx hs pl pu ⟨a, xs, rfl, hx.sq, fun hw => q a H (Same.refl H) ?_, fun _ p np => q p _ (same_upd np) (.inr upd_same)⟩
  have z : cutV xs lo hi = xs := by
    unfold cutV
    rw [hw.1, hw.2, Nat.sub_zero, List.drop_zero, List.take_length]
  rw [z]
  exact hx
end
theorem cut_tail (xs : List V) : cutV xs (some 1) none = xs.drop 1 := by
  cases xs with
  | nil => rfl
  | cons x l =>
    have e1 : HT.sIx (x :: l).length 0 (some 1) = 1 := by
      have z := HT.sIx_nat (x :: l).length 0 1
      have z2 : HT.sIx (x :: l).length 0 (some (1 : Int)) = min 1 (x :: l).length := z
      rw [z2, List.length_cons]
      omega
    unfold cutV
    rw [e1, HT.sIx_none, List.take_of_length_le]
    rw [List.length_drop]
    exact Nat.le_refl _
theorem rep_all (n : Nat) : (List.replicate n true).all id = true := by
  rw [List.all_eq_true]
  intro x hx
  rw [List.eq_of_mem_replicate hx]
  rfl
theorem rep_snoc (n : Nat) : (List.replicate n (V.bl true)) ++ [V.bl true] = List.replicate (n + 1) (V.bl true) := by
  rw [← List.replicate_succ']
theorem rep_map (n : Nat) : (List.replicate n true).map V.bl = List.replicate n (V.bl true) := List.map_replicate
/-! a comprehension over zip of two tuples -/
open RZ in
theorem lc_zipT {K : PySem.W.Frag} {a b : Addr} {xs ys : List V} {g : TG} {tt : TT} {te : TE} {vs : List Nat} {σ : L2.St} {H1 : Hp} {D : Addr} {Qd : Hp → Prop} (hl : ys.length ≤ xs.length) (Pv : Nat → Hp → Prop) (h0 : Pv 0 (upd H1 D (.lst [])))
    (hq : ∀ i H, i ≤ ys.length → Pv i H → SqT K H a xs ∧ SqT K H b ys)
    (hs : ∀ (i : Nat) (x y : V) (T : Addr) (H : Hp), xs[i]? = some x → ys[i]? = some y → Pv i H → H T = none → g (.ref T) (wipe σ vs) (upd H T (.tup [x, y])) fun σ2 H2 => wipe σ2 vs = wipe σ vs ∧ tt σ2 H2 fun b H3 =>
      if b = true then te σ2 H3 fun y H4 => ∃ acc, H4 D = some (.lst acc) ∧ acc.length < sizeLine ∧ Pv (i + 1) (upd H4 D (.lst (acc ++ [y]))) else Pv (i + 1) H3) (hd : ∀ H, Pv ys.length H → Qd H) :
    ∃ W : Nat → Nat → Hp → Prop, (∃ m, W 0 m (upd H1 D (.lst []))) ∧ ∀ i m H, W i m H →
      ((ItzT K a b).stop i H ∧ Qd H) ∨ ((ItzT K a b).go i H ∧ ∃ Nx : Hp → Prop, (∀ H', Nx H' → ∃ m', m' < m ∧ W (i + 1) m' H') ∧ ∀ x H', (ItzT K a b).yld i H x H' → g x (wipe σ vs) H' fun σ2 H2 => wipe σ2 vs = wipe σ vs ∧ tt σ2 H2 fun b H3 =>
        if b = true then te σ2 H3 fun y H4 => ∃ acc, H4 D = some (.lst acc) ∧ acc.length < sizeLine ∧ Nx (upd H4 D (.lst (acc ++ [y]))) else Nx H3) := by
  refine ⟨fun i m H => m = ys.length - i ∧ i ≤ ys.length ∧ Pv i H, ⟨ys.length, (Nat.sub_zero _).symm, Nat.zero_le _, h0⟩, ?_⟩
  rintro i m H ⟨rfl, hi, p⟩
  obtain ⟨qx, qy⟩ := hq i H hi p
  by_cases hlt : i < ys.length
  · have hy : ys[i]? = some ys[i] := List.getElem?_eq_getElem hlt
    have hx : xs[i]? = some xs[i] := List.getElem?_eq_getElem (by omega)
    refine .inr ⟨⟨xs, ys, _, _, qx, qy, hx, hy⟩, Pv (i + 1), fun H' p' => ⟨ys.length - (i + 1), by omega, rfl, hlt, p'⟩, fun v H' y => ?_⟩
    obtain ⟨T, x', y', rfl, nT, rfl, f1, f2⟩ := y
    exact hs i x' y' T H (f1 xs qx) (f2 ys qy) p nT
  · have e : i = ys.length := by omega
    subst e
    exact .inl ⟨⟨xs, ys, qx, qy, .inr (Nat.le_refl _)⟩, hd H p⟩
section
variable {K : PySem.W.Frag} {a : Addr} {xs : List V}
theorem lc_enumS {g : TG} {tt : TT} {te : TE} {vs : List Nat} {σ : L2.St} {H1 : Hp} {D : Addr} {Qd : Hp → Prop} (Pv : Nat → Hp → Prop) (h0 : Pv 0 (upd H1 D (.lst []))) (hl : ∀ i H, i ≤ xs.length → Pv i H → SqL K H a xs)
    (hs : ∀ i x H T, xs[i]? = some x → Pv i H → H T = none → g (.ref T) (wipe σ vs) (upd H T (.tup [.int (i : Nat), x])) fun σ2 H2 => wipe σ2 vs = wipe σ vs ∧ tt σ2 H2 fun b H3 =>
      if b = true then te σ2 H3 fun y H4 => ∃ acc, H4 D = some (.lst acc) ∧ acc.length < sizeLine ∧ Pv (i + 1) (upd H4 D (.lst (acc ++ [y]))) else Pv (i + 1) H3) (hd : ∀ H, Pv xs.length H → Qd H) :
    ∃ W : Nat → Nat → Hp → Prop, (∃ m, W 0 m (upd H1 D (.lst []))) ∧ ∀ i m H, W i m H →
      ((Ite K a).stop i H ∧ Qd H) ∨ ((Ite K a).go i H ∧ ∃ Nx : Hp → Prop, (∀ H', Nx H' → ∃ m', m' < m ∧ W (i + 1) m' H') ∧ ∀ x H', (Ite K a).yld i H x H' → g x (wipe σ vs) H' fun σ2 H2 => wipe σ2 vs = wipe σ vs ∧ tt σ2 H2 fun b H3 =>
        if b = true then te σ2 H3 fun y H4 => ∃ acc, H4 D = some (.lst acc) ∧ acc.length < sizeLine ∧ Nx (upd H4 D (.lst (acc ++ [y]))) else Nx H3) := by
  refine ⟨fun i m H => m = xs.length - i ∧ i ≤ xs.length ∧ Pv i H, ⟨xs.length, (Nat.sub_zero _).symm, Nat.zero_le _, h0⟩, ?_⟩
  rintro i m H ⟨rfl, hi, p⟩
  have q := hl i H hi p
  by_cases hlt : i < xs.length
  · refine .inr ⟨⟨xs, xs[i], q, List.getElem?_eq_getElem hlt⟩, Pv (i + 1), fun H' p' => ⟨xs.length - (i + 1), by omega, rfl, hlt, p'⟩, fun v H' y => ?_⟩
    obtain ⟨T, x, rfl, nT, rfl, y⟩ := y
    exact hs i x H T (y xs q) p nT
  · have e : i = xs.length := by omega
    subst e
    exact .inl ⟨⟨xs, q, Nat.le_refl _⟩, hd H p⟩
theorem for_enumS {g : TG} {tb : TS} {D : Ends} {σ : L2.St} {H : Hp} (Pv : Nat → L2.St → Hp → Prop) (h0 : Pv 0 σ H) (hl : ∀ i σ H, i ≤ xs.length → Pv i σ H → SqL K H a xs)
    (hs : ∀ i x σ H T, xs[i]? = some x → Pv i σ H → H T = none → g (.ref T) σ (upd H T (.tup [.int (i : Nat), x])) fun σ2 H2 => tb { D with nx := Pv (i + 1), ct := Pv (i + 1), bk := D.nx } σ2 H2) (hd : ∀ σ H, Pv xs.length σ H → D.nx σ H) :
    ∃ W : Nat → Nat → L2.St → Hp → Prop, (∃ m, W 0 m σ H) ∧ ∀ i m σ H, W i m σ H →
      ((Ite K a).stop i H ∧ D.nx σ H) ∨ ((Ite K a).go i H ∧ ∃ N : L2.St → Hp → Prop, (∀ σ' H', N σ' H' → ∃ m', m' < m ∧ W (i + 1) m' σ' H') ∧ ∀ v H', (Ite K a).yld i H v H' → g v σ H' fun σ2 H2 => tb { D with nx := N, ct := N, bk := D.nx } σ2 H2) := by
  refine ⟨fun i m σ H => m = xs.length - i ∧ i ≤ xs.length ∧ Pv i σ H, ⟨xs.length, (Nat.sub_zero _).symm, Nat.zero_le _, h0⟩, ?_⟩
  rintro i m σ H ⟨rfl, hi, p⟩
  have q := hl i σ H hi p
  by_cases hlt : i < xs.length
  · refine .inr ⟨⟨xs, xs[i], q, List.getElem?_eq_getElem hlt⟩, Pv (i + 1), fun σ' H' p' => ⟨xs.length - (i + 1), by omega, rfl, hlt, p'⟩, fun v H' y => ?_⟩
    obtain ⟨T, x, rfl, nT, rfl, y⟩ := y
    exact hs i x σ H T (y xs q) p nT
  · have e : i = xs.length := by omega
    subst e
    exact .inl ⟨⟨xs, q, Nat.le_refl _⟩, hd σ H p⟩
end
theorem K2.of {p : Addr} {H H' : Hp} (k : Kept p H H') (hp : PoolAt H p) : K2 H H' := by
  rintro a xs (h | h)
  · exact .inl (h.kept k hp)
  · refine .inr (k _ _ h fun z => ?_)
    subst z
    obtain ⟨o, e, g, m, rfl, _⟩ := hp
    rw [e] at h
    cases h
theorem cut_to (xs : List V) (k : Nat) : cutV xs none (some (k : Int)) = xs.take k := by
  have e1 : HT.sIx xs.length xs.length (some (k : Int)) = min k xs.length := HT.sIx_nat xs.length xs.length k
  unfold cutV
  rw [e1, HT.sIx_none, Nat.sub_zero, List.drop_zero]
  by_cases h : k ≤ xs.length
  · rw [Nat.min_eq_left h]
  · rw [Nat.min_eq_right (by omega), List.take_length, List.take_of_length_le (by omega)]
theorem cut_from (xs : List V) (k : Nat) : cutV xs (some (k : Int)) none = xs.drop k := by
  have e1 : HT.sIx xs.length 0 (some (k : Int)) = min k xs.length := HT.sIx_nat xs.length 0 k
  unfold cutV
  rw [e1, HT.sIx_none]
  by_cases h : k ≤ xs.length
  · rw [Nat.min_eq_left h, List.take_of_length_le (by rw [List.length_drop]; exact Nat.le_refl _)]
  · rw [Nat.min_eq_right (by omega), List.drop_of_length_le (Nat.le_refl _), List.take_nil, List.drop_of_length_le (by omega)]
theorem pw_lt {ms : List Int} (h : ms.Pairwise (· ≤ ·)) (nd : ms.Nodup) : ms.Pairwise (· < ·) := by
  have z := h.and nd
  exact z.imp fun ⟨a, b⟩ => by omega
/-! a web as data, for repr -/
theorem dp_intsS {K : PySem.W.Frag} {H : Hp} : ∀ ns : List Int, DpAll K H (ns.map V.int) (ns.map PyData.int)
  | [] => .nil
  | n :: ns => .cons (.int n) (dp_intsS ns)
def rowD (r : Rw) : PyData := .tuple [.tuple (r.1.map PyData.int), .tuple (r.2.map PyData.int)]
def webD (rs : List Rw) : PyData := .list (rs.map rowD)
theorem rows_dp {K : PySem.W.Frag} {H : Hp} : ∀ {ws : List V} {rs : List Rw}, RowsAt H ws rs → DpAll K H ws (rs.map rowD)
  | [], [], _ => .nil
  | w :: ws, r :: rs, h => by
    obtain ⟨⟨a, b, c, rfl, h1, h2, h3⟩, t⟩ := h
    exact .cons (.tup h1.sq (.cons (.tup h2.sq (dp_intsS _)) (.cons (.tup h3.sq (dp_intsS _)) .nil))) (rows_dp t)
  | [], _ :: _, h => h.elim
  | _ :: _, [], h => h.elim
theorem WebAt.dp {K : PySem.W.Frag} {H : Hp} {p : Addr} {rs : List Rw} (h : WebAt H p rs) : Dp K H (.ref p) (webD rs) := by
  obtain ⟨ws, e, r⟩ := h
  exact .lst (SqL.of e) (rows_dp r)
theorem FineL.up {ds : List PyData} {n m n' m' : Nat} (h : FineL ds n m) (a : n ≤ n') (b : m ≤ m') : FineL ds n' m' := ⟨h.sh, h.nd, Nat.le_trans h.dp a, h.lv, Nat.le_trans h.wt b, h.cl⟩
theorem row_fine {n : Nat} {r : Rw} (ok : RowOk n r) (hn : n ≤ 80) : Fine (rowD r) 2 3600 := by
  have h1 := FineL.ints r.1 fun z hz => by
    have a := ok.rooms.lo z hz
    have b := ok.rooms.hi z hz
    omega
  have h2 := FineL.ints r.2 fun z hz => by
    have a := ok.tos.lo z hz
    have b := ok.tos.hi z hz
    omega
  have l1 := ok.few
  have l2 := ris_len ok.tos
  have z := Fine.tuple (FineL.cons (Fine.tuple h1) (FineL.cons (Fine.tuple h2) FineL.nil))
  exact z.up (Nat.le_refl _) (by omega)
theorem rows_fine {n : Nat} (hn : n ≤ 80) : ∀ {rs : List Rw}, (∀ r ∈ rs, RowOk n r) → FineL (rs.map rowD) 2 (3601 * rs.length)
  | [], _ => FineL.nil
  | r :: rs, h => by
    have a := FineL.cons (row_fine (h r List.mem_cons_self) hn) (rows_fine hn fun y hy => h y (List.mem_cons_of_mem _ hy))
    exact a.up (Nat.le_refl _) (by rw [List.length_cons]; omega)
theorem WebOk.fine {rs : List Rw} (ok : WebOk rs) : Fine (webD rs) 3 300000 := by
  have h := ok.few
  exact (Fine.list (rows_fine h ok.row)).up (Nat.le_refl _) (by omega)
end Su
/-! ### SF: a tuple times 0 or 1, the sorted keys of a dict -/
namespace Su
open PySem PySem.Spec PyProof.Rows L2
theorem tuple_mul0 (l : Addr) (items : Array Value) (n : Nat) (dd : Option Addr) (sl : Array (Option Value)) (u : Tok) (ne : items.isEmpty = false) :
    Meets (Builtin.«tuple.__mul__» ⟨[.ref l, .int 0 u], []⟩) (fun _ R s => s.heap.get? l = some { cls := .type "tuple", dict := dd, data := .seq items n, slots := sl } ∧ R (.ok (.ret (Value.ref s.heap.objs.size))) { s with heap := s.heap.push (tupO []) }) :=
  .of_wp fun prog w A R s h => by
    obtain ⟨hp, g, d, tk, os⟩ := s
    obtain ⟨hl, h⟩ := h
    have f1 := AutoSeq1.idx_int
    wp_walk using wpAny_loadPart' hl
    repeat (first
      | (refine wpAny_ite_false (by rw [ne]; rfl) ?_; wp_walk using wpAny_loadPart' hl)
      | (refine wpAny_ite_true rfl ?_; wp_walk using wpAny_loadPart' hl))
    exact ⟨_, rfl, h⟩
theorem tuple_mul1 (l : Addr) (items : Array Value) (n : Nat) (dd : Option Addr) (sl : Array (Option Value)) (u : Tok) :
    Meets (Builtin.«tuple.__mul__» ⟨[.ref l, .int 1 u], []⟩) (fun _ R s => s.heap.get? l = some { cls := .type "tuple", dict := dd, data := .seq items n, slots := sl } ∧ R (.ok (.ret (Value.ref l))) s) :=
  .of_wp fun prog w A R s h => by
    obtain ⟨hp, g, d, tk, os⟩ := s
    obtain ⟨hl, h⟩ := h
    have f1 := AutoSeq1.idx_int
    wp_walk using wpAny_loadPart' hl
    exact ⟨_, rfl, h⟩
section
variable {X : Cx}
/-- (x, ..) * k, k 0 or 1 -/
def rMul01 : R2 := fun x y H Q => ∃ (a : Addr) (k : Int) (xs : List V), x = .ref a ∧ y = .int k ∧ T2 H a xs ∧ xs ≠ [] ∧ (k = 0 ∨ k = 1) ∧ ∀ v H', Same H H' → T2 H' v (if k = 1 then xs else []) → Q (.ref v) H'
theorem op_mul01 : OpR X (binaryOp .Mult) rMul01 := by
  intro pins s σ H x y v u Q I rx ry h
  obtain ⟨a, k, xs, rfl, rfl, ha, ne, hk, q⟩ := h
  cases rx
  obtain ⟨t, rfl⟩ := ry
  obtain ⟨its, r, ⟨⟨cls, dd, data, sl⟩, ho, hc, n, hd⟩, hs⟩ := I.tuple (ha.sq (K := X.K))
  simp only at hc hd
  subst hc hd
  have ni : its.toArray.isEmpty = false := by
    cases its with
    | nil =>
      cases r
      exact absurd rfl ne
    | cons _ _ => rfl
  rcases hk with rfl | rfl
  · refine wpAny_binaryOp_repeat_ref (T := "tuple") (U := "int") (by decide) ⟨_, ho, rfl⟩ (fun s' => typeIs_int s' 0 t) noFill_tuple_mul F.fills_int_mul F.slot_int_rmul repeat_tuple F.slot_int_index.lookup
      (call_meets F.slot_int_rmul (typeIs_int s 0 t) F.entry_int_rmul (F.args_int_rmul_2 _ _) (int_rmul_tuple 0 t a its.toArray n dd sl)
        ⟨ho, rfl, ⟨_, ho, rfl⟩, call_meets F.slot_tuple_mul ⟨_, ho, rfl⟩ F.entry_tuple_mul (F.args_tuple_mul_2 _ _) (tuple_mul0 a its.toArray n dd sl t ni) ⟨ho, ?_⟩⟩)
    exact newF I .nil (Nat.zero_le _) (fun v H' s' _ h => q v H' s' (.inl h)) s.toks
  · refine wpAny_binaryOp_repeat_ref (T := "tuple") (U := "int") (by decide) ⟨_, ho, rfl⟩ (fun s' => typeIs_int s' 1 t) noFill_tuple_mul F.fills_int_mul F.slot_int_rmul repeat_tuple F.slot_int_index.lookup
      (call_meets F.slot_int_rmul (typeIs_int s 1 t) F.entry_int_rmul (F.args_int_rmul_2 _ _) (int_rmul_tuple 1 t a its.toArray n dd sl)
        ⟨ho, rfl, ⟨_, ho, rfl⟩, call_meets F.slot_tuple_mul ⟨_, ho, rfl⟩ F.entry_tuple_mul (F.args_tuple_mul_2 _ _) (tuple_mul1 a its.toArray n dd sl t) ⟨ho, ?_⟩⟩)
    exact ⟨.ref a, H, I, rfl, q a H (Same.refl H) ha⟩
/-- the keys of a dict, all ints -/
def KeysI (kvs : List (Key × V)) (ks : List Int) : Prop := kvs.map (·.1) = ks.map Sum.inl
theorem KeysI.len {kvs : List (Key × V)} {ks : List Int} (h : KeysI kvs ks) : kvs.length = ks.length := by
  have z := congrArg List.length h
  rwa [List.length_map, List.length_map] at z
theorem KeysI.put {kvs : List (Key × V)} {ks : List Int} (h : KeysI kvs ks) (nd : ks.Nodup) (k : Int) (v : V) : ∃ ks', KeysI (putK kvs (Sum.inl k) v) ks' ∧ ks'.Nodup ∧ ∀ j, j ∈ ks' ↔ j ∈ ks ∨ j = k := by
  unfold putK
  by_cases hk : (kvs.any fun kv => decide (kv.1 = Sum.inl k)) = true
  · rw [if_pos hk]
    refine ⟨ks, ?_, nd, fun j => ⟨.inl, ?_⟩⟩
    · unfold KeysI at h ⊢
      rw [← h, List.map_map]
      refine List.map_congr_left fun q _ => ?_
      show (if q.1 = Sum.inl k then (q.1, v) else q).1 = q.1
      split <;> rfl
    · rintro (z | rfl)
      · exact z
      · obtain ⟨q, hq, e⟩ := List.any_eq_true.mp hk
        have z : (Sum.inl j : Key) ∈ kvs.map (·.1) := by
          rw [← of_decide_eq_true e]
          exact List.mem_map_of_mem hq
        rw [h] at z
        obtain ⟨i, hi, e2⟩ := List.mem_map.mp z
        rw [← Sum.inl.inj e2]
        exact hi
  · rw [if_neg hk]
    have nk : k ∉ ks := fun hm => hk (by
      have z : (Sum.inl k : Key) ∈ kvs.map (·.1) := by
        rw [h]
        exact List.mem_map_of_mem hm
      obtain ⟨q, hq, e⟩ := List.mem_map.mp z
      exact List.any_eq_true.mpr ⟨q, hq, decide_eq_true e⟩)
    refine ⟨ks ++ [k], ?_, ?_, fun j => by rw [List.mem_append, List.mem_singleton]⟩
    · unfold KeysI at h ⊢
      rw [List.map_append, List.map_append, h]
      rfl
    · rw [List.nodup_append]
      refine ⟨nd, by simp, fun a ha b hb => ?_⟩
      rw [List.mem_singleton.mp hb]
      rintro rfl
      exact nk ha
/-- sorted(d), all keys ints -/
def rSortedDI : List V → Hp → VK → Prop := fun xs H Q => ∃ (a : Addr) (kvs : List (Key × V)) (ks : List Int), xs = [.ref a] ∧ H a = some (.dK kvs) ∧ KeysI kvs ks ∧ ks.length ≤ 4000 ∧
  ∀ (ys : List Int) (p : Addr), ys.Perm ks → ys.Pairwise (· ≤ ·) → H p = none → Q (.ref p) (upd H p (.lst (ys.map V.int)))
theorem cr_sortedDI (hc : X.calm = true) : CallR X (.builtin "sorted") rSortedDI := by
  intro pins s σ H xs us Q I r h
  obtain ⟨a, kvs, ks, rfl, hd, hks, few, q⟩ := h
  rw [Vals.ref1 r]
  obtain ⟨z, lo, vs, rel, dd⟩ := dk_rd I.hok (.inl hd)
  obtain ⟨ep, hat⟩ := dd.dictAt
  have keys : vs.map (·.1) = ks.map Sum.inl := rel.keys.symm.trans hks
  have len : vs.length = ks.length := by
    have y := congrArg List.length keys
    rwa [List.length_map, List.length_map] at y
  have small : vs.length ≤ sizeLine := by
    rw [len, sizeLine_eq]
    omega
  refine Calls.call_function_entry kind_sorted plain_sorted entry_sorted (args_sorted1 _) ?_
  unfold Builtin.«sorted»
  refine wpAny_bind (m := checkCount "sorted" 1 1 _) (wpAny_pure (wpAny_bind (PySem.W.kdu_collect (A := X.A.in1) (PySem.W.kdl_dict (knd := mixKind X.prog X.w) (kvs := vs) (ep := ep) lo) (I.ok.hd hc) hat small fun h' tk acc hk hacc => ?_)))
  have rv : Vals (vs.map fun p => kV p.1) acc.toList := keys_at (by rw [Array.length_toList, hacc.1]) fun j v e => hacc.2 j v (by rw [← Array.getElem?_toList]; exact e)
  have rv2 : Vals (ks.map V.int) acc.toList := by
    have y : (vs.map fun p => kV p.1) = ks.map V.int := by
      have y1 : (vs.map fun p => kV p.1) = (vs.map (·.1)).map kV := by rw [List.map_map]; rfl
      rw [y1, keys, List.map_map]
      rfl
    rwa [y] at rv
  have hI := rv2.ints
  have alen : acc.toList.length ≤ sizeLine := by
    rw [Array.length_toList, hacc.1]
    exact small
  have I1 : Inv X pins σ H { s with heap := h', toks := tk } := I.kept hk
  refine wpAny_bind (wpAny_newList ?_ alen)
  have at1 : (h'.push (seqObj "list" acc.toList.toArray 0)).get? h'.objs.size = some (seqObj "list" acc.toList.toArray 0) := Heap.get?_push_size _ rfl
  show wpAny _ _ _ _ _ { s with heap := h'.push (seqObj "list" acc.toList.toArray 0), toks := tk }
  refine wpAny_bind (wpAny_holding (wpAny_call_entry slot_list_sort ⟨_, at1, rfl⟩ entry_list_sort (SrtO.list_sort_ord SrtO.swo_int (s := { s with heap := h'.push (seqObj "list" acc.toList.toArray 0), toks := tk }) at1 alen (fun h2 => SrtO.ints_sortable hI h2) fun out h1 h2 => ⟨_, rfl, ?_⟩) (args_list_sort _)))
  obtain ⟨k3, k4, k5⟩ := SrtO.ints_out hI h1 h2
  obtain ⟨c, hcc⟩ := sortedHeap_at (vs := acc.toList) (out := out.toArray) at1
  have olen : ((out.map SrtO.iv).map V.int).length ≤ sizeLine := by
    rw [List.length_map, k4.length_eq, sizeLine_eq]
    omega
  refine wpAny_pure ⟨_, rfl, .ref h'.objs.size, upd H h'.objs.size (.lst ((out.map SrtO.iv).map V.int)), I1.laid (t' := tk) (fun b u e => ?_) (Nat.le_refl _) (show ObjOk X.prog X.w _ _ _ (.lst _) from ⟨olen, out, c, vals_of_ints k3, hcc⟩), rfl, q _ _ k4 k5 (I1.hok.fresh (Nat.le_refl _))⟩
  have lt : b < h'.objs.size := Heap.lt_size e
  rw [sortedHeap_old (Nat.ne_of_lt lt) (by rw [size_push']; exact Nat.lt_succ_of_lt lt)]
  exact Heap.get?_push_of_some _ e
end
end Su
/-! ### SG: l.extend(t), t a tuple; rows that are written -/
namespace Su
open PySem PySem.Spec PyProof.Rows L2
theorem ext_tup (l : Addr) (items : Array Value) (n : Nat) (b : Addr) (more : Array Value) (m : Nat) (dd : Option Addr) (sl : Array (Option Value)) (h0 : ¬(!items.isEmpty && Builtin.List.listTooLong (items.size + more.size)) = true) (h1 : items.size ≤ sizeLine) (h2 : items.size + more.size ≤ sizeLine + 1) :
    Meets (Builtin.«list.extend» ⟨[.ref l, .ref b], []⟩) (fun _ R s => s.heap.get? l = some { cls := .type "list", data := .seq items n } ∧ s.heap.get? b = some { cls := .type "tuple", dict := dd, data := .seq more m, slots := sl } ∧
      R (.ok (.ret .none)) { s with heap := s.heap.update l (Obj.mapSeq fun x => x ++ more) }) :=
  .of_wp fun prog w A R s h => by
    obtain ⟨hp, g, d, tk, os⟩ := s
    obtain ⟨hl, hb, h⟩ := h
    have f1 := AutoSeq1.idx_int
    have f2 := F.sub_tuple_tuple
    have f3 := F.sub_list_list
    have f4 := F.sub_tuple_list
    have f5 := F.sub_list_tuple
    have fits : (items ++ more).size ≤ sizeLine + 1 := by
      rw [Array.size_append]
      exact h2
    wp_walk using (wpAny_updateSeq hl rfl (hz := h1) (_hz' := fits)), wpAny_loadPart' hl, wpAny_loadPart' hb
    exact ⟨_, rfl, h⟩
section
variable {X : Cx}
def rExtT (K : PySem.W.Frag) : V → List V → Hp → VK → Prop := fun x vs H Q => ∃ l b xs zs, x = .ref l ∧ vs = [.ref b] ∧ H l = some (.lst xs) ∧ SqT K H b zs ∧ xs.length + zs.length ≤ sizeLine ∧ Q .non (upd H l (.lst (xs ++ zs)))
theorem mt_extT : MtM X "list.extend" (rExtT X.K) := by
  intro pins s σ H x vs v us Q I rx rv h
  obtain ⟨l, b, xs, zs, rfl, rfl, hH, hB, hz, q⟩ := h
  cases rx
  obtain ⟨u, rfl, ru⟩ := rv.one
  cases ru
  obtain ⟨z, its, n, r, hl, e⟩ := I.lstM hH
  obtain ⟨it2, r2, ⟨⟨cls, dd, data, sl⟩, ho, hc, m, hd⟩, _⟩ := I.tuple hB
  simp only at hc hd
  subst hc hd
  have hl2 := r2.length
  have fit : its.toArray.size + it2.toArray.size ≤ sizeLine := by
    rw [List.size_toArray, List.size_toArray]
    omega
  have short : ¬ (!its.toArray.isEmpty && Builtin.List.listTooLong (its.toArray.size + it2.toArray.size)) = true := by
    rw [notLongL fit, Bool.and_false]
    exact Bool.false_ne_true
  refine call_meets F.slot_list_extend ⟨_, e, rfl⟩ F.entry_list_extend (F.args_list_extend_2 _ _) (ext_tup l its.toArray n b it2.toArray m dd sl short (by rw [List.size_toArray]; omega) (by omega)) ⟨e, ho, ?_⟩
  refine ⟨.non, _, I.lset (its' := its ++ it2) hH e (by simp) (r.append r2) ?_, rfl, q⟩
  rw [List.length_append]
  omega
end
/-! written rows -/
def risB (hi : Int) : Int → List Int → Bool
  | _, [] => true
  | lo, k :: r => decide (lo ≤ k) && decide (k ≤ hi) && risB hi (k + 1) r
theorem ris_of {hi : Int} : ∀ {lo : Int} {l : List Int}, risB hi lo l = true → Ris lo hi l
  | _, [], _ => ⟨List.Pairwise.nil, fun _ h => (List.not_mem_nil h).elim, fun _ h => (List.not_mem_nil h).elim⟩
  | lo, k :: r, h => by
    unfold risB at h
    rw [Bool.and_eq_true, Bool.and_eq_true, decide_eq_true_eq, decide_eq_true_eq] at h
    have z := ris_of h.2
    refine ⟨List.pairwise_cons.mpr ⟨fun x hx => by have := z.lo x hx; omega, z.pw⟩, fun x hx => ?_, fun x hx => ?_⟩
    · rcases List.mem_cons.mp hx with e | e
      · rw [e]
        exact h.1.1
      · have := z.lo x e
        omega
    · rcases List.mem_cons.mp hx with e | e
      · rw [e]
        exact h.1.2
      · exact z.hi x e
def rowB (n : Nat) (r : Rw) : Bool := risB 99 0 r.1 && decide (r.1.length ≤ 6) && risB ((n : Int) - 1) 0 r.2
theorem row_of {n : Nat} {r : Rw} (h : rowB n r = true) : RowOk n r := by
  unfold rowB at h
  rw [Bool.and_eq_true, Bool.and_eq_true, decide_eq_true_eq] at h
  exact ⟨ris_of h.1.1, h.1.2, ris_of h.2⟩
def webB (A : List Int) (rs : List Rw) : Bool := decide (1 ≤ rs.length) && decide (rs.length ≤ 80) && rs.all (rowB rs.length) && decide (A.length ≤ 12) && (allRooms rs).all (fun k => decide (k ∈ A))
theorem web_of {A : List Int} {rs : List Rw} (h : webB A rs = true) : WebOk rs := by
  unfold webB at h
  simp only [Bool.and_eq_true, decide_eq_true_eq, List.all_eq_true] at h
  exact ⟨h.1.1.1.1, h.1.1.1.2, fun r hr => row_of (h.1.1.2 r hr), A, h.1.2, h.2⟩
def upto (n : Nat) : List Int := (List.range n).map fun i => ((i : Nat) : Int)
theorem upto_rg (n : Nat) : rgV 0 (n : Int) = (upto n).map V.int := by
  unfold rgV upto
  rw [List.map_map, show ((n : Int) - 0).toNat = n by omega]
  refine List.map_congr_left fun i _ => ?_
  show V.int (0 + (i : Nat)) = V.int (i : Int)
  rw [Int.zero_add]
theorem upto_mem {n : Nat} {k : Int} : k ∈ upto n ↔ 0 ≤ k ∧ k < n := by
  unfold upto
  rw [List.mem_map]
  constructor
  · rintro ⟨i, hi, rfl⟩
    have := List.mem_range.mp hi
    omega
  · intro h
    exact ⟨k.toNat, List.mem_range.mpr (by omega), by omega⟩
theorem upto_pw (n : Nat) : (upto n).Pairwise (· < ·) := by
  unfold upto
  rw [List.pairwise_map]
  exact List.pairwise_lt_range.imp fun h => by omega
end Su
/-! ### SI: a comprehension within another one -/
namespace Su
open PySem PySem.Spec PyProof.Rows L2
theorem blkOk_in {N : List Str} {sc scope : Scope} {own : List (Str × Nat)} (fr : List Str) (h : blkC N { kind := .function, names := fr.map fun x => (x, NameKind.cell), isGenerator := false, isCoroutine := false } scope own = true)
    (h2 : ∀ x ∈ fr, sc.names.lookup x = some .cell ∨ sc.names.lookup x = some .free) : BlkOk N sc scope own := by
  have b := blkOk_by h
  refine ⟨b.kind, b.uniq, b.ix, fun y hy e => ?_, b.own⟩
  refine h2 y.1 ?_
  have key : ∀ (l : List Str) (x : Str) (k : NameKind), (l.map fun x => (x, NameKind.cell)).lookup x = some k → x ∈ l := by
    intro l
    induction l with
    | nil =>
      intro x k e
      simp at e
    | cons a l ih =>
      intro x k e
      rw [List.map_cons, List.lookup_cons] at e
      by_cases hx : (x == a) = true
      · rw [eq_of_beq hx]
        exact List.mem_cons_self
      · rw [Bool.not_eq_true] at hx
        rw [hx] at e
        exact List.mem_cons_of_mem _ (ih x k e)
  rcases b.free y hy e with z | z
  · exact key _ _ _ z
  · exact key _ _ _ z
end Su
/-! ### XA: an exception that is caught and kept -/
namespace Su
open PySem PySem.Spec PyProof.Rows L2
/-- at a: an exception of the class cls, its dict at d -/
def exK (a : Addr) (cls : Value) (d : Option Addr) : HO := .ext fun h => ∃ (oe : Obj) (vs : Array Value), h.get? a = some oe ∧ Zc cls d oe ∧ oe.data = .fields vs
theorem exK_ok {P : Program} {w : World} {H : Hp} {h : Heap} {a : Addr} {cls : Value} {d : Option Addr} {oe : Obj} {vs : Array Value} (e : h.get? a = some oe) (z : Zc cls d oe) (hd : oe.data = .fields vs) : ObjOk P w H h a (exK a cls d) := by
  refine ⟨⟨oe, vs, e, z, hd⟩, ⟨oe, e⟩, fun h1 h2 p k => ?_⟩
  obtain ⟨o, v, e1, z1, d1⟩ := p
  exact ⟨o, v, k _ e1, z1, d1⟩
section
variable {X : Cx} {pins : List (Addr × Obj)} {σ : L2.St} {H : Hp} {s : Shared}
/-- what is new since the entry may be tracked from now on -/
theorem track {a : Addr} {o : HO} (I : Inv X pins σ H s) (ha : H a = none) (h0 : X.s_0.heap.get? a = none) (nl : a ≠ X.env.locals) (nc : ∀ x c, X.env.cells.lookup x = some c → c ≠ a) (np : ∀ p ∈ X.pn ++ pins, p.1 ≠ a)
    (new : ObjOk X.prog X.w (upd H a o) s.heap a o) : Inv X pins σ (upd H a o) s where
  ok := I.ok
  os := I.os
  bare := I.bare
  base := {
    keep := I.base.keep
    slot := I.base.slot
    free := fun b u q n x => by
      rw [upd_ne fun z => by rw [z, h0] at q; cases q]
      exact I.base.free b u q n x
    there := I.base.there
    tups := fun b xs q => by
      have z := I.base.tups b xs q
      rw [upd_ne (ne_of_none z ha)]
      exact z
    frzs := fun b u v q => by
      have z := I.base.frzs b u v q
      rw [upd_ne (ne_of_none z ha)]
      exact z
    tbls := fun b ps q => by
      obtain ⟨more, z⟩ := I.base.tbls b ps q
      exact ⟨more, by rw [upd_ne (ne_of_none z ha)]; exact z⟩ }
  loc := I.loc
  cell := I.cell
  free := by
    rw [upd_ne nl.symm]
    exact I.free
  freeC := fun x c e => by
    rw [upd_ne (nc x c e)]
    exact I.freeC x c e
  pin := fun p hp => by
    obtain ⟨p1, p2, p3⟩ := I.pin p hp
    exact ⟨p1, by rw [upd_ne (np p hp)]; exact p2, p3⟩
  hok := HOk.laidN I.hok (fun _ _ q => q) ha new
  len := I.len
end
def wKeep (K : PySem.W.Frag) (c : Value) (i : Nat) (ts : Addr → TS) (Wo : WX) (D : Ends) : WX := fun cls d σ H =>
  ∃ b, PySem.W.exmOne K cls c = some b ∧
    (b = true → ∀ a, H a = none → ts a { nx := fun σ' H' => D.nx (σ'.set i none) (upd H' a (exK a cls d)), rt := fun _ _ => False, bk := fun _ _ => False, ct := fun _ _ => False } (σ.set i (some (.ref a))) H) ∧
    (b = false → Wo cls d σ H)
section
variable {X : Cx} {x n : Str} {c : Value} {i : Nat} {body suite : List Stmt} {b0 : Stmt} {np pos pos' : Pos} {tb : WX → TS} {ts : Addr → TS} {Wo : WX}
/-- try: .. except x as n: suite, the exception tracked behind the suite -/
theorem ps_try_keep (hex : X.ex = []) (hs : X.stack = X.env :: X.outer) (hf : X.env.frame = some X.env.locals) (hN : X.N.Nodup) (hi : X.N[i]? = some n) (hln : X.env.kindOf n = some .local) (hc : Names X x c) (tk : Takes X Wo)
    (hb : ∀ (W : WX) (pn : List (Addr × Obj)) (xe : Value → Shared → Prop), Takes (X.tr pn xe) W → PassesOwn (model X.prog X.w) X.A X.env xe → PSs (X.tr pn xe) body (tb W))
    (hsu : ∀ (a : Addr) (oe : Obj) (pn : List (Addr × Obj)), PSs (X.suite a ((a, oe) :: pn)) (b0 :: suite) (ts a)) :
    PS X (.Try body [.ExceptHandler (some (.Name x np)) (some n) (b0 :: suite) pos'] [] [] pos) (fun D σ H => tb (wKeep X.K c i ts Wo D) D σ H) := by
  refine ⟨fun pins s σ H D I h => ?_⟩
  have ok := I.ok
  have frm : X.A.frames = some (X.env :: X.outer) := by
    rw [ok.frames, hs]
  refine wpAny_Try_except ?_
  refine wpAny_mono ((hb (wKeep X.K c i ts Wo D) (X.pn ++ pins) (fun u t => wpAny (model X.prog X.w) X.A (noteFrame u X.env) (fun _ t2 => wpAny (model X.prog X.w) X.A (setFlight u none) (fun _ t3 =>
    wpAny (model X.prog X.w) X.A (handleBy u X.env [.ExceptHandler (some (.Name x np)) (some n) (b0 :: suite) pos']) (SP X pins D) X.xe t3) X.xe t2) X.xe t) (fun u t xx => ?_) PassesOwn.looking).run [] s σ H D (I.toTry _) h) (fun fl t hsp => ?_) (fun _ _ z => z)
  · obtain ⟨a, B, sI, pins2, τ, G, cls, d, rfl, Jt, nb, up, sky, na, os, ag, b, hb1, hyes, hno⟩ := xx
    have J : Inv X pins τ G sI := Jt.ofTry ok
    have sky2 : Sky B (X.env :: X.outer) a (Zc cls d) X.env.locals t.heap := by
      rw [← hs]
      exact sky
    show wpAny (model X.prog X.w) X.A (noteFrame (.ref a) X.env) _ _ _
    refine Sky.land Zc.steady frm hf sky2 fun g3 fl3 up3 => ?_
    have J3 : Inv X pins τ G { t with heap := g3 } := J.landed nb fl3.1 (up.trans up3) os ag
    obtain ⟨oe3, vs3, at3, zc3, dt3⟩ := fl3.there
    have nofr : a ∉ frs (X.env :: X.outer) := by
      intro hm
      obtain ⟨_, o', e', hnf⟩ := fl3.2.2.1.mem hm
      rw [at3] at e'
      cases e'
      exact hnf _ dt3
    have nL : a ≠ X.env.locals := fun z => nofr (List.mem_filterMap.mpr ⟨X.env, List.mem_cons_self, by rw [hf, z]⟩)
    have nF : a ∉ X.fs := by
      intro hm
      obtain ⟨e, he, q⟩ := List.mem_filterMap.mp hm
      exact nofr (List.mem_filterMap.mpr ⟨e, List.mem_cons_of_mem _ he, q⟩)
    -- it wasn't there ahead
    have gone : sI.heap.get? a = none := by
      cases z : sI.heap.get? a with
      | none => rfl
      | some o =>
        have y := nb a o z (by rw [hs]; exact nofr)
        rw [fl3.2.1] at y
        cases y
    have gone0 : X.s_0.heap.get? a = none := by
      cases z : X.s_0.heap.get? a with
      | none => rfl
      | some o =>
        obtain ⟨o', y⟩ := J.base.there a o z (by rw [hex]; simp)
        rw [gone] at y
        cases y
    have noc : ∀ y k, X.env.cells.lookup y = some k → k ≠ a := by
      rintro y k e rfl
      obtain ⟨v, o, e1, _⟩ := J.cell y k e
      rw [gone] at e1
      cases e1
    have nop : ∀ q ∈ X.pn ++ pins, q.1 ≠ a := by
      intro q hq e
      have y := (J.pin q hq).1
      rw [e, gone] at y
      cases y
    have S3 := J3.suite at3 dt3 na nL nF
    refine wpAny_handleBy_cons (codeAny_handlers_test ?_) (by intro q; cases q)
    have LT : PySem.W.Looks (model X.prog X.w) g3 (typeOf (.ref a)) cls := fun A Q E s k q => wpAny_typeOf_ref (k _ _ at3) (by rw [zc3.1]; exact q)
    have LM := PySem.W.exm_one (M := model X.prog X.w) (J3.kIn) LT hb1
    have asked : ∀ {Q : Value → Shared → Prop} {E : Value → Shared → Prop}, Q c { t with heap := g3 } → wpAny (model X.prog X.w) (X.A.mark (some (.ref a))) (eval (.Name x np) X.env) Q E { t with heap := g3 } := by
      intro Q E q
      obtain ⟨hg, hdbg, hm | ⟨hm, hv, hnn⟩⟩ := hc
      · exact ld_glob (X := X.suite a ((a, oe3) :: (X.pn ++ pins))) S3 hg hm q hdbg
      · exact ld_blt (X := X.suite a ((a, oe3) :: (X.pn ++ pins))) S3 hg hm hv q hnn hdbg
    refine asked (LM.here ?_)
    cases b with
    | true =>
      refine codeAny_handlers_suite_as (HandSPX.lands_againZ fl3 fun g4 fl4 up4 => ?_)
      have J4 : Inv X pins τ G { t with heap := g4 } := J.landed nb fl4.1 ((up.trans up3).trans up4) os ag
      obtain ⟨oe4, vs4, at4, zc4, dt4⟩ := fl4.there
      have S4 := J4.suite at4 dt4 na nL nF
      refine store_ok (X := X.suite a ((a, oe4) :: (X.pn ++ pins))) (v := .ref a) S4 hN hi (.inl hln) rfl (fun t5 S5 => ?_) (.inr hln)
      refine wpAny_mono ((hsu a oe4 (X.pn ++ pins)).run [] t5 _ G _ S5 (hyes rfl a na)) (fun fl t6 hsp => ?_) (fun _ _ z => False.elim z)
      cases fl with
      | next =>
        obtain ⟨τ6, G6, S6, q6⟩ := hsp
        obtain ⟨p1, p2, _⟩ := S6.pin (a, oe4) (List.mem_append_left _ List.mem_cons_self)
        have J6 : Inv X pins τ6 (upd G6 a (exK a cls d)) t6 := track (S6.unsuite ok) p2 gone0 nL noc nop (exK_ok p1 zc4 dt4)
        exact gone_ok J6 hN hi hln fun t7 J7 => ⟨_, _, J7, q6⟩
      | brk =>
        obtain ⟨_, _, _, q6⟩ := hsp
        exact False.elim q6
      | cont =>
        obtain ⟨_, _, _, q6⟩ := hsp
        exact False.elim q6
      | ret u =>
        obtain ⟨_, _, _, _, _, q6⟩ := hsp
        exact False.elim q6
    | false =>
      show wpAny _ X.A (handleBy (.ref a) X.env []) _ _ _
      refine wpAny_handleBy_nil ?_
      obtain ⟨k1, k2, k3, oe, vs, T, oT, ts', he, hz, hd, h1, hr⟩ := id fl3
      unfold PySem.passOn
      refine wpAny_bind (wpAny_field he hd h1 ?_)
      rw [if_neg (show ¬ ((Value.ref T == Value.none) = true) from by simp)]
      have away : wpAny (model X.prog X.w) X.A (setFlight (.ref a) X.env.frame) (fun _ t4 => wpAny (model X.prog X.w) X.A (throw (.ref a) : Sem Flow) (SP X pins D) X.xe t4) X.xe { t with heap := g3 } := by
        rw [hf]
        refine HandSPX.setFlight_upZ fl3 fun g4 hh4 up4 => wpAny_throw (tk _ _ ?_)
        exact ⟨a, B, sI, pins, τ, G, cls, d, rfl, J, nb, (up.trans up3).trans up4, .inr (.inr (by rw [hs]; exact hh4)), na, os, ag, hno rfl⟩
      first
        | exact wpAny_bind (wpAny_pure (wpAny_bind away))
        | exact wpAny_bind away
  · cases fl with
    | next =>
      obtain ⟨τ, G, J, q⟩ := hsp
      exact wpAny_execs_nil ⟨τ, G, J.ofTry ok, q⟩
    | brk =>
      obtain ⟨τ, G, J, q⟩ := hsp
      exact ⟨τ, G, J.ofTry ok, q⟩
    | cont =>
      obtain ⟨τ, G, J, q⟩ := hsp
      exact ⟨τ, G, J.ofTry ok, q⟩
    | ret u =>
      obtain ⟨v, τ, G, J, r, q⟩ := hsp
      exact ⟨v, τ, G, J.ofTry ok, r, q⟩
end
end Su
/-! ### XB: what is asked of a kept exception: isinstance, a field -/
namespace Su
open PySem PySem.Spec PyProof.Rows L2
/-- what the written part says of an own exception class -/
structure ExcT (K : PySem.W.Frag) (C : Addr) : Prop where
  cl : (PySem.W.clsIn K C).isSome = true
  ga : PySem.W.findIn K (.ref C) "__getattribute__" = some (some (.builtin "BaseException.__getattribute__"))
  gg : PySem.W.findIn K (.ref C) "__getattr__" = some none
  sub : PySem.W.subIn K (.ref C) (.type "BaseException") = some true
  cc : PySem.W.findIn K (.ref C) "__class__" = some (some (.builtin "object.__class__"))
  sp : PySem.W.specialIn K (.builtin "object.__class__") "__get__" = some (some (.builtin "getset_descriptor.__get__"))
  tk : PySem.W.takesIn K (.builtin "object.__class__") = some true
  mr : PySem.W.mroIn K C (.type "object") = some true
  hd : PySem.W.hasDictIn K C = true
/-- its dict, if it has one, is told -/
def XdAt (H : Hp) (d : Option Addr) : Prop := ∀ dd, d = some dd → ∃ fs, H dd = some (.xd fs)
section
variable {X : Cx} {pins : List (Addr × Obj)} {σ : L2.St} {H : Hp} {s : Shared}
theorem exK_inst {a C : Addr} {d : Option Addr} (I : Inv X pins σ H s) (e : H a = some (exK a (.ref C) d)) (hd : XdAt H d) : ∃ (ox : Obj) (od : Option Obj), PySem.W.InstAt s.heap a ox C od := by
  obtain ⟨oe, vs, e1, z, dt⟩ := (I.hok a _ e).1
  have no : PySem.W.notCls oe = true := by
    unfold PySem.W.notCls
    rw [dt]
  cases d with
  | none => exact ⟨oe, none, e1, z.1, no, by rw [z.2]; trivial⟩
  | some dd =>
    obtain ⟨fs, hx⟩ := hd dd rfl
    obtain ⟨mA, hns, _⟩ := (show ObjOk X.prog X.w H s.heap dd (.xd fs) from I.hok dd _ hx)
    obtain ⟨od, ho, _⟩ := lookIn_ns hns
    exact ⟨oe, some od, e1, z.1, no, by rw [z.2]; exact ho⟩
theorem exK_kit {a C : Addr} {d : Option Addr} (T : ExcT X.K C) (I : Inv X pins σ H s) (e : H a = some (exK a (.ref C) d)) (hd : XdAt H d) : ∃ P : Heap → Prop, PySem.W.KitX X.K (.ref a) (.ref C) P ∧ P s.heap := by
  obtain ⟨ox, od, J⟩ := exK_inst I e hd
  exact ⟨_, PySem.W.kitx_exc T.cl T.ga T.gg T.sub T.cc T.sp T.tk T.mr, J⟩
/-- isinstance(e, c) -/
def rIsiE (K : PySem.W.Frag) : List V → Hp → VK → Prop := fun xs H Q => ∃ (a C : Addr) (d : Option Addr) (c : V) (u : Value) (b : Bool), xs = [.ref a, c] ∧ ClsV c u ∧ ExcT K C ∧ H a = some (exK a (.ref C) d) ∧ XdAt H d ∧ PySem.W.kitOne K (.ref C) u = some b ∧ Q (.bl b) H
theorem call_isiE : CallR X (.builtin "isinstance") (rIsiE X.K) := by
  intro pins s σ H xs us Q I r h
  obtain ⟨a, C, d, c, u, b, rfl, k, T, e, hd, ek, q⟩ := h
  obtain ⟨u1, u2, rfl, r1, r2⟩ := vals2 r
  cases r1
  have e2 := k.eq r2
  subst e2
  obtain ⟨P, Z, p⟩ := exK_kit T I e hd
  exact PySem.W.kia_one Z I.kIn p ek (fun z => nomatch z) fun tk => ⟨.bl b, H, I.tok tk, rfl, q⟩
/-- isinstance(e, (c, ..)) -/
def rIsiET (K : PySem.W.Frag) : List V → Hp → VK → Prop := fun xs H Q => ∃ (a C tp : Addr) (d : Option Addr) (cs : List V) (us : List Value) (b : Bool), xs = [.ref a, .ref tp] ∧ T2 H tp cs ∧ Paired ClsV cs us ∧ ExcT K C ∧ H a = some (exK a (.ref C) d) ∧ XdAt H d ∧
  PySem.W.kitAny K (.ref C) us = some b ∧ Q (.bl b) H
theorem call_isiET : CallR X (.builtin "isinstance") (rIsiET X.K) := by
  intro pins s σ H xs us Q I r h
  obtain ⟨a, C, tp, d, cs, ws, b, rfl, hT, k, T, e, hd, ek, q⟩ := h
  obtain ⟨u1, u2, rfl, r1, r2⟩ := vals2 r
  cases r1
  cases r2
  obtain ⟨P, Z, p⟩ := exK_kit T I e hd
  obtain ⟨its, rv, ⟨⟨oc, od, dt, sl⟩, h1, h2, n, h3⟩, _⟩ := I.tuple (hT.sq (K := X.K))
  have e3 := ClsV.all k rv
  subst e3
  simp only at h2 h3
  subst h2 h3
  exact PySem.W.kia_tup Z I.kIn p h1 ek (fun z => nomatch z) fun tk => ⟨.bl b, H, I.tok tk, rfl, q⟩
/-- e.f -/
def tXfld (K : PySem.W.Frag) (f : Str) (te : TE) : TE := fun σ H Q => te σ H fun x H1 => ∃ (a C dd : Addr) (fs : List (Str × V)) (v : V), x = .ref a ∧ ExcT K C ∧ PySem.W.findIn K (.ref C) f = some none ∧ H1 a = some (exK a (.ref C) (some dd)) ∧ H1 dd = some (.xd fs) ∧ fs.lookup f = some v ∧ Q v H1
theorem pe_xfld {e : Expr} {f : Str} {te : TE} {pos : Pos} (he : PE X e te) (hb : attributeBase e f X.env (eval e X.env) = eval e X.env := by rfl) : PE X (.Attribute e f pos) (tXfld X.K f te) := by
  refine ⟨fun pins s σ H Q I h => ?_⟩
  refine attr_of hb (thn (he.run pins s σ H _ I h) fun u s1 ⟨x, H1, I1, rx, a, C, dd, fs, v, ex, T, no, ea, ed, ef, q⟩ => ?_)
  subst ex
  cases rx
  obtain ⟨oe, vs, e1, z, dt⟩ := (I1.hok a _ ea).1
  obtain ⟨mA, hns, hr⟩ := (show ObjOk X.prog X.w H1 s1.heap dd (.xd fs) from I1.hok dd _ ed)
  obtain ⟨od, ho, hl⟩ := lookIn_ns hns
  obtain ⟨u, hu, ru⟩ := RelO.some_of (v := v) (o := mA f) (by rw [← ef]; exact hr f)
  have J : PySem.W.InstAt s1.heap a oe C (some od) := ⟨e1, z.1, by unfold PySem.W.notCls; rw [dt], by rw [z.2]; exact ho⟩
  exact HandSPX.exc_get I1.kIn J T.ga T.gg T.sub (PySem.W.findObj_own T.hd no rfl (by rw [hl, hu])) (handed_of ru) ⟨v, H1, I1.tok _, ru, q⟩
end
end Su
/-! ### XC: an own exception class, over another one, whose __init__ calls that of the built-in above and keeps a field -/
namespace Su
namespace XC
open PySem PySem.W PySem.Calls PyProof.Rows PySem.HandSPX Builtin Builtin.ObjectAttr
def inA (f : Str) (p1 p2 : Pos) : Arguments :=
  { posonlyargs := [], args := [{ arg := "self", annotation := none, pos := p1 }, { arg := f, annotation := none, pos := p2 }], vararg := none, kwonlyargs := [], kw_defaults := [], kwarg := none, defaults := [] }
def inB (f t : Str) (r1 r2 r3 r4 r5 r6 q1 q2 q3 q4 : Pos) : List Stmt :=
  [.Expr (.Call (.Attribute (.Call (.Name "super" r1) [] [] r2) "__init__" r3) [.Constant (.str t) 0 r4] [] r5) r6, .Assign [.Attribute (.Name "self" q1) f q2] (.Name f q3) q4]
def inS (f : Str) : Scope :=
  { kind := .function, names := [(PySem.Str.ofString "self", .local), (f, .local), (PySem.Str.ofString "__class__", .free), (PySem.Str.ofString "super", .globalImplicit)], isGenerator := false, isCoroutine := false, more := [] }
/-- a field's name -/
structure Fld (f : Str) : Prop where
  self : f ≠ "self"
  cl : f ≠ "__class__"
  su : f ≠ "super"
  db : (f == ("__debug__" : Str)) = false
  bnd : ∀ (q : Str) (p1 p2 : Pos) (bd : List Stmt) (doc pm : Value) (an : Option Addr) (cd ct : Value) (cc : Addr) (a b : Value), bindArgs (ksFn "__init__" q (inA f p1 p2) bd (inS f) .none .none doc pm an cd ct cc) ⟨[a, b], []⟩ = pure ([("self", a), (f, b)] : List (Str × Value))
  sw : ∀ (q : Str) (L a : Addr) (cd : Value) (cc : Addr) (t : Str) (r1 r2 r3 r4 r5 : Pos) (k : Nat), swapsWith (.Call (.Attribute (.Call (.Name "super" r1) [] [] r2) "__init__" r3) [.Constant (.str t) 0 r4] [] r5) none k (ksEnv q (inS f) L a cd cc) = pure false
  sx : ∀ (q : Str) (L a : Addr) (cd : Value) (cc : Addr) (q1 q2 q3 : Pos) (k : Nat), swapsWith (.Name f q3) (some (.Attribute (.Name "self" q1) f q2)) k (ksEnv q (inS f) L a cd cc) = pure false
theorem fld_row : Fld "row" := ⟨by decide, by decide, by decide, by decide, fun _ _ _ _ _ _ _ _ _ _ _ _ => by first | rfl | with_unfolding_all rfl, fun _ _ _ _ _ _ _ _ _ _ _ _ => by first | rfl | with_unfolding_all rfl, fun _ _ _ _ _ _ _ _ _ => by first | rfl | with_unfolding_all rfl⟩
theorem fld_number : Fld "number" := ⟨by decide, by decide, by decide, by decide, fun _ _ _ _ _ _ _ _ _ _ _ _ => by first | rfl | with_unfolding_all rfl, fun _ _ _ _ _ _ _ _ _ _ _ _ => by first | rfl | with_unfolding_all rfl, fun _ _ _ _ _ _ _ _ _ => by first | rfl | with_unfolding_all rfl⟩
theorem fld_part : Fld "part" := ⟨by decide, by decide, by decide, by decide, fun _ _ _ _ _ _ _ _ _ _ _ _ => by first | rfl | with_unfolding_all rfl, fun _ _ _ _ _ _ _ _ _ _ _ _ => by first | rfl | with_unfolding_all rfl, fun _ _ _ _ _ _ _ _ _ => by first | rfl | with_unfolding_all rfl⟩
theorem fld_room : Fld "room" := ⟨by decide, by decide, by decide, by decide, fun _ _ _ _ _ _ _ _ _ _ _ _ => by first | rfl | with_unfolding_all rfl, fun _ _ _ _ _ _ _ _ _ _ _ _ => by first | rfl | with_unfolding_all rfl, fun _ _ _ _ _ _ _ _ _ => by first | rfl | with_unfolding_all rfl⟩
theorem fld_to : Fld "to" := ⟨by decide, by decide, by decide, by decide, fun _ _ _ _ _ _ _ _ _ _ _ _ => by first | rfl | with_unfolding_all rfl, fun _ _ _ _ _ _ _ _ _ _ _ _ => by first | rfl | with_unfolding_all rfl, fun _ _ _ _ _ _ _ _ _ => by first | rfl | with_unfolding_all rfl⟩
theorem fld_name : Fld "name" := ⟨by decide, by decide, by decide, by decide, fun _ _ _ _ _ _ _ _ _ _ _ _ => by first | rfl | with_unfolding_all rfl, fun _ _ _ _ _ _ _ _ _ _ _ _ => by first | rfl | with_unfolding_all rfl, fun _ _ _ _ _ _ _ _ _ => by first | rfl | with_unfolding_all rfl⟩
/-- what the written part says of the class n at C, over the built-in B, with the field f, its __init__ at fI -/
structure Own (P : Program) (K : Frag) (mg : Str → Option Value) (n f : Str) (C fI : Addr) (B newId initId : String) (bmB : List Value) : Prop where
  fld : Fld f
  gC : mg n = some (.ref C)
  ini : excInitIn K C bmB newId = true
  ovr : excOver K C bmB = true
  base : ExcBaseFacts B newId initId bmB
  stor : StoreFacts B bmB "object.__setattr__" "object"
  kx : KxsFacts B initId
  sa : findIn K (.ref C) "__setattr__" = some (some (.builtin "object.__setattr__"))
  noN : findIn K (.ref C) f = some none
  iC : findIn K (.ref C) "__init__" = some (some (.ref fI))
  fC : isFn K (.ref fI) = true
  kC : keepIn K (.ref C) = true
  exC : subIn K (.ref C) (.type "BaseException") = some true
  tyC : typeIn K (.ref C) = some (.type "type")
  hdC : hasDictIn K C = true
  isB : subIn K (.ref C) (.type B) = some true
  sup : ks_superIn K C C "__init__" = some (some (.builtin initId))
  own : mroIn K C (.ref C) = some true
  nos : mg "super" = none
  opq : nsIn K cStatics "thirdparty.any" = some none
  ntop : (P.main.scope.names.lookup ("super" : Str)).isSome = false
  fn : ∃ (oc : Value) (od : Option Addr) (q : Str) (doc pm : Value) (an : Option Addr) (cda cc : Addr) (ct : Value) (osl : Array (Option Value)) (t : Str) (p1 p2 r1 r2 r3 r4 r5 r6 q1 q2 q3 q4 : Pos)
      (ccl : Value) (cdd : Option Addr) (vs : Array Value) (ccs : Array (Option Value)) (file : Str) (tf : Tok) (cl : Value) (cld : Option Addr) (csl : Array (Option Value)),
    K.lookup fI = some ⟨oc, od, .func (ksFn "__init__" q (inA f p1 p2) (inB f t r1 r2 r3 r4 r5 r6 q1 q2 q3 q4) (inS f) .none .none doc pm an (.ref cda) ct cc), osl⟩ ∧ codeIn K (.ref cda) q = true ∧
    K.lookup cda = some ⟨ccl, cdd, .fields vs, ccs⟩ ∧ vs[2]? = some (.str file tf) ∧ ((P.main.file : Str) == file) = true ∧ (r3.endLine == r5.line) = true ∧ K.lookup cc = some ⟨cl, cld, .cell (some (.ref C)), csl⟩
/-- what __init__ leaves of a fresh exception at x -/
structure Left (h h' : Heap) (x C dx t1 : Addr) (f : Str) (v : Value) : Prop where
  keep : ∀ b o, b ≠ x → h.get? b = some o → h'.get? b = some o
  obj : h'.get? x = some { cls := .ref C, dict := some dx, data := .fields #[.ref t1, .none, .none, .none, .bool false, .none] }
  dbig : h.objs.size ≤ dx
  dne : dx ≠ x
  ns : h'.Ns1 dx (fun y => if y = f then some v else none)
section
variable {P : Program} {w : World} {A : Around} {E : Value → Shared → Prop} {R : Result → Shared → Prop} {s : Shared} {K : Frag} {mg : Str → Option Value} {n f : Str} {C fI : Addr} {B newId initId : String} {bmB : List Value}
theorem ev_init {env : Env} {o : Expr} {m : Str} {t : Str} {r3 r4 r5 : Pos} (hl : (r3.endLine == r5.line) = true) : ∃ pl, eval (.Call (.Attribute o m r3) [.Constant (.str t) 0 r4] [] r5) env = (do
    let ov ← attributeBase o m env (eval o env); standAt r3.atName
    let (g, first) ← holding [ov] (getMethod ov m pl); callWith r5 g first (backTo r5 (starEach [.Constant (.str t) 0 r4] env)) []) := by
  have e1 : methodCallForm 1 (backTo r5 (starEach [.Constant (.str t) 0 r4] env)) (backToKw r5 (keywordEach [] env)) = true := rfl
  have e2 : methodCallPos true o env r3 r5 = pure r5 := by
    unfold methodCallPos
    rw [hl]
    rfl
  refine ⟨do return (← importBound o env).getD true, ?_⟩
  rw [arm_eval_Call]
  show (do let ov ← attributeBase o m env (eval o env); standAt r3.atName; methodCall o m r3 r5 env ov 1 (backTo r5 (starEach [.Constant (.str t) 0 r4] env)) (backToKw r5 (keywordEach [] env))) = _
  unfold methodCall
  rw [e1, e2]
  simp only [calleeOf, if_true, pure_bind]
  rfl
theorem put_new {x t1 : Addr} {v : Value} {tk : Tok} (T : Own P K mg n f C fI B newId initId bmB) (X : K.In s.heap) (hx : s.heap.get? x = some (excO C t1))
    (hq : ∀ h' tk' dx, (∀ b o, b ≠ x → s.heap.get? b = some o → h'.get? b = some o) → s.heap.objs.size ≤ dx → dx ≠ x → h'.get? x = some { cls := .ref C, dict := some dx, data := .fields #[.ref t1, .none, .none, .none, .bool false, .none] } →
      h'.Ns1 dx (fun y => if y = f then some v else none) → R (.ok (.ret .none)) { s with heap := h', toks := tk' }) :
    codeAny (model P w) A (.call (.builtin "object.__setattr__") ⟨[.ref x, .str f tk, v], []⟩) R s := by
  obtain ⟨cd, hc, hd⟩ := any_some T.hdC
  have hxs : x ≠ s.heap.objs.size := Nat.ne_of_lt (Heap.lt_size hx)
  refine osa_openX (od := none) (r := none) T.stor X ⟨hx, rfl, rfl, trivial⟩ T.ovr (by unfold takerIn; rw [T.noN]; rfl) fun b => ?_
  obtain ⟨hp, g, d, t, os⟩ := s
  refine wpAny_bind (wpAny_pure (wpAny_bind (instanceDict_exc hx (looks_clsIn X hc) hd ?_)))
  show wpAny _ _ (storeInDict hp.objs.size (.str f tk) f v) _ _ _
  refine store_in_new ?_ fun h' tk' hn' hs => ?_
  · exact ⟨_, #[], _, (Heap.get?_update_ne _ _ _ _ hxs.symm).trans (Heap.get?_push_at rfl rfl), rfl, fun e he => absurd he (by simp), fun _ => rfl⟩
  · have e1 : (hp.push (dictOf [] 0)).get? x = some (excO C t1) := Heap.get?_push_of_some _ hx
    exact hq h' tk' hp.objs.size (fun b o hb ho => (hs.2 b (Nat.ne_of_lt (Heap.lt_size ho))).trans ((Heap.get?_update_ne _ _ _ _ hb).trans (Heap.get?_push_of_some _ ho))) (Nat.le_refl _) hxs.symm ((hs.2 x hxs).trans (Heap.get?_update_self _ e1 rfl)) hn'
theorem kind_f (F : Fld f) : (inS f).names.lookup f = some .local := by
  show List.lookup f ((PySem.Str.ofString "self", NameKind.local) :: (f, NameKind.local) :: _) = _
  rw [List.lookup_cons, show (f == PySem.Str.ofString "self") = false from by simpa using F.self, List.lookup_cons, beq_self_eq_true]
theorem kind_c (F : Fld f) : (inS f).names.lookup ("__class__" : Str) = some .free := by
  show List.lookup ("__class__" : Str) ((PySem.Str.ofString "self", NameKind.local) :: (f, NameKind.local) :: (PySem.Str.ofString "__class__", NameKind.free) :: _) = _
  rw [List.lookup_cons, show (("__class__" : Str) == PySem.Str.ofString "self") = false from by decide, List.lookup_cons, show (("__class__" : Str) == f) = false from by simpa using Ne.symm F.cl, List.lookup_cons, show (("__class__" : Str) == PySem.Str.ofString "__class__") = true from by decide]
theorem kind_s (F : Fld f) : (inS f).names.lookup ("super" : Str) = some .globalImplicit := by
  show List.lookup ("super" : Str) ((PySem.Str.ofString "self", NameKind.local) :: (f, NameKind.local) :: (PySem.Str.ofString "__class__", NameKind.free) :: (PySem.Str.ofString "super", NameKind.globalImplicit) :: _) = _
  rw [List.lookup_cons, show (("super" : Str) == PySem.Str.ofString "self") = false from by decide, List.lookup_cons, show (("super" : Str) == f) = false from by simpa using Ne.symm F.su, List.lookup_cons, show (("super" : Str) == PySem.Str.ofString "__class__") = false from by decide, List.lookup_cons, show (("super" : Str) == PySem.Str.ofString "super") = true from by decide]
/-- the built-in's __init__, bound to x, called: its args are laid anew -/
theorem call_mw {u x t0 : Addr} {a : Value} {Q : Value → Shared → Prop} (T : Own P K mg n f C fI B newId initId bmB) (X : K.In s.heap) (hx : s.heap.get? x = some (excO C t0)) (hu : s.heap.get? u = some (kxs_mw initId x))
    (hq : ∀ h' t1, (∀ b o, b ≠ x → s.heap.get? b = some o → h'.get? b = some o) → h'.get? x = some (excO C t1) → Q .none { s with heap := h' }) : wpAny (model P w) A (call (.ref u) [a]) Q E s := by
  obtain ⟨nm, N', qn, bs, bm, hdct, sn, sub, ab, col, dd, k0, k1, k2, k3, k5, hC, hT⟩ := excInit_of X T.ini
  obtain ⟨hp, g, d, tk, os⟩ := s
  have z1 : (Value.type "method-wrapper" == Value.type "method" || Value.type "method-wrapper" == Value.type "builtin_function_or_method" || Value.type "method-wrapper" == Value.type "method-wrapper") = true := by decide
  refine wpAny_call (codeAny_of_tree (show wpAny _ A.in1 (callAny (.ref u) ⟨[a], []⟩) _ _ _ from ?_))
  simp only [callAny]
  refine wpAny_bind (wpAny_load hu (by simp only [kxs_mw, z1, if_true]; refine KFB.if_so (by decide) (wpAny_bind (check_bound_init T.base.toExcCallFacts hC hx rfl (wpAny_bind (wpAny_pure (wpAny_pure ?_))))); exact ⟨plainId_quiet T.base.init.plain _, codeAny_builtin T.base.initEntry (exc_init_tree (cls := .ref C) (t0 := t0) (dv := none) (c2 := .none) (c3 := .none) (b4 := .bool false) hx (by rw [sizeLine_eq]; exact (by decide : 1 ≤ 16777216)) fun h' k e _ => hq h' _ k e)⟩))
theorem x_init (T : Own P K mg n f C fI B newId initId bmB) {x t0 : Addr} {v : Value} (X : K.In s.heap) (hG : s.heap.Ns mainGlobals mg) (hB : ∃ mb, s.heap.Ns builtinsNs mb ∧ ∀ y : Str, y ≠ "__name__" → mb y = bootBuiltins y) (hlim : s.heap.NoLimit)
    (hx : s.heap.get? x = some (excO C t0)) (hnx : K.lookup x = none) (hroom : A.depth < recursionLimit) (hq : ∀ h' tk dx t1, Left s.heap h' x C dx t1 f v → R (.ok (.ret .none)) { s with heap := h', toks := tk }) :
    codeAny (model P w) A (.call (.ref fI) ⟨[.ref x, v], []⟩) R s := by
  obtain ⟨oc, od, q, doc, pm, an, cda, cc, ct, osl, t, p1, p2, r1, r2, r3, r4, r5, r6, q1, q2, q3, q4, ccl, cdd, vs, ccs, file, tf, cl, cld, csl, ho, hcd, hcode, hvs, hfile, hln, hcell⟩ := T.fn
  obtain ⟨hp, g, d, tk0, os⟩ := s
  refine ks_codeAny_call_defAt (fd := ksFn "__init__" q (inA f p1 p2) (inB f t r1 r2 r3 r4 r5 r6 q1 q2 q3 q4) (inS f) .none .none doc pm an (.ref cda) ct cc) (body := inB f t r1 r2 r3 r4 r5 r6 q1 q2 q3 q4) (binds := [("self", .ref x), (f, v)]) hroom (X _ _ ho) rfl hlim (codeRec_of X hcd) rfl
    (BindsTo.of_eq ?b) ?c ?l (fun h₁ hns k₁ => ?_) rfl rfl rfl
  case b => exact T.fld.bnd _ _ _ _ _ _ _ _ _ _ _ _
  case c =>
    intro y hy e
    rcases List.mem_cons.mp hy with rfl | hy
    · cases e
    rcases List.mem_cons.mp hy with rfl | hy
    · cases e
    rcases List.mem_cons.mp hy with rfl | hy
    · cases e
    rcases List.mem_cons.mp hy with rfl | hy
    · cases e
    cases hy
  case l =>
    intro y hy
    rcases List.mem_cons.mp hy with rfl | hy
    · rfl
    rcases List.mem_cons.mp hy with rfl | hy
    · exact kind_f T.fld
    cases hy
  have X1 : K.In h₁ := X.keeps k₁
  have hx1 := k₁ _ _ hx
  obtain ⟨mb, hb1, hb2⟩ := hB
  obtain ⟨cd, hc, hd⟩ := any_some T.hdC
  have lself : (fun y => List.lookup y ([("self", .ref x), (f, v)] : List (Str × Value)).reverse) "self" = some (.ref x) := by
    show List.lookup ("self" : Str) [(f, v), ("self", .ref x)] = _
    rw [List.lookup_cons, show (("self" : Str) == f) = false from by simpa using Ne.symm T.fld.self, List.lookup_cons, beq_self_eq_true]
  have lf : (fun y => List.lookup y ([("self", .ref x), (f, v)] : List (Str × Value)).reverse) f = some v := by
    show List.lookup f [(f, v), ("self", .ref x)] = _
    rw [List.lookup_cons, beq_self_eq_true]
  obtain ⟨oD, hD1, hD2⟩ : ∃ oD, h₁.get? C = some oD ∧ oD.data = .cls cd := by
    unfold clsIn at hc
    split at hc
    · rename_i c d cd' sl ho
      cases hc
      exact ⟨_, X1 _ _ ho, rfl⟩
    · cases hc
  show _root_.PySem.wpAt _ _ (.func _ (ksEnv q (inS f) hp.objs.size fI (.ref cda) cc)) (execs _ (ksEnv q (inS f) hp.objs.size fI (.ref cda) cc)) _ _ _
  obtain ⟨pl, ev⟩ := ev_init (env := ksEnv q (inS f) hp.objs.size fI (.ref cda) cc) (o := .Call (.Name "super" r1) [] [] r2) (m := "__init__") (t := t) (r4 := r4) hln
  refine ks_wpAt_execs_cons (ks_wpAt_Expr_any (ks_wpAt_MethodCall (pl := pl) ?_ ev) rfl (T.fld.sw _ _ _ _ _ _ _ _ _ _ _ _))
  refine ks_wpAt_super_base (env := ksEnv q (inS f) hp.objs.size fI (.ref cda) cc) (kind_s T.fld) (kind_c T.fld) (by decide) rfl (X1 _ _ ho) rfl rfl rfl (X1 _ _ hcode) rfl hvs hfile T.ntop ?_
  refine ks_loadName_global rfl (kind_s T.fld) (loadGlobal_builtin (env := ksEnv q (inS f) hp.objs.size fI (.ref cda) cc) (hG.keeps k₁) T.nos (hb1.keeps k₁) ((hb2 _ (by decide)).trans (show bootBuiltins "super" = some (.type "super") from by first | rfl | decide +kernel)) ⟨rfl, ?_⟩)
  refine wpAny_loadName_free rfl (kind_c T.fld) rfl ⟨_, X1 _ _ hcell, rfl⟩ (wpAny_loadName_local rfl rfl hns lself (ks_wpAny_isType_cls hD1 hD2 ⟨rfl, ?_⟩))
  refine ks_wpAny_call_super hD1 hD2 hx1 rfl (fun c e => by cases e) (looks_mroIn X1 T.own) (fun h2 e2 k2 => ?_)
  have X2 : K.In h2 := X1.keeps k2
  have hx2 := k2 _ _ hx1
  have Ix : InstAt h2 x (excO C t0) C none := ⟨hx2, rfl, rfl, trivial⟩
  have hm := T.sup
  unfold ks_superIn at hm
  rw [hc] at hm
  refine kxs_getMethod T.kx e2 (looks_opaque X2 T.opq) (l₀ := cd.mro) (fun A Q E s k q => wpAny_bind ((looks_clsIn X2 hc) A _ E s k (wpAny_pure q))) rfl X2 hm (Ix.type.andThen (looks_subIn X2 T.isB)) (ks_ne X2 Ix hc) (by decide) ?_
  have k3 : ∀ b o, h2.get? b = some o → (h2.push (kxs_mw initId x)).get? b = some o := fun b o e => Heap.get?_push_of_some _ e
  refine kxs_callWith (i := initId) (x := x) rfl (evalArgs_plain (spliced_more (wpAny_Constant_str (spliced_none ⟨Heap.get?_push_at rfl rfl, ?_⟩))))
  refine call_mw T (X2.keeps k3) (k3 _ _ hx2) (Heap.get?_push_at rfl rfl) fun h4 t1 k4 hx4 => ?_
  have kk : ∀ b o, h₁.get? b = some o → (h2.push (kxs_mw initId x)).get? b = some o := fun b o e => k3 _ _ (k2 _ _ e)
  have hxL : hp.objs.size ≠ x := Nat.ne_of_gt (Heap.lt_size hx)
  have n4 : h4.Ns hp.objs.size (fun y => List.lookup y ([("self", .ref x), (f, v)] : List (Str × Value)).reverse) := by
    obtain ⟨oL, es, ep, hL, r⟩ := hns.keeps kk
    exact ⟨oL, es, ep, k4 _ _ hxL hL, r⟩
  have X4 : K.In h4 := fun b o e => k4 b o (fun z => by rw [z, hnx] at e; cases e) (X2.keeps k3 b o e)
  have lt : hp.objs.size < h4.objs.size := n4.lt
  show _root_.PySem.wpAt _ _ _ (execs _ (ksEnv q (inS f) hp.objs.size fI (.ref cda) cc)) _ _ _
  refine ks_wpAt_execs_cons (ks_wpAt_Assign_Attr (wpAt_of_wpAny ?_) (T.fld.sx _ _ _ _ _ _ _ _ _))
  refine wpAny_Name (wpAny_loadName_local rfl (kind_f T.fld) n4 lf (wpAny_Name (wpAny_loadName_local rfl rfl n4 lself ?_) (by decide))) T.fld.db
  refine set_plain X4 (ox := excO C t1) (od := none) ⟨hx4, rfl, rfl, trivial⟩ T.sa (put_new T X4 hx4 fun h5 tk5 dx k5 dn dne hx5 hn5 => ?_)
  show _root_.PySem.wpAt _ _ _ (execs [] _) _ _ _
  refine wpAt_of_wpAny (wpAny_execs_nil (hq h5 tk5 dx t1 ⟨fun b o hb e => k5 b o hb (k4 b o hb (kk _ _ (k₁ _ _ e))), hx5, Nat.le_trans (Nat.le_of_lt lt) dn, dne, hn5⟩))
/-- n(v), made: its own dict at d holds the field -/
structure Made (h h' : Heap) (e C d : Addr) (f : Str) (v : Value) : Prop where
  keep : ∀ b o, h.get? b = some o → h'.get? b = some o
  new : h.objs.size ≤ e
  obj : ∃ oe us, h'.get? e = some oe ∧ oe.cls = .ref C ∧ oe.dict = some d ∧ oe.data = .fields us ∧ us[1]? = some .none
  dbig : h.objs.size ≤ d
  dne : d ≠ e
  ns : h'.Ns1 d (fun y => if y = f then some v else none)
theorem x_made (T : Own P K mg n f C fI B newId initId bmB) {v : Value} (X : K.In s.heap) (hG : s.heap.Ns mainGlobals mg) (hB : ∃ mb, s.heap.Ns builtinsNs mb ∧ ∀ y : Str, y ≠ "__name__" → mb y = bootBuiltins y) (hlim : s.heap.NoLimit) (hroom : A.depth + 1 < recursionLimit)
    (hq : ∀ h' tk e d, Made s.heap h' e C d f v → R (.ok (.ret (.ref e))) { s with heap := h', toks := tk }) : codeAny (model P w) A (.call (.ref C) ⟨[v], []⟩) R s := by
  obtain ⟨nm, N', qn, bs, bm, hdct, sn, sub, ab, col, dd, k0, k1, k2, k3, k5, hC, hT⟩ := excInit_of X T.ini
  obtain ⟨oI, hoI, hcI⟩ : ∃ oI, s.heap.get? fI = some oI ∧ oI.cls = .type "function" := by
    obtain ⟨o, ho, hc⟩ := Option.map_eq_some_iff.mp (show (K.lookup fI).map (fun z => z.cls) = some (.type "function") from beq_iff_eq.mp T.fC)
    exact ⟨o, X _ _ ho, hc⟩
  obtain ⟨hp, g, dr, tk, os⟩ := s
  have k : ∀ b o, hp.get? b = some o → ((hp.push (kdv_tup [v])).push (excO C hp.objs.size)).get? b = some o := fun b o e => Heap.get?_push_of_some _ (Heap.get?_push_of_some _ e)
  have hnx : K.lookup (hp.objs.size + 1) = none := by
    cases e : K.lookup (hp.objs.size + 1) with
    | none => rfl
    | some o => exact absurd (Nat.lt_of_succ_lt (Heap.lt_size (show hp.get? (hp.objs.size + 1) = some o from X _ _ e))) (Nat.lt_irrefl _)
  refine call_own T.base hT hC (looks_findIn X T.iC) (fun self => exc_bind hoI hcI self) (by rw [sizeLine_eq]; exact (by decide : 1 ≤ 16777216)) ?_
  obtain ⟨mb, hb1, hb2⟩ := hB
  refine x_init (s := ⟨(hp.push (kdv_tup [v])).push (excO C hp.objs.size), g, dr, tk, os⟩) T (X.keeps k) (hG.keeps k) ⟨mb, hb1.keeps k, hb2⟩ (hlim.keeps k) (by heap_get) hnx (show A.depth + 1 < recursionLimit from hroom) fun h' tk' dx t1 L => ?_
  have z : hp.objs.size + 1 + 1 ≤ dx := by
    have q := L.dbig
    first
      | (simpa only [Heap.size_push] using q)
      | exact q
      | (rw [Heap.size_push, Heap.size_push] at q; exact q)
  refine ⟨rfl, hq h' tk' (hp.objs.size + 1) dx ⟨fun b o e => L.keep b o (Nat.ne_of_lt (Nat.lt_succ_of_lt (Heap.lt_size e))) (k b o e), Nat.le_succ _, ⟨_, _, L.obj, rfl, rfl, rfl, rfl⟩, Nat.le_trans (Nat.le_trans (Nat.le_succ _) (Nat.le_succ _)) z, L.dne, L.ns⟩⟩
end
end XC
open PySem PySem.Spec PyProof.Rows L2
theorem relO_fld {f : Str} {v : V} {u : Value} (r : RelV v u) (y : Str) : RelO (List.lookup y [(f, v)]) (if y = f then some u else none) := by
  by_cases e : y = f
  · subst e
    rw [if_pos rfl, List.lookup_cons, beq_self_eq_true]
    exact r
  · rw [if_neg e, List.lookup_cons, show (y == f) = false from by simpa using e]
    trivial
section
variable {X : Cx} {n f : Str} {C fI : Addr} {B newId initId : String} {bmB : List Value}
/-- n(e): a new exception, its dict at d -/
def tMkX (C : Addr) (f : Str) (ta : TA) : L2.St → Hp → XK → Prop := fun σ H Q => ta σ H fun vs H1 => ∃ v, vs = [v] ∧ ∀ d, H1 d = none → Q (.ref C) (some d) (upd H1 d (.xd [(f, v)]))
theorem pmk_x {a : Expr} {ta : TA} {p pos : Pos} {k : Nat} (T : XC.Own X.prog X.K X.mg n f C fI B newId initId bmB) (hr : Room k X.A) (ha : PA X [a] ta) (hg : Gl X n := by rfl)
    (he : starEach (a :: []) X.env = (false, eval a X.env) :: starEach [] X.env := by rfl) (hpl : (backTo pos (starEach [] X.env)).any (·.1) = false := by rfl) (hdb : (n == ("__debug__" : Str)) = false := by decide) : PMk X (.Call (.Name n p) [a] [] pos) (tMkX C f ta) := by
  intro pins s σ H Q I h
  refine wpAny_Call_Name_kw (ld_glob I hg T.gC (PySem.W.callWith_K (h₀ := X.base) I.ok.mod.kin T.kC (thn (ha.run pos pins s σ H _ I h) fun us s1 ⟨vs, H1, I1, r1, v, ev, q1⟩ => ?_) he hpl) hdb)
  subst ev
  refine ⟨I1.kIn, ?_⟩
  obtain ⟨u1, rfl, rv⟩ := vals1 r1
  show wpAny _ _ (call (.ref C) [u1]) _ _ _
  have hlim := I1.nolimit
  obtain ⟨mb, hb1, hb2⟩ := I1.mod.blt
  have hG := I1.mod.glob.keeps I1.bk
  have hb := hb1.keeps I1.bk
  obtain ⟨hp, g, dr, tk, os⟩ := s1
  refine wpAny_call (XC.x_made T I1.kIn hG ⟨mb, hb, hb2⟩ hlim (by have := hr.dp; omega) fun h' tk' e d M => ?_)
  show MkP X pins σ Q (.ref e) ⟨h', g, dr, tk', os⟩
  obtain ⟨oe, fv, hoe, hc, hd, hdat, h1⟩ := M.obj
  obtain ⟨G', g1, g2⟩ := restrict h' fun b => decide (b ≠ e)
  have gk : ∀ b, b ≠ e → G'.get? b = h'.get? b := fun b hb => g1 b (decide_eq_true hb)
  have ge : G'.get? e = none := g2 e (by simp)
  have ob : ObjOk X.prog X.w (upd H1 d (.xd [(f, v)])) G' d (.xd [(f, v)]) := ⟨_, M.ns.at (fun o q => (gk d M.dne).trans q), fun y => relO_fld rv y⟩
  have J : Inv X pins σ (upd H1 d (.xd [(f, v)])) ⟨G', g, dr, tk', os⟩ := I1.laid (t' := tk') (fun b o q => (gk b (Nat.ne_of_lt (Nat.lt_of_lt_of_le (Heap.lt_size q) M.new))).trans (M.keep b o q)) M.dbig ob
  refine ⟨e, oe, fv, ⟨G', g, dr, tk', os⟩, _, .ref C, some d, rfl, J, fun b o q => ?_, ge, hoe, ⟨hc, hd⟩, hdat, h1, by rw [upd_ne (Ne.symm M.dne)]; exact I1.hok.fresh M.new, rfl, I1.bare, raises_own T.exC T.tyC, q1 d (I1.hok.fresh M.dbig)⟩
  by_cases hb : b = e
  · rw [hb] at q
    cases ge.symm.trans (show G'.get? e = some o from q)
  · exact (gk b hb).symm.trans q
/-- raise n(e) -/
def tRaiseX (C : Addr) (f : Str) (W : WX) (ta : TA) : TS := fun _ σ H => tMkX C f ta σ H fun cls d H' => W cls d σ H'
theorem ps_raiseX {a : Expr} {ta : TA} {W : WX} {p pos pos2 : Pos} {k : Nat} (hc : X.calm = true) (T : XC.Own X.prog X.K X.mg n f C fI B newId initId bmB) (hr : Room k X.A) (tk : Takes X W) (ha : PA X [a] ta) (hg : Gl X n := by rfl)
    (he : starEach (a :: []) X.env = (false, eval a X.env) :: starEach [] X.env := by rfl) (hpl : (backTo pos (starEach [] X.env)).any (·.1) = false := by rfl) (hdb : (n == ("__debug__" : Str)) = false := by decide) :
    PS X (.Raise (some (.Call (.Name n p) [a] [] pos)) none pos2) (tRaiseX C f W ta) := ps_raise hc tk (pmk_x T hr ha hg he hpl hdb)
end
end Su
/-! ### XD: defs that may let an exception out -/
namespace Su
open PySem PySem.Spec PyProof.Rows L2
structure CalX (P : Program) (w : World) (K : PySem.W.Frag) (mg : Str → Option Value) (base : Heap) (k : Nat) (x : Str) (ps : List Str) (sp : Sp) : Prop where
  ex : ∃ (f : Addr) (fd : FuncData), FnOk P w K mg base (L2.CX P w) k f fd ps sp ∧ mg x = some (.ref f) ∧ PySem.W.keepIn K (.ref f) = true ∧ Binds K fd ps [] ∧ ∃ o : Obj, K.lookup f = some o ∧ o.data = .func fd
section
variable {P : Program} {w : World} {K : PySem.W.Frag} {mg : Str → Option Value} {base : Heap}
theorem cal_ofX {x : Str} {st : Stmt} {N ps : List Str} {k : Nat} {sp : Sp} (T : At K mg x st ps) (S : FnScope N ps (defScope st)) (len : ∀ vs H Q E, sp vs H Q E → vs.length = ps.length)
    (hb : ∀ (f : Addr) (cdv : Value) (A : Around) (outer : List Env) (s : Shared) (H : Hp) (vs : List V) (Q : VK) (E : XK), Room k (A.deeper (envOfC x (defScope st) s.heap.objs.size f cdv)) → sp vs H Q E →
      ∃ t, PSs (cxOf (L2.CX P w) P w K mg base N x (defScope st) f cdv A outer s H E) (defBody st) t ∧ t { nx := fun _ H' => Q .non H', rt := Q } (start N vs) H) : CalX P w K mg base (k + 1) x ps sp := by
  obtain ⟨f, fd, F, hm, b⟩ := T.ex
  have z : ∃ o : Obj, K.lookup f = some o ∧ o.data = .func fd := by
    obtain ⟨oc, od, kV, doc, pm, an, cdv, ct, osl, _, lk, _⟩ := F.ex
    exact ⟨_, lk, rfl⟩
  exact ⟨f, fd, F.okX S len (fun cdv A outer s H vs Q E => hb f cdv A outer s H vs Q E), hm, F.kp, b, z⟩
end
section
variable {X : Cx} {x : Str} {ps : List Str} {sp : Sp} {k j : Nat} {e : Expr} {es : List Expr} {t : TA} {p pos : Pos} {W : WX}
theorem pe_ownX (tk : Takes X W) (C : CalX X.prog X.w X.K X.mg X.base k x ps sp) (hr : Room j X.A) (hk : k ≤ j) (hg : Gl X x) (ha : PA X (e :: es) t)
    (hdb : (x == ("__debug__" : Str)) = false := by decide) (he : starEach (e :: es) X.env = (false, eval e X.env) :: starEach es X.env := by rfl) (hpl : (backTo pos (starEach es X.env)).any (·.1) = false := by rfl) :
    PE X (.Call (.Name x p) (e :: es) [] pos) (tCallS sp (WE W) t) := by
  obtain ⟨f, fd, F, hm, kp, b, _⟩ := C.ex
  exact pe_callS F (hr.mono hk) hg hm kp b (fun σ => passAt tk σ) ha hdb he hpl
end
end Su
/-! ### XE: raise X('..'), X an own exception class without own __init__ -/
namespace Su
open PySem PySem.Spec PyProof.Rows L2
/-- what the written part says of the class n at C, over the built-in B -/
structure Own0 (K : PySem.W.Frag) (mg : Str → Option Value) (n : Str) (C : Addr) (B newId initId : String) (bmB : List Value) : Prop where
  base : ExcBaseFacts B newId initId bmB
  ini : PySem.W.excIn K C bmB newId = true
  gC : mg n = some (.ref C)
  kC : PySem.W.keepIn K (.ref C) = true
  exC : PySem.W.subIn K (.ref C) (.type "BaseException") = some true
  tyC : PySem.W.typeIn K (.ref C) = some (.type "type")
def tRaiseT (C : Addr) (W : WX) : TS := fun _ σ H => W (.ref C) none σ H
theorem ps_raiseT {X : Cx} {n m : Str} {C : Addr} {B newId initId : String} {bmB : List Value} {W : WX} {j : Nat} {p p2 pos pos2 : Pos} (hc : X.calm = true) (T : Own0 X.K X.mg n C B newId initId bmB) (tk : Takes X W) (hg : Gl X n := by rfl)
    (hdb : (n == ("__debug__" : Str)) = false := by decide) : PS X (.Raise (some (.Call (.Name n p) [.Constant (.str m) j p2] [] pos)) none pos2) (tRaiseT C W) :=
  ps_raise hc tk (pmk_own T.base T.ini T.gC T.kC (raises_own T.exC T.tyC) hg hdb)
end Su
/-! ### GA: things of any kind -/
namespace Su
open PySem PySem.Spec PyProof.Rows L2
inductive G where
  | non
  | bl (b : Bool)
  | int (i : Int)
  | str (s : Str)
  | lst (l : List G)
  | tup (l : List G)
  | dct
mutual
/-- the value is such a thing; its lists stand apart from p -/
inductive Tg (p : Addr) (H : Hp) : V → G → Prop
  | non : Tg p H .non .non
  | bl (b : Bool) : Tg p H (.bl b) (.bl b)
  | int (i : Int) : Tg p H (.int i) (.int i)
  | str (s : Str) : Tg p H (.str s) (.str s)
  | lst {a : Addr} {vs : List V} {ds : List G} (n : a ≠ p) (e : H a = some (.lst vs)) (t : TgL p H vs ds) : Tg p H (.ref a) (.lst ds)
  | tup {a : Addr} {vs : List V} {ds : List G} (e : T2 H a vs) (t : TgL p H vs ds) : Tg p H (.ref a) (.tup ds)
  | dct {a : Addr} (e : H a = some (.dK [])) : Tg p H (.ref a) .dct
inductive TgL (p : Addr) (H : Hp) : List V → List G → Prop
  | nil : TgL p H [] []
  | cons {v : V} {vs : List V} {d : G} {ds : List G} (h : Tg p H v d) (t : TgL p H vs ds) : TgL p H (v :: vs) (d :: ds)
end
/-- what keeps such things -/
structure Keeps (p : Addr) (H H' : Hp) : Prop where
  ls : ∀ a vs, a ≠ p → H a = some (.lst vs) → H' a = some (.lst vs)
  tw : ∀ a vs, T2 H a vs → T2 H' a vs
  dk : ∀ a kvs, H a = some (.dK kvs) → H' a = some (.dK kvs)
theorem Keeps.of {p : Addr} {H H' : Hp} (k : Kept p H H') (hp : PoolAt H p) : Keeps p H H' := by
  refine ⟨fun a vs n z => k _ _ z n, fun a vs h => K2.of k hp _ _ h, fun a kvs z => ?_⟩
  obtain ⟨o, e, g, m, rfl, _⟩ := hp
  exact k _ _ z (ne_of z e (by intro y; cases y))
theorem Keeps.same {p : Addr} {H H' : Hp} (s : Same H H') : Keeps p H H' := ⟨fun a vs n z => s _ _ z, fun a vs h => h.same s, fun a kvs z => s _ _ z⟩
mutual
theorem Tg.keep {p : Addr} {H H' : Hp} (k : Keeps p H H') : ∀ {v : V} {g : G}, Tg p H v g → Tg p H' v g
  | _, _, .non => .non
  | _, _, .bl b => .bl b
  | _, _, .int i => .int i
  | _, _, .str s => .str s
  | _, _, .lst n e t => .lst n (k.ls _ _ n e) (TgL.keep k t)
  | _, _, .tup e t => .tup (k.tw _ _ e) (TgL.keep k t)
  | _, _, .dct e => .dct (k.dk _ _ e)
theorem TgL.keep {p : Addr} {H H' : Hp} (k : Keeps p H H') : ∀ {vs : List V} {gs : List G}, TgL p H vs gs → TgL p H' vs gs
  | _, _, .nil => .nil
  | _, _, .cons h t => .cons (Tg.keep k h) (TgL.keep k t)
end
theorem TgL.len {p : Addr} {H : Hp} : ∀ {vs : List V} {gs : List G}, TgL p H vs gs → vs.length = gs.length
  | _, _, .nil => rfl
  | _, _, .cons _ t => by
    rw [List.length_cons, List.length_cons, TgL.len t]
theorem TgL.get {p : Addr} {H : Hp} : ∀ {vs : List V} {gs : List G}, TgL p H vs gs → ∀ {i : Nat} {v : V}, vs[i]? = some v → ∃ g, gs[i]? = some g ∧ Tg p H v g
  | _, _, .nil, i, v, e => by simp at e
  | _, _, .cons h t, 0, v, e => by
    obtain rfl := (by simpa using e : _ = v)
    exact ⟨_, rfl, h⟩
  | _, _, .cons h t, i + 1, v, e => TgL.get t (i := i) (by simpa using e)
theorem TgL.ints {p : Addr} {H : Hp} : ∀ ns : List Int, TgL p H (ns.map V.int) (ns.map G.int)
  | [] => .nil
  | n :: ns => .cons (.int n) (TgL.ints ns)
theorem TgL.app {p : Addr} {H : Hp} : ∀ {vs ws : List V} {gs hs : List G}, TgL p H vs gs → TgL p H ws hs → TgL p H (vs ++ ws) (gs ++ hs)
  | _, _, _, _, .nil, h => h
  | _, _, _, _, .cons x t, h => .cons x (TgL.app t h)
/-! kinds -/
def tyG : G → String
  | .non => "NoneType"
  | .bl _ => "bool"
  | .int _ => "int"
  | .str _ => "str"
  | .lst _ => "list"
  | .tup _ => "tuple"
  | .dct => "dict"
theorem Tg.ty {K : PySem.W.Frag} {p : Addr} {H : Hp} {v : V} {g : G} (h : Tg p H v g) : TyX K H v (.type (tyG g)) := by
  cases h with
  | non => exact .base .non
  | bl b => exact .base (.bl b)
  | int i => exact .base (.int i)
  | str s => exact .base (.str s)
  | lst n e t => exact .base (.lst e)
  | tup e t => exact e.ty
  | dct e => exact .base (.dK e)
def isInt : G → Bool
  | .non => false
  | .bl _ => true
  | .int _ => true
  | .str _ => false
  | .lst _ => false
  | .tup _ => false
  | .dct => false
theorem kit_int {K : PySem.W.Frag} (g : G) : PySem.W.kitOne K (.type (tyG g)) (.type "int") = some (isInt g) := by
  refine kit_ty ?_
  cases g
  · exact (by decide +kernel : kitB "NoneType" "int" = some false)
  · exact (by decide +kernel : kitB "bool" "int" = some true)
  · exact (by decide +kernel : kitB "int" "int" = some true)
  · exact (by decide +kernel : kitB "str" "int" = some false)
  · exact (by decide +kernel : kitB "list" "int" = some false)
  · exact (by decide +kernel : kitB "tuple" "int" = some false)
  · exact (by decide +kernel : kitB "dict" "int" = some false)
def isBool : G → Bool
  | .non => false
  | .bl _ => true
  | .int _ => false
  | .str _ => false
  | .lst _ => false
  | .tup _ => false
  | .dct => false
theorem kit_bool {K : PySem.W.Frag} (g : G) : PySem.W.kitOne K (.type (tyG g)) (.type "bool") = some (isBool g) := by
  refine kit_ty ?_
  cases g
  · exact (by decide +kernel : kitB "NoneType" "bool" = some false)
  · exact (by decide +kernel : kitB "bool" "bool" = some true)
  · exact (by decide +kernel : kitB "int" "bool" = some false)
  · exact (by decide +kernel : kitB "str" "bool" = some false)
  · exact (by decide +kernel : kitB "list" "bool" = some false)
  · exact (by decide +kernel : kitB "tuple" "bool" = some false)
  · exact (by decide +kernel : kitB "dict" "bool" = some false)
def isStr : G → Bool
  | .non => false
  | .bl _ => false
  | .int _ => false
  | .str _ => true
  | .lst _ => false
  | .tup _ => false
  | .dct => false
theorem kit_str {K : PySem.W.Frag} (g : G) : PySem.W.kitOne K (.type (tyG g)) (.type "str") = some (isStr g) := by
  refine kit_ty ?_
  cases g
  · exact (by decide +kernel : kitB "NoneType" "str" = some false)
  · exact (by decide +kernel : kitB "bool" "str" = some false)
  · exact (by decide +kernel : kitB "int" "str" = some false)
  · exact (by decide +kernel : kitB "str" "str" = some true)
  · exact (by decide +kernel : kitB "list" "str" = some false)
  · exact (by decide +kernel : kitB "tuple" "str" = some false)
  · exact (by decide +kernel : kitB "dict" "str" = some false)
def isTuple : G → Bool
  | .non => false
  | .bl _ => false
  | .int _ => false
  | .str _ => false
  | .lst _ => false
  | .tup _ => true
  | .dct => false
theorem kit_tuple {K : PySem.W.Frag} (g : G) : PySem.W.kitOne K (.type (tyG g)) (.type "tuple") = some (isTuple g) := by
  refine kit_ty ?_
  cases g
  · exact (by decide +kernel : kitB "NoneType" "tuple" = some false)
  · exact (by decide +kernel : kitB "bool" "tuple" = some false)
  · exact (by decide +kernel : kitB "int" "tuple" = some false)
  · exact (by decide +kernel : kitB "str" "tuple" = some false)
  · exact (by decide +kernel : kitB "list" "tuple" = some false)
  · exact (by decide +kernel : kitB "tuple" "tuple" = some true)
  · exact (by decide +kernel : kitB "dict" "tuple" = some false)
def isList : G → Bool
  | .non => false
  | .bl _ => false
  | .int _ => false
  | .str _ => false
  | .lst _ => true
  | .tup _ => false
  | .dct => false
theorem kit_list {K : PySem.W.Frag} (g : G) : PySem.W.kitOne K (.type (tyG g)) (.type "list") = some (isList g) := by
  refine kit_ty ?_
  cases g
  · exact (by decide +kernel : kitB "NoneType" "list" = some false)
  · exact (by decide +kernel : kitB "bool" "list" = some false)
  · exact (by decide +kernel : kitB "int" "list" = some false)
  · exact (by decide +kernel : kitB "str" "list" = some false)
  · exact (by decide +kernel : kitB "list" "list" = some true)
  · exact (by decide +kernel : kitB "tuple" "list" = some false)
  · exact (by decide +kernel : kitB "dict" "list" = some false)
end Su
/-! ### GB: such things as data -/
namespace Su
open PySem PySem.Spec PyProof.Rows L2
mutual
def toD : G → PyData
  | .non => .none
  | .bl b => .bool b
  | .int i => .int i
  | .str s => .str s
  | .lst l => .list (toDs l)
  | .tup l => .tuple (toDs l)
  | .dct => .dict []
def toDs : List G → List PyData
  | [] => []
  | g :: gs => toD g :: toDs gs
end
mutual
def okD : G → Bool
  | .dct => false
  | .lst l => okDs l
  | .tup l => okDs l
  | _ => true
def okDs : List G → Bool
  | [] => true
  | g :: gs => okD g && okDs gs
end
mutual
theorem Tg.dp {K : PySem.W.Frag} {p : Addr} {H : Hp} : ∀ {v : V} {g : G}, Tg p H v g → okD g = true → Dp K H v (toD g)
  | _, _, .non, _ => .non
  | _, _, .bl b, _ => .bl b
  | _, _, .int i, _ => .int i
  | _, _, .str s, _ => .str s
  | _, _, .lst n e t, h => .lst (SqL.of e) (TgL.dp t (by simpa only [okD] using h))
  | _, _, .tup e t, h => .tup e.sq (TgL.dp t (by simpa only [okD] using h))
  | _, _, .dct _, h => by simp [okD] at h
theorem TgL.dp {K : PySem.W.Frag} {p : Addr} {H : Hp} : ∀ {vs : List V} {gs : List G}, TgL p H vs gs → okDs gs = true → DpAll K H vs (toDs gs)
  | _, _, .nil, _ => .nil
  | _, _, .cons x t, h => by
    simp only [okDs, Bool.and_eq_true] at h
    exact .cons (Tg.dp x h.1) (TgL.dp t h.2)
end
theorem toDs_map : ∀ gs : List G, toDs gs = gs.map toD
  | [] => rfl
  | g :: gs => by
    show toD g :: toDs gs = toD g :: gs.map toD
    rw [toDs_map gs]
theorem okDs_all : ∀ gs : List G, okDs gs = gs.all okD
  | [] => rfl
  | g :: gs => by
    show (okD g && okDs gs) = (okD g && gs.all okD)
    rw [okDs_all gs]
theorem eqv_nilD (ds : List PyData) : PyData.eqv (.list ds) (.list []) = ds.isEmpty := by
  cases ds with
  | nil => rfl
  | cons x l => rfl
/-- a thing that may stand in a tuple -/
structure OkE (g : G) : Prop where
  ok : okD g = true
  cl : (toD g).canLay0 = true
  dp : (toD g).depth ≤ 4
theorem lay_all : ∀ {gs : List G}, (∀ g ∈ gs, OkE g) → PyData.canLayAll0 (toDs gs) = true ∧ PyData.depthAll (toDs gs) ≤ 4
  | [], _ => ⟨by simp [toDs, PyData.canLayAll0], by simp [toDs, PyData.depthAll]⟩
  | g :: gs, h => by
    obtain ⟨a, b⟩ := lay_all fun x hx => h x (List.mem_cons_of_mem _ hx)
    have c := h g List.mem_cons_self
    refine ⟨?_, ?_⟩
    · simp only [toDs, PyData.canLayAll0, c.cl, a, Bool.and_self]
    · simp only [toDs, PyData.depthAll]
      have := c.dp
      omega
/-- a list of such things beside [] -/
theorem OkE.list {gs : List G} (h : ∀ g ∈ gs, OkE g) : okDs gs = true ∧ SeqAt.shaped (.list (toDs gs)) = true := by
  obtain ⟨a, b⟩ := lay_all h
  refine ⟨?_, ?_⟩
  · rw [okDs_all, List.all_eq_true]
    exact fun g hg => (h g hg).ok
  · unfold SeqAt.shaped
    rw [Bool.and_eq_true, decide_eq_true_eq]
    refine ⟨by simp only [PyData.canLay0, a], ?_⟩
    simp only [PyData.depth]
    omega
theorem shaped_nil : SeqAt.shaped (.list []) = true := by
  have f2 : Fine (.list []) 1 0 := Fine.list FineL.nil
  exact f2.shaped (by decide)
end Su
/-! ### GC: repr of such things -/
namespace Su
open PySem PySem.Spec PyProof.Rows L2
structure Fz (g : G) (n m : Nat) : Prop where
  sh : (toD g).showable = true
  dp : (toD g).depth ≤ n
  lv : (toD g).leavesShort 30 = true
  wt : (toD g).weight ≤ m
structure FzL (gs : List G) (n m : Nat) : Prop where
  sh : PyData.showableAll (toDs gs) = true
  dp : PyData.depthAll (toDs gs) ≤ n
  lv : PyData.leavesShortAll 30 (toDs gs) = true
  wt : PyData.weightAll (toDs gs) ≤ m
theorem Fz.up {g : G} {n m n' m' : Nat} (h : Fz g n m) (a : n ≤ n') (b : m ≤ m') : Fz g n' m' := ⟨h.sh, Nat.le_trans h.dp a, h.lv, Nat.le_trans h.wt b⟩
theorem FzL.up {g : List G} {n m n' m' : Nat} (h : FzL g n m) (a : n ≤ n') (b : m ≤ m') : FzL g n' m' := ⟨h.sh, Nat.le_trans h.dp a, h.lv, Nat.le_trans h.wt b⟩
theorem Fz.int {i : Int} (h1 : -1000000 ≤ i) (h2 : i ≤ 1000000) : Fz (.int i) 0 40 := by
  have hb : i.natAbs < 10 ^ 12 := by omega
  have hl : i.natAbs.log2 < 39 := by
    by_cases z : i.natAbs = 0
    · rw [z]
      decide
    · exact (Nat.log2_lt z).mpr (by omega)
  refine ⟨?_, by simp [toD, PyData.depth], ?_, ?_⟩
  · simp only [toD, PyData.showable, decide_eq_true_eq]
    omega
  · simp only [toD, PyData.leavesShort, decide_eq_true_eq]
    exact Nat.le_trans (PyData.shown_int_le hb) (by decide)
  · simp only [toD, PyData.weight]
    split <;> omega
theorem Fz.none : Fz .non 0 0 := ⟨by simp [toD, PyData.showable], by simp [toD, PyData.depth], by simp [toD, PyData.leavesShort], by simp [toD, PyData.weight]⟩
theorem Fz.bool (b : Bool) : Fz (.bl b) 0 0 := ⟨by simp [toD, PyData.showable], by simp [toD, PyData.depth], by simp [toD, PyData.leavesShort], by simp [toD, PyData.weight]⟩
theorem Fz.dct : Fz .dct 1 0 := ⟨by simp [toD, PyData.showable, PyData.showableKv], by simp [toD, PyData.depth, PyData.depthKv], by simp [toD, PyData.leavesShort, PyData.leavesShortKv], by simp [toD, PyData.weight, PyData.weightKv]⟩
theorem FzL.nil {n : Nat} : FzL [] n 0 := ⟨by simp [toDs, PyData.showableAll], by simp [toDs, PyData.depthAll], by simp [toDs, PyData.leavesShortAll], by simp [toDs, PyData.weightAll]⟩
theorem FzL.cons {g : G} {gs : List G} {n m k : Nat} (h : Fz g n m) (t : FzL gs n k) : FzL (g :: gs) n (m + 1 + k) := by
  refine ⟨?_, ?_, ?_, ?_⟩
  · simp only [toDs, PyData.showableAll, h.sh, t.sh, Bool.and_self]
  · simp only [toDs, PyData.depthAll]
    have := h.dp
    have := t.dp
    omega
  · simp only [toDs, PyData.leavesShortAll, h.lv, t.lv, Bool.and_self]
  · simp only [toDs, PyData.weightAll]
    have := h.wt
    have := t.wt
    omega
theorem Fz.tup {gs : List G} {n m : Nat} (t : FzL gs n m) : Fz (.tup gs) (n + 1) m :=
  ⟨by simpa only [toD, PyData.showable] using t.sh, by simp only [toD, PyData.depth]; have := t.dp; omega, by simpa only [toD, PyData.leavesShort] using t.lv, by simpa only [toD, PyData.weight] using t.wt⟩
theorem Fz.lst {gs : List G} {n m : Nat} (t : FzL gs n m) : Fz (.lst gs) (n + 1) m :=
  ⟨by simpa only [toD, PyData.showable] using t.sh, by simp only [toD, PyData.depth]; have := t.dp; omega, by simpa only [toD, PyData.leavesShort] using t.lv, by simpa only [toD, PyData.weight] using t.wt⟩
theorem FzL.all {n m : Nat} : ∀ {gs : List G}, (∀ g ∈ gs, Fz g n m) → FzL gs n ((m + 1) * gs.length)
  | [], _ => FzL.nil
  | g :: gs, h => by
    have a := FzL.cons (h g List.mem_cons_self) (FzL.all fun y hy => h y (List.mem_cons_of_mem _ hy))
    have e : m + 1 + (m + 1) * gs.length = (m + 1) * (g :: gs).length := by
      rw [List.length_cons, Nat.mul_add, Nat.mul_one, Nat.add_comm]
    rw [e] at a
    exact a
theorem Fz.len {g : G} {n m : Nat} (h : Fz g n m) (hm : m ≤ 500000) : (toD g).shown.length ≤ sizeLine := by
  have a := PyData.shown_le 30 (by decide) (toD g) h.lv
  have b := h.wt
  rw [sizeLine_eq]
  omega
mutual
theorem okD_nd : ∀ g : G, okD g = true → (toD g).hasDict = false
  | .non, _ => by simp [toD, PyData.hasDict]
  | .bl _, _ => by simp [toD, PyData.hasDict]
  | .int _, _ => by simp [toD, PyData.hasDict]
  | .str _, _ => by simp [toD, PyData.hasDict]
  | .lst l, h => by
    simp only [toD, PyData.hasDict]
    exact okDs_nd l (by simpa only [okD] using h)
  | .tup l, h => by
    simp only [toD, PyData.hasDict]
    exact okDs_nd l (by simpa only [okD] using h)
  | .dct, h => by simp [okD] at h
theorem okDs_nd : ∀ gs : List G, okDs gs = true → PyData.hasDictAll (toDs gs) = false
  | [], _ => by simp [toDs, PyData.hasDictAll]
  | g :: gs, h => by
    simp only [okDs, Bool.and_eq_true] at h
    simp only [toDs, PyData.hasDictAll, okD_nd g h.1, okDs_nd gs h.2, Bool.or_self]
end
/-- a thing without a dict, or an empty dict -/
def Flat (g : G) : Prop := okD g = true ∨ g = .dct
section
variable {X : Cx} {pins : List (Addr × Obj)} {σ : L2.St} {H : Hp} {s : Shared} {p : Addr}
theorem flat_reads (I : Inv X pins σ H s) {v : V} {g : G} {u : Value} (h : Tg p H v g) (r : RelV v u) (fl : Flat g) : ∃ as, Reads s.heap u (toD g) as ∧ ((toD g).hasDict = true → sysModules ∉ as) := by
  rcases fl with ok | rfl
  · obtain ⟨as, rd⟩ := Dp.reads I (toD g) v u (h.dp ok) r
    exact ⟨as, rd, PyData.noDict_hsm (okD_nd g ok)⟩
  · cases h with
    | @dct a e =>
      cases r
      obtain ⟨_, lo, vs, kv, o, es, ep, ho, hx, hd, _, pr, _⟩ := dk_of I.hok e
      cases kv
      have ee : es.toList = [] := by
        cases hz : es.toList with
        | nil => rfl
        | cons x l =>
          rw [hz] at pr
          cases pr
      refine ⟨_, Reads.dict (kvs := []) ho hx.1 hd (by rw [ee]; exact .nil) (by rw [ee]; exact .nil), fun _ hm => ?_⟩
      rcases List.mem_append.mp hm with z | z
      · rcases List.mem_cons.mp z with y | y
        · rw [← y] at lo
          simp at lo
        · cases y
      · cases z
theorem rows_reads (I : Inv X pins σ H s) : ∀ {vs : List V} {gs : List G} {us : List Value}, TgL p H vs gs → Vals vs us → (∀ g ∈ gs, Flat g) → PyData.showableAll (toDs gs) = true → (∀ t ∈ PyData.shownAll (toDs gs), t.length ≤ sizeLine) →
    (∃ as, ReadsAll s.heap us (toDs gs) as) ∧ ∃ bs, ReadAtMost s.heap (PyData.depthAll (toDs gs)) bs ∧ ReprAllK X.prog X.w bs s.heap (PyData.depthAll (toDs gs)) us (PyData.shownAll (toDs gs))
  | _, _, _, .nil, r, _, _, _ => by
    cases r
    exact ⟨⟨_, .nil⟩, [], (fun _ h => nomatch h), by simp only [toDs, PyData.shownAll]; exact .nil⟩
  | _, _, _, .cons (d := d) (ds := ds) h t, r, fl, sh, hz => by
    cases r with
    | cons r1 r2 =>
      have sh' : (toD d).showable = true ∧ PyData.showableAll (toDs ds) = true := by simpa [toDs, PyData.showableAll] using sh
      obtain ⟨as, rd, hsm⟩ := flat_reads I h r1 (fl d List.mem_cons_self)
      obtain ⟨b1, hb1, k1⟩ := ReprK.of_reads (prog := X.prog) (w := X.w) rd sh'.1 hsm (hz _ (by simp only [toDs, PyData.shownAll]; exact List.mem_cons_self ..))
      obtain ⟨⟨as2, rd2⟩, b2, hb2, k2⟩ := rows_reads I t r2 (fun g hg => fl g (List.mem_cons_of_mem _ hg)) sh'.2 (fun t ht => hz t (by simp only [toDs, PyData.shownAll]; exact List.mem_cons_of_mem _ ht))
      refine ⟨⟨_, .cons rd rd2⟩, b1 ++ b2, ?_, ?_⟩
      · intro b hm
        simp only [toDs, PyData.depthAll]
        rcases List.mem_append.mp hm with hm | hm
        · obtain ⟨d', as', r', hd'⟩ := hb1 b hm
          exact ⟨d', as', r', Nat.le_trans hd' (Nat.le_max_left _ _)⟩
        · obtain ⟨d', as', r', hd'⟩ := hb2 b hm
          exact ⟨d', as', r', Nat.le_trans hd' (Nat.le_max_right _ _)⟩
      · simp only [toDs, PyData.depthAll, PyData.shownAll]
        exact .cons ((k1.more fun b hb => List.mem_append_left _ hb).level_le (Nat.le_max_left _ _)) (k2.more_le (fun b hb => List.mem_append_right _ hb) (Nat.le_max_right _ _))
end
/-- what may be shown: flat, or a list of flat things -/
structure Shw (g : G) : Prop where
  fz : Fz g 40 500000
  fl : Flat g ∨ ∃ gs, g = .lst gs ∧ ∀ x ∈ gs, Flat x
section
variable {X : Cx}
def rReprG : List V → Hp → VK → Prop := fun xs H Q => ∃ (p : Addr) (v : V) (g : G), xs = [v] ∧ Tg p H v g ∧ Shw g ∧ Q (.str (toD g).shown) H
theorem call_reprG (hg : X.A.guards = some []) (hu : X.A.units + 64 < cLine) : CallR X (.builtin "repr") rReprG := by
  intro pins s σ H xs us Q I r h
  obtain ⟨p, v, g, rfl, ht, sw, q⟩ := h
  obtain ⟨u, rfl, ru⟩ := vals1 r
  have hz := sw.fz.len (Nat.le_refl _)
  have hdp := sw.fz.dp
  have ht0 := ht
  rcases sw.fl with fl | ⟨gs, rfl, fl⟩
  · cases ht with
    | non =>
      cases ru
      simp only [toD, PyData.shown] at q
      exact PySem.P.repr_of_none ⟨.str _, H, I.tok _, ⟨_, rfl⟩, q⟩
    | bl b =>
      cases ru
      simp only [toD, PyData.shown] at q
      exact PySem.P.repr_of_bool ⟨.str _, H, I.tok _, ⟨_, rfl⟩, q⟩
    | int i =>
      obtain ⟨t, rfl⟩ := ru
      simp only [toD, PyData.shown] at q
      have z := sw.fz.sh
      simp only [toD, PyData.showable, decide_eq_true_eq] at z
      exact PySem.P.repr_of_int z ⟨.str _, H, I.tok _, ⟨_, rfl⟩, q⟩
    | str x =>
      obtain ⟨t, rfl⟩ := ru
      simp only [toD, PyData.shown] at q hz
      exact PySem.P.repr_of_str ⟨.str _, H, I.tok _, ⟨_, rfl⟩, q⟩ hz
    | @lst a vs ds n e t =>
      cases ru
      obtain ⟨as, rd, hsm⟩ := flat_reads I ht0 rfl fl
      exact repr_of_reads' rd sw.fz.sh hsm hg (by omega) (fun _ _ z => z) (fun h' u tk hk => ⟨.str _, H, I.kept hk, ⟨u, rfl⟩, q⟩) hz
    | @tup a vs ds e t =>
      cases ru
      obtain ⟨as, rd, hsm⟩ := flat_reads I ht0 rfl fl
      exact repr_of_reads' rd sw.fz.sh hsm hg (by omega) (fun _ _ z => z) (fun h' u tk hk => ⟨.str _, H, I.kept hk, ⟨u, rfl⟩, q⟩) hz
    | @dct a e =>
      cases ru
      obtain ⟨as, rd, hsm⟩ := flat_reads I ht0 rfl fl
      exact repr_of_reads' rd sw.fz.sh hsm hg (by omega) (fun _ _ z => z) (fun h' u tk hk => ⟨.str _, H, I.kept hk, ⟨u, rfl⟩, q⟩) hz
  · cases ht with
    | @lst a vs _ n e t =>
      cases ru
      obtain ⟨its, rv, ⟨o, na, ho, hc, _, hd⟩, _⟩ := I.list (SqL.of e)
      have hz' : (listText (PyData.shownAll (toDs gs))).length ≤ sizeLine := by simpa only [toD, PyData.shown] using hz
      have sh' : PyData.showableAll (toDs gs) = true := by simpa only [toD, PyData.showable] using sw.fz.sh
      obtain ⟨⟨as, rda⟩, bs, hb, hk⟩ := rows_reads I t rv fl sh' (fun t ht => Nat.le_trans (listText_mem_le ht) hz')
      have rd : Reads s.heap (.ref a) (.list (toDs gs)) (a :: as) := Reads.list ho hc hd (by simpa using rda)
      have hna : a ∉ bs := not_mem_of_deeper rd (by simp only [PyData.depth]; omega) hb
      have q2 : Q (.str (listText (PyData.shownAll (toDs gs)))) H := by simpa only [toD, PyData.shown] using q
      simp only [toD, PyData.depth] at hdp
      refine call_repr_slot (by omega) ⟨o, ho, hc⟩ F.slot_list_repr.toG ?_
      cases its with
      | nil =>
        have e0 : toDs gs = [] := by
          clear q q2 hz hz' hdp sw sh' hk hb hna rd ht0 fl
          generalize toDs gs = ds at rda ⊢
          cases rda
          rfl
        rw [e0] at q2
        simp only [PyData.shownAll, listText_nil] at q2
        exact call_list_repr_empty ⟨o, ho, hc⟩ ho hd ⟨_, _, rfl, .str _, H, I.kept fun _ _ e => e, ⟨_, rfl⟩, q2⟩
      | cons x l =>
        exact call_list_reprK ho hc hd hna (by simpa using hk.length_eq) (fun i y e => hk.item i y (by simpa using e)) hg (fun b _ => Clear.nil b) (by show X.A.units + 1 + (_ + 1) < cLine; omega) (fun _ _ z => z) (fun h' u tk hk => ⟨_, _, rfl, .str _, H, I.kept hk, ⟨u, rfl⟩, q2⟩) hz'
end
end Su
/-! ### SH: set(t), t a tuple of ints -/
namespace Su
open PySem PySem.Spec PyProof.Rows L2
section
variable {P : Program} {w : World} {A : Around} {E : Value → Shared → Prop} {s : Shared}
theorem set_of_tup {l : Addr} {its : Array Value} (ns : List Int) {Q : Value → Shared → Prop} (hh : A.handled = none) (hl : s.heap.IsTuple l its) (ia : IntsAre its.toList ns) (few : ns.length + 1 < scanBound)
    (q : ∀ (h' : Heap) (tk c : Nat), SetR w h' s.heap.objs.size (fun j => decide (j ∈ ns)) c → c ≤ ns.length → (∀ b o, s.heap.get? b = some o → h'.get? b = some o) → Q (.ref s.heap.objs.size) { s with heap := h', toks := tk }) :
    wpAny (model P w) A (call (.type "set") [.ref l]) Q E s := by
  have sz : its.size = ns.length := by
    have z := IntsAre.length ia
    rwa [Array.length_toList] at z
  obtain ⟨c0, tl0, m0⟩ := F.called_set.mro
  have m1 := F.called_set.made
  have m2 := F.called_set.sub
  have m3 := F.called_set.notType
  have m4 := F.called_set.canCreate
  have m5 := F.typeCall_set_1 (.ref l)
  refine wpAny_call (codeAny_of_tree ?_)
  show wpAny _ _ (callAny (.type "set") _) _ _ _
  refine wpAny_pure ⟨Code.quiet_builtin _ (by decide +kernel), codeAny_builtin F.entry_type_call ?_⟩
  rw [Around.under_plain (weight_type_call_type "set" [.ref l] []) rfl]
  repeat (any_goals (first | assumption | wp_step))
  refine codeAny_mono (code_set_led1 (.ref l) (E := E) (Q₁ := fun x t => x = .ref s.heap.objs.size ∧ t = { s with heap := s.heap.push (set0 w) }) ⟨rfl, rfl⟩) fun r t hr => ?_
  match r, hr with
  | .error e, hr => exact hr
  | .ok .next, hr => exact hr.elim
  | .ok .brk, hr => exact hr.elim
  | .ok .cont, hr => exact hr.elim
  | .ok (.ret x), hr =>
    obtain ⟨rfl, rfl⟩ := hr
    have at0 : (s.heap.push (set0 w)).get? s.heap.objs.size = some (set0 w) := Heap.get?_push_size _ rfl
    have ty0 : Shared.TypeIs { s with heap := s.heap.push (set0 w) } (.ref s.heap.objs.size) "set" := ⟨_, at0, rfl⟩
    have n1 := F.called_set.init.lookup
    have n2 := F.called_set.init.bind (.ref s.heap.objs.size)
    repeat (any_goals (first | assumption | wp_step))
    refine codeAny_mono (codeAny_call_builtin (R := wants (fun r t => r = .none ∧ ∃ h' tk c, t = { s with heap := h', toks := tk } ∧ SetR w h' s.heap.objs.size (fun j => decide (j ∈ ns)) c ∧ c ≤ ns.length ∧ ∀ b o, s.heap.get? b = some o → h'.get? b = some o) E)
      F.called_set.init.plain F.entry_set_init (check_set_init_1 ty0 ?_)) fun r2 t2 hr2 => ?_
    · obtain ⟨⟨oc, od, odt, os⟩, ho, hc, nl, hd⟩ := hl
      simp only at hc hd
      subst hc hd
      have lt : l < s.heap.objs.size := Heap.lt_size ho
      have ho1 : (s.heap.push (set0 w)).get? l = some { cls := .type "tuple", dict := od, data := .seq its nl, slots := os } := Heap.get?_push_of_some _ ho
      have isl : (s.heap.push (set0 w)).IsTuple l its := ⟨_, ho1, rfl, nl, rfl⟩
      have p1 := F.sub_tuple_set
      have p2 := F.sub_tuple_frozenset
      have p3 : (Value.type "tuple" == Value.type "dict") = false := by decide
      unfold Builtin.«set.__init__» noKeywords Builtin.Frozenset.updateFrom
      generalize hPI : pyIter = PI
      wp_walk
      subst hPI
      refine wpAny_pyIter_tuple isl (wpAny_bind (wpAny_runValue ?_))
      have size1 : (s.heap.push (set0 w)).objs.size = s.heap.objs.size + 1 := Heap.size_push ..
      have ap : l ≠ (s.heap.push (set0 w)).objs.size := by
        rw [size1]
        exact Nat.ne_of_lt (Nat.lt_succ_of_lt lt)
      have ap2 : s.heap.objs.size ∉ [(s.heap.push (set0 w)).objs.size, l] := by
        rw [size1]
        simp only [List.mem_cons, List.not_mem_nil, or_false, not_or]
        exact ⟨Nat.ne_of_lt (Nat.lt_succ_self _), Nat.ne_of_gt lt⟩
      refine set_update_ints ((Walks.tuple (by simp [hh]) _ l ap its).toS) s.heap.objs.size ap2 ns sz few (fun i v hv => ?_) (its.size - 0) 0 _ (by omega) (Nat.zero_le _) ⟨⟨_, Heap.get?_push_size _ rfl, rfl, rfl⟩, (isl.extBut (b := (s.heap.push (set0 w)).objs.size) (fun b o hb e => Heap.get?_push_of_some _ e) ap)⟩ ⟨0, Nat.le_refl 0, setR_new_at (Heap.get?_push_of_some _ at0)⟩ fun t3 c3 mv hc3 hS3 => ?_
      · have hi : i < ns.length := by
          rw [← sz]
          exact (Array.getElem?_eq_some_iff.mp hv).1
        obtain ⟨tk, e⟩ := PyProof.Rows.IntsAre.int_at ia i v (by rw [Array.getElem?_toList]; exact hv)
        refine ⟨ns[i], tk, List.getElem?_eq_getElem hi, ?_⟩
        rw [e, List.getD_eq_getElem?_getD, List.getElem?_eq_getElem hi] <;> rfl
      · obtain ⟨h3, g3, d3, tk3, os3⟩ := t3
        obtain rfl : g3 = s.gens := mv.gens
        obtain rfl : d3 = s.drawn := mv.drawn
        obtain rfl : os3 = s.os := mv.os
        show wpAny _ _ _ _ _ _
        refine wpAny_pure ?_
        show wpAny _ _ (ret Value.none) _ _ _
        refine wpAny_pure ⟨rfl, h3, tk3, c3, rfl, hS3, by omega, fun b o e => ?_⟩
        have bl : b < s.heap.objs.size := Heap.lt_size e
        refine mv.heap b o ?_ (Heap.get?_push_of_some _ (Heap.get?_push_of_some _ e))
        rw [size1]
        simp only [List.mem_cons, List.not_mem_nil, or_false, not_or]
        exact ⟨Nat.ne_of_lt bl, Nat.ne_of_lt (Nat.lt_succ_of_lt bl)⟩
    · match r2, hr2 with
      | .error e, hr2 => exact hr2
      | .ok .next, hr2 => exact hr2.elim
      | .ok .brk, hr2 => exact hr2.elim
      | .ok .cont, hr2 => exact hr2.elim
      | .ok (.ret y), hr2 =>
        obtain ⟨rfl, h', tk, c, rfl, hS, hc, hk⟩ := hr2
        repeat (any_goals (first | assumption | wp_step))
        exact q _ _ _ hS hc hk
end
section
variable {X : Cx}
def rSetT (w : World) (K : PySem.W.Frag) : List V → Hp → VK → Prop := fun xs H Q => ∃ (l : Addr) (ns : List Int), xs = [.ref l] ∧ SqT K H l (ns.map V.int) ∧ ns.length ≤ 4000 ∧ ∀ (p : Addr) (H' : Hp), Same H H' → H p = none → SetIs w H' p ns → Q (.ref p) H'
theorem cr_setT (hc : X.calm = true) : CallR X (.type "set") (rSetT X.w X.K) := by
  intro pins s σ H xs us Q I r h
  obtain ⟨l, ns, rfl, hq, hl, q⟩ := h
  rw [Vals.ref1 r]
  obtain ⟨its, rv, pl, hz⟩ := I.tuple hq
  refine set_of_tup ns (I.ok.hd hc) pl (by simpa using ints_of rv) (by unfold scanBound; omega) fun h' tk c hR hc' hk => ?_
  have new : H s.heap.objs.size = none := I.hok.fresh (Nat.le_refl _)
  exact ⟨.ref s.heap.objs.size, _, I.laid (t' := tk) hk (Nat.le_refl _) (setO_new hR), rfl, q _ _ (same_upd new) new (SetIs.of hR upd_same fun k => decide_eq_true_iff)⟩
end
end Su
/-! ### SK: a tuple so many times -/
namespace Su
open PySem PySem.Spec PyProof.Rows L2
section
variable {X : Cx}
def rRepA : R2 := fun x y H Q => ∃ (a : Addr) (k : Int) (xs : List V), x = .ref a ∧ y = .int k ∧ T2 H a xs ∧ xs ≠ [] ∧ 0 ≤ k ∧ k ≤ 1000 ∧ xs.length ≤ 1000 ∧ ∀ v H', Same H H' → T2 H' v (List.replicate k.toNat xs).flatten → Q (.ref v) H'
theorem op_repA : OpR X (binaryOp .Mult) rRepA := by
  intro pins s σ H x y v u Q I rx ry h
  obtain ⟨a, k, xs, rfl, rfl, ha, ne, k0, k1, hl, q⟩ := h
  by_cases h2 : 2 ≤ k
  · exact op_repT pins s σ H _ _ v u Q I rx ry ⟨a, k, xs, rfl, rfl, ha.sq, ne, h2, k1, hl, fun p np => q p _ (same_upd np) (.inr upd_same)⟩
  · refine op_mul01 pins s σ H _ _ v u Q I rx ry ⟨a, k, xs, rfl, rfl, ha, ne, by omega, fun v H' s' ht => q v H' s' ?_⟩
    have e : k = 0 ∨ k = 1 := by omega
    rcases e with rfl | rfl
    · exact ht
    · rw [show (List.replicate (1 : Int).toNat xs).flatten = xs from by simp]
      exact ht
end
end Su
/-! ### SL: a tuple so many times, its methods may be called -/
namespace Su
open PySem PySem.Spec PyProof.Rows L2
section
variable {X : Cx}
def rRepF : R2 := fun x y H Q => ∃ (a : Addr) (k : Int) (xs : List V), x = .ref a ∧ y = .int k ∧ PTup H a xs ∧ xs ≠ [] ∧ 0 ≤ k ∧ k ≤ 1000 ∧ xs.length ≤ 1000 ∧ ∀ v H', Same H H' → PTup H' v (List.replicate k.toNat xs).flatten → Q (.ref v) H'
theorem rep_flat_len {α : Type} (l : List α) : ∀ n : Nat, (List.replicate n l).flatten.length = n * l.length
  | 0 => by simp
  | n + 1 => by
    rw [List.replicate_succ, List.flatten_cons, List.length_append, rep_flat_len l n, Nat.add_mul, Nat.one_mul, Nat.add_comm]
theorem op_repF : OpR X (binaryOp .Mult) rRepF := by
  intro pins s σ H x y v u Q I rx ry h
  obtain ⟨a, k, xs, rfl, rfl, ha, ne, k0, k1, hl, q⟩ := h
  cases rx
  obtain ⟨t, rfl⟩ := ry
  obtain ⟨its, r, ⟨⟨cls, dv, data, sl⟩, ho, hc, n, hd⟩, hs⟩ := I.tuple (ha.sq (K := X.K))
  simp only at hc hd
  subst hc hd
  have le : its.length = xs.length := r.length.symm
  have pos : 0 < its.length := by
    rw [le]
    exact List.length_pos_iff.mpr ne
  have full : its.toArray.isEmpty = false := by
    cases its with
    | nil => simp at pos
    | cons _ _ => rfl
  have prod : k.toNat * xs.length ≤ 1000 * 1000 := Nat.mul_le_mul (by omega) hl
  have ty := fun (s' : Shared) => typeIs_int s' k t
  by_cases h2 : 2 ≤ k
  · have sz : its.toArray.size = its.length := List.size_toArray ..
    have small : ((its.toArray.size : Nat) : Int) * k ≤ 1000000 := by
      rw [sz, le]
      have z : ((xs.length : Nat) : Int) * k ≤ 1000 * k := Int.mul_le_mul_of_nonneg_right (by omega) k0
      omega
    have g0 : (decide (k < -(2 ^ 63)) || decide (k ≥ 2 ^ 63)) = false := by
      rw [Bool.or_eq_false_iff]
      exact ⟨decide_eq_false (by omega), decide_eq_false (by omega)⟩
    have g1 : (its.toArray.isEmpty || k == 1) = false := by
      rw [full]
      simpa using (by omega : ¬ k = 1)
    have g2 : (decide (k ≤ 0) || its.toArray.isEmpty) = false := by
      rw [full, Bool.or_false]
      exact decide_eq_false (by omega)
    have g4 : Builtin.Tuple.tupleTooMany (((its.toArray.size : Nat) : Int) * k) = false := by
      unfold Builtin.Tuple.tupleTooMany
      exact decide_eq_false (by rw [sizeLine_eq]; omega)
    have fl : (List.replicate k.toNat its).flatten.length ≤ sizeLine := by
      rw [rep_flat_len, le, sizeLine_eq]
      omega
    have M := tuple_mulW a its.toArray n dv sl k t g0 g1 g2 (by omega) g4 (by rw [size_rep, List.size_toArray]; exact fl)
    refine wpAny_binaryOp_repeat_ref (T := "tuple") (U := "int") (by decide) ⟨_, ho, rfl⟩ ty noFill_tuple_mul F.fills_int_mul F.slot_int_rmul repeat_tuple F.slot_int_index.lookup (call_meets F.slot_int_rmul (ty s) F.entry_int_rmul (F.args_int_rmul_2 _ _) (int_rmul_tuple k t a its.toArray n dv sl) ⟨ho, rfl, ⟨_, ho, rfl⟩, call_meets F.slot_tuple_mul ⟨_, ho, rfl⟩ F.entry_tuple_mul (F.args_tuple_mul_2 _ _) M ⟨ho, ?_⟩⟩)
    rw [size_rep]
    exact newF I (r.rep k.toNat) (by rw [rep_flat_len, sizeLine_eq]; omega) (fun v H' s' _ h => q v H' s' h) s.toks
  · have e : k = 0 ∨ k = 1 := by omega
    rcases e with rfl | rfl
    · refine wpAny_binaryOp_repeat_ref (T := "tuple") (U := "int") (by decide) ⟨_, ho, rfl⟩ ty noFill_tuple_mul F.fills_int_mul F.slot_int_rmul repeat_tuple F.slot_int_index.lookup (call_meets F.slot_int_rmul (ty s) F.entry_int_rmul (F.args_int_rmul_2 _ _) (int_rmul_tuple 0 t a its.toArray n dv sl) ⟨ho, rfl, ⟨_, ho, rfl⟩, call_meets F.slot_tuple_mul ⟨_, ho, rfl⟩ F.entry_tuple_mul (F.args_tuple_mul_2 _ _) (tuple_mul0 a its.toArray n dv sl t full) ⟨ho, ?_⟩⟩)
      exact newF I .nil (Nat.zero_le _) (fun v H' s' _ h => q v H' s' h) s.toks
    · refine wpAny_binaryOp_repeat_ref (T := "tuple") (U := "int") (by decide) ⟨_, ho, rfl⟩ ty noFill_tuple_mul F.fills_int_mul F.slot_int_rmul repeat_tuple F.slot_int_index.lookup (call_meets F.slot_int_rmul (ty s) F.entry_int_rmul (F.args_int_rmul_2 _ _) (int_rmul_tuple 1 t a its.toArray n dv sl) ⟨ho, rfl, ⟨_, ho, rfl⟩, call_meets F.slot_tuple_mul ⟨_, ho, rfl⟩ F.entry_tuple_mul (F.args_tuple_mul_2 _ _) (tuple_mul1 a its.toArray n dv sl t) ⟨ho, ?_⟩⟩)
      refine ⟨.ref a, H, I, rfl, q a H (Same.refl H) ?_⟩
      rw [show (List.replicate (1 : Int).toNat xs).flatten = xs from by simp]
      exact ha
end
end Su
/-! ### TX: what is shown of data is a text of code points -/
namespace Su
open PySem PySem.Spec PyProof.Rows L2
theorem sok_app {a b : Str} (h1 : PyData.strOk a = true) (h2 : PyData.strOk b = true) : PyData.strOk (a ++ b) = true := by
  show (a.cps ++ b.cps).all _ = true
  rw [Array.all_append, Bool.and_eq_true]
  exact ⟨h1, h2⟩
theorem sok_of (s : String) : PyData.strOk (Str.ofString s) = true := by
  unfold PyData.strOk
  rw [Str.ofString_eq_toList, List.all_toArray, List.all_eq_true]
  intro c hc
  obtain ⟨d, _, rfl⟩ := List.mem_map.mp hc
  rw [decide_eq_true_eq]
  have := d.valid
  unfold UInt32.isValidChar Nat.isValidChar at this
  show d.val.toNat < _
  omega
theorem sok_from : ∀ (ts : List Str) (k : Nat) (acc : Str), PyData.strOk acc = true → (∀ t ∈ ts, PyData.strOk t = true) → PyData.strOk (textFrom k acc ts) = true
  | [], _, _, h, _ => h
  | t :: ts, k, acc, h, ht => sok_from ts (k + 1) _ (sok_app (sok_app h (sok_of _)) (ht t List.mem_cons_self)) fun x hx => ht x (List.mem_cons_of_mem _ hx)
theorem sok_list {ts : List Str} (h : ∀ t ∈ ts, PyData.strOk t = true) : PyData.strOk (listText ts) = true := sok_app (sok_from ts 0 _ (sok_of _) h) (sok_of _)
theorem sok_join (sep : Str) (hs : PyData.strOk sep = true) : ∀ (ts : List Str), (∀ t ∈ ts, PyData.strOk t = true) → PyData.strOk (Str.join sep ts) = true
  | [], _ => by show PyData.strOk Str.empty = true; decide +kernel
  | [x], h => h x List.mem_cons_self
  | x :: y :: r, h => sok_app (sok_app (h x List.mem_cons_self) hs) (sok_join sep hs (y :: r) fun t ht => h t (List.mem_cons_of_mem _ ht))
theorem sok_tuple {ts : List Str} (h : ∀ t ∈ ts, PyData.strOk t = true) : PyData.strOk (tupleText ts) = true := sok_app (sok_app (sok_of _) (sok_join _ (sok_of _) ts h)) (sok_of _)
mutual
/-- no text in it, no dict -/
def noStr : PyData → Bool
  | .str _ => false
  | .dict _ => false
  | .list xs => noStrs xs
  | .tuple xs => noStrs xs
  | _ => true
def noStrs : List PyData → Bool
  | [] => true
  | d :: ds => noStr d && noStrs ds
end
mutual
theorem sok_shown : ∀ d : PyData, noStr d = true → PyData.strOk d.shown = true
  | .none, _ => by simp only [PyData.shown]; exact sok_of _
  | .bool b, _ => by cases b <;> simp only [PyData.shown] <;> exact sok_of _
  | .int i, _ => by simp only [PyData.shown]; exact sok_of _
  | .list xs, h => by simp only [PyData.shown]; exact sok_list (sok_all xs (by simpa only [noStr] using h))
  | .tuple xs, h => by simp only [PyData.shown]; exact sok_tuple (sok_all xs (by simpa only [noStr] using h))
  | .str _, h => by simp [noStr] at h
  | .dict _, h => by simp [noStr] at h
theorem sok_all : ∀ ds : List PyData, noStrs ds = true → ∀ t ∈ PyData.shownAll ds, PyData.strOk t = true
  | [], _, t, ht => by simp [PyData.shownAll] at ht
  | d :: ds, h, t, ht => by
    simp only [noStrs, Bool.and_eq_true] at h
    simp only [PyData.shownAll, List.mem_cons] at ht
    rcases ht with rfl | ht
    · exact sok_shown d h.1
    · exact sok_all ds h.2 t ht
end
theorem noStrs_all : ∀ ds : List PyData, noStrs ds = ds.all noStr
  | [] => rfl
  | d :: ds => by simp only [noStrs, List.all_cons, noStrs_all ds]
theorem noStr_ints (ns : List Int) : noStr (.tuple (ns.map PyData.int)) = true := by
  simp only [noStr, noStrs_all, List.all_eq_true]
  intro d hd
  obtain ⟨i, _, rfl⟩ := List.mem_map.mp hd
  simp only [noStr]
theorem noStr_web (rs : List Rw) : noStr (webD rs) = true := by
  simp only [webD, noStr, noStrs_all, List.all_eq_true]
  intro d hd
  obtain ⟨r, _, rfl⟩ := List.mem_map.mp hd
  unfold rowD
  simp only [noStr, noStrs, Bool.and_true, Bool.and_eq_true]
  exact ⟨by simpa only [noStr] using noStr_ints r.1, by simpa only [noStr] using noStr_ints r.2⟩
end Su
/-! ### XF: an exception that is caught, seen from the begin of its suite on -/
namespace Su
open PySem PySem.Spec PyProof.Rows L2
def wIn (K : PySem.W.Frag) (c : Value) (i : Nat) (ts : Addr → List (Addr × Obj) → TS) (Wo : WX) (D : Ends) : WX := fun cls d σ H =>
  ∃ b, PySem.W.exmOne K cls c = some b ∧
    (b = true → ∀ a pn, H a = none → ts a pn { nx := fun σ' H' => D.nx (σ'.set i none) H', rt := D.rt, bk := fun σ' H' => D.bk (σ'.set i none) H', ct := fun σ' H' => D.ct (σ'.set i none) H' } (σ.set i (some (.ref a))) (upd H a (exK a cls d))) ∧
    (b = false → Wo cls d σ H)
def tTryIn (K : PySem.W.Frag) (c : Value) (i : Nat) (ts : Addr → List (Addr × Obj) → TS) (Wo : WX) (tb : WX → TS) : TS := fun D σ H => tb (wIn K c i ts Wo D) D σ H
section
variable {X : Cx} {x n : Str} {c : Value} {i : Nat} {body suite : List Stmt} {b0 : Stmt} {np pos pos' : Pos} {tb : WX → TS} {ts : Addr → List (Addr × Obj) → TS} {Wo : WX}
/-- try: .. except x as n: suite, the exception tracked in the suite -/
theorem ps_try_in (hex : X.ex = []) (hs : X.stack = X.env :: X.outer) (hf : X.env.frame = some X.env.locals) (hN : X.N.Nodup) (hi : X.N[i]? = some n) (hln : X.env.kindOf n = some .local) (hc : Names X x c) (tk : Takes X Wo)
    (hb : ∀ (W : WX) (pn : List (Addr × Obj)) (xe : Value → Shared → Prop), Takes (X.tr pn xe) W → PassesOwn (model X.prog X.w) X.A X.env xe → PSs (X.tr pn xe) body (tb W))
    (hsu : ∀ (a : Addr) (pn : List (Addr × Obj)), PSs (X.suite a pn) (b0 :: suite) (ts a pn)) :
    PS X (.Try body [.ExceptHandler (some (.Name x np)) (some n) (b0 :: suite) pos'] [] [] pos) (tTryIn X.K c i ts Wo tb) := by
  refine ⟨fun pins s σ H D I h => ?_⟩
  have ok := I.ok
  have frm : X.A.frames = some (X.env :: X.outer) := by
    rw [ok.frames, hs]
  refine wpAny_Try_except ?_
  refine wpAny_mono ((hb (wIn X.K c i ts Wo D) (X.pn ++ pins) (fun u t => wpAny (model X.prog X.w) X.A (noteFrame u X.env) (fun _ t2 => wpAny (model X.prog X.w) X.A (setFlight u none) (fun _ t3 =>
    wpAny (model X.prog X.w) X.A (handleBy u X.env [.ExceptHandler (some (.Name x np)) (some n) (b0 :: suite) pos']) (SP X pins D) X.xe t3) X.xe t2) X.xe t) (fun u t xx => ?_) PassesOwn.looking).run [] s σ H D (I.toTry _) h) (fun fl t hsp => ?_) (fun _ _ z => z)
  · obtain ⟨a, B, sI, pins2, τ, G, cls, d, rfl, Jt, nb, up, sky, na, os, ag, b, hb1, hyes, hno⟩ := xx
    have J : Inv X pins τ G sI := Jt.ofTry ok
    have sky2 : Sky B (X.env :: X.outer) a (Zc cls d) X.env.locals t.heap := by
      rw [← hs]
      exact sky
    show wpAny (model X.prog X.w) X.A (noteFrame (.ref a) X.env) _ _ _
    refine Sky.land Zc.steady frm hf sky2 fun g3 fl3 up3 => ?_
    have J3 : Inv X pins τ G { t with heap := g3 } := J.landed nb fl3.1 (up.trans up3) os ag
    obtain ⟨oe3, vs3, at3, zc3, dt3⟩ := fl3.there
    have nofr : a ∉ frs (X.env :: X.outer) := by
      intro hm
      obtain ⟨_, o', e', hnf⟩ := fl3.2.2.1.mem hm
      rw [at3] at e'
      cases e'
      exact hnf _ dt3
    have nL : a ≠ X.env.locals := fun z => nofr (List.mem_filterMap.mpr ⟨X.env, List.mem_cons_self, by rw [hf, z]⟩)
    have nF : a ∉ X.fs := by
      intro hm
      obtain ⟨e, he, q⟩ := List.mem_filterMap.mp hm
      exact nofr (List.mem_filterMap.mpr ⟨e, List.mem_cons_of_mem _ he, q⟩)
    -- it wasn't there ahead
    have gone : sI.heap.get? a = none := by
      cases z : sI.heap.get? a with
      | none => rfl
      | some o =>
        have y := nb a o z (by rw [hs]; exact nofr)
        rw [fl3.2.1] at y
        cases y
    have gone0 : X.s_0.heap.get? a = none := by
      cases z : X.s_0.heap.get? a with
      | none => rfl
      | some o =>
        obtain ⟨o', y⟩ := J.base.there a o z (by rw [hex]; simp)
        rw [gone] at y
        cases y
    have noc : ∀ y k, X.env.cells.lookup y = some k → k ≠ a := by
      rintro y k e rfl
      obtain ⟨v, o, e1, _⟩ := J.cell y k e
      rw [gone] at e1
      cases e1
    have nop : ∀ q ∈ X.pn ++ pins, q.1 ≠ a := by
      intro q hq e
      have y := (J.pin q hq).1
      rw [e, gone] at y
      cases y
    have S3 := J3.suite at3 dt3 na nL nF
    refine wpAny_handleBy_cons (codeAny_handlers_test ?_) (by intro q; cases q)
    have LT : PySem.W.Looks (model X.prog X.w) g3 (typeOf (.ref a)) cls := fun A Q E s k q => wpAny_typeOf_ref (k _ _ at3) (by rw [zc3.1]; exact q)
    have LM := PySem.W.exm_one (M := model X.prog X.w) (J3.kIn) LT hb1
    have asked : ∀ {Q : Value → Shared → Prop} {E : Value → Shared → Prop}, Q c { t with heap := g3 } → wpAny (model X.prog X.w) (X.A.mark (some (.ref a))) (eval (.Name x np) X.env) Q E { t with heap := g3 } := by
      intro Q E q
      obtain ⟨hg, hdbg, hm | ⟨hm, hv, hnn⟩⟩ := hc
      · exact ld_glob (X := X.suite a ((a, oe3) :: (X.pn ++ pins))) S3 hg hm q hdbg
      · exact ld_blt (X := X.suite a ((a, oe3) :: (X.pn ++ pins))) S3 hg hm hv q hnn hdbg
    refine asked (LM.here ?_)
    cases b with
    | true =>
      refine codeAny_handlers_suite_as (HandSPX.lands_againZ fl3 fun g4 fl4 up4 => ?_)
      have J4 : Inv X pins τ G { t with heap := g4 } := J.landed nb fl4.1 ((up.trans up3).trans up4) os ag
      obtain ⟨oe4, vs4, at4, zc4, dt4⟩ := fl4.there
      have J5 : Inv X pins τ (upd G a (exK a cls d)) { t with heap := g4 } := track J4 na gone0 nL noc nop (exK_ok at4 zc4 dt4)
      have S4 : Inv (X.suite a (X.pn ++ pins)) [] τ (upd G a (exK a cls d)) { t with heap := g4 } := ⟨J5.ok.suite _ _, J5.os, J5.bare, J5.base, J5.loc, J5.cell, J5.free, J5.freeC, fun p hp => J5.pin p (by rw [List.append_nil] at hp; exact hp), J5.hok, J5.len⟩
      refine store_ok (X := X.suite a (X.pn ++ pins)) (v := .ref a) S4 hN hi (.inl hln) rfl (fun t5 S5 => ?_) (.inr hln)
      refine wpAny_mono ((hsu a (X.pn ++ pins)).run [] t5 _ _ _ S5 (hyes rfl a _ na)) (fun fl t6 hsp => ?_) (fun _ _ z => False.elim z)
      have end_ : ∀ {σ6 : L2.St} {H6 : Hp} {Q : Shared → Prop}, Inv (X.suite a (X.pn ++ pins)) [] σ6 H6 t6 → (∀ t7, Inv X pins (σ6.set i none) H6 t7 → Q t7) →
          wpAny (model X.prog X.w) X.A (do bindName X.env n .none; unbindBehindTheSuite X.env n pos') (fun _ t7 => Q t7) X.xe t6 := fun {σ6 H6 Q} S6 hq => by
        have J6 : Inv X pins σ6 H6 t6 := ⟨ok, S6.os, S6.bare, S6.base, S6.loc, S6.cell, S6.free, S6.freeC, fun p hp => S6.pin p (List.mem_append_left _ hp), S6.hok, S6.len⟩
        exact gone_ok J6 hN hi hln hq
      cases fl with
      | next =>
        obtain ⟨σ6, H6, S6, q6⟩ := hsp
        exact end_ S6 fun t7 J7 => ⟨_, _, J7, q6⟩
      | brk =>
        obtain ⟨σ6, H6, S6, q6⟩ := hsp
        exact end_ S6 fun t7 J7 => ⟨_, _, J7, q6⟩
      | cont =>
        obtain ⟨σ6, H6, S6, q6⟩ := hsp
        exact end_ S6 fun t7 J7 => ⟨_, _, J7, q6⟩
      | ret u =>
        obtain ⟨v6, σ6, H6, S6, r6, q6⟩ := hsp
        exact end_ S6 fun t7 J7 => ⟨_, _, _, J7, r6, q6⟩
    | false =>
      show wpAny _ X.A (handleBy (.ref a) X.env []) _ _ _
      refine wpAny_handleBy_nil ?_
      obtain ⟨k1, k2, k3, oe, vs, T, oT, ts', he, hz, hd, h1, hr⟩ := id fl3
      unfold PySem.passOn
      refine wpAny_bind (wpAny_field he hd h1 ?_)
      rw [if_neg (show ¬ ((Value.ref T == Value.none) = true) from by simp)]
      have away : wpAny (model X.prog X.w) X.A (setFlight (.ref a) X.env.frame) (fun _ t4 => wpAny (model X.prog X.w) X.A (throw (.ref a) : Sem Flow) (SP X pins D) X.xe t4) X.xe { t with heap := g3 } := by
        rw [hf]
        refine HandSPX.setFlight_upZ fl3 fun g4 hh4 up4 => wpAny_throw (tk _ _ ?_)
        exact ⟨a, B, sI, pins, τ, G, cls, d, rfl, J, nb, (up.trans up3).trans up4, .inr (.inr (by rw [hs]; exact hh4)), na, os, ag, hno rfl⟩
      first
        | exact wpAny_bind (wpAny_pure (wpAny_bind away))
        | exact wpAny_bind away
  · cases fl with
    | next =>
      obtain ⟨τ, G, J, q⟩ := hsp
      exact wpAny_execs_nil ⟨τ, G, J.ofTry ok, q⟩
    | brk =>
      obtain ⟨τ, G, J, q⟩ := hsp
      exact ⟨τ, G, J.ofTry ok, q⟩
    | cont =>
      obtain ⟨τ, G, J, q⟩ := hsp
      exact ⟨τ, G, J.ofTry ok, q⟩
    | ret u =>
      obtain ⟨v, τ, G, J, r, q⟩ := hsp
      exact ⟨v, τ, G, J.ofTry ok, r, q⟩
end
section
variable {X : Cx}
/-- repr of a scalar, wherever -/
def rReprS : List V → Hp → VK → Prop := fun xs H Q => (xs = [.non] ∧ Q (.str "None") H) ∨ (∃ b : Bool, xs = [.bl b] ∧ Q (.str (if b then "True" else "False")) H) ∨ ∃ i : Int, xs = [.int i] ∧ i.natAbs.log2 < 1920 ∧ Q (.str (toString i)) H
theorem call_reprS : CallR X (.builtin "repr") rReprS := by
  intro pins s σ H xs us Q I r h
  rcases h with ⟨rfl, q⟩ | ⟨b, rfl, q⟩ | ⟨i, rfl, hz, q⟩
  · obtain ⟨u, rfl, ru⟩ := vals1 r
    cases ru
    exact PySem.P.repr_of_none ⟨.str _, H, I.tok _, ⟨_, rfl⟩, q⟩
  · obtain ⟨u, rfl, ru⟩ := vals1 r
    cases ru
    exact PySem.P.repr_of_bool ⟨.str _, H, I.tok _, ⟨_, rfl⟩, q⟩
  · obtain ⟨u, rfl, t, rfl⟩ := vals1 r
    exact PySem.P.repr_of_int hz ⟨.str _, H, I.tok _, ⟨_, rfl⟩, q⟩
end
end Su
/-! ### ZL: list(zip(a, b)) of two lists -/
namespace Su
open PySem PySem.Spec PyProof.Rows L2
theorem zip_no_len : typeLookup (.type "zip") "__len__" = pure none := am_miss_of_fast (by decide +kernel)
theorem zip_no_hint : typeLookup (.type "zip") "__length_hint__" = pure none := am_miss_of_fast (by decide +kernel)
/-- the iterator of a zip, i pairs told; S is the list that is being made -/
structure ZSt (z TI TO i1 i2 a b S : Addr) (i : Nat) (h : Heap) : Prop where
  ti : IsPair h TI (.ref i1) (.ref i2)
  h1 : h.IsListIter i1 a i
  h2 : h.IsListIter i2 b i
  hz : (IsZip h z TI TO .none ∧ ∃ x y, IsPair h TO x y) ∨ ∃ T f oT, IsZipHeld h z TI TO T f ∧ h.get? T = some oT ∧ T ≠ z ∧ T ≠ i1 ∧ T ≠ i2 ∧ T ≠ S
section
variable {prog : Program} {w : World} {A : Around} {E : Value → Shared → Prop} {s : Shared} {z TI TO i1 i2 a b S : Addr} {i : Nat}
theorem zl_item {xs ys : Array Value} {x y : Value} {Q : Option Value → Shared → Prop} (D : ZipApart z TI TO i1 i2 a b) (st : ZSt z TI TO i1 i2 a b S i s.heap) (hSl : S < s.heap.objs.size)
    (hl1 : s.heap.IsList a xs) (hl2 : s.heap.IsList b ys) (hx : xs[i]? = some x) (hy : ys[i]? = some y)
    (hQ : ∀ h', IsPair h' s.heap.objs.size x y → ZSt z TI TO i1 i2 a b S (i + 1) h' → (∀ c o, c ≠ z → c ≠ TO → c ≠ i1 → c ≠ i2 → s.heap.get? c = some o → h'.get? c = some o) → Q (some (.ref s.heap.objs.size)) { s with heap := h' }) :
    wpAny (model prog w) A (pyNext (.ref z)) Q E s := by
  obtain ⟨hTI, h1, h2, hz⟩ := st
  have lt : ∀ {c o}, s.heap.get? c = some o → s.heap.objs.size ≠ c := fun e => Nat.ne_of_gt (Heap.lt_size e)
  have n1 : s.heap.objs.size ≠ i1 := let ⟨_, e, _⟩ := h1; lt e
  have n2 : s.heap.objs.size ≠ i2 := let ⟨_, e, _⟩ := h2; lt e
  rcases hz with ⟨hz, x0, y0, hTO⟩ | ⟨T, f, oT, hz, hT, r1, r2, r3, r4⟩
  · refine wpAny_pyNext_zip_item D hz hTI hTO h1 h2 hl1 hl2 hx hy fun h' a1 a2 a3 a4 a5 a6 hk => ?_
    exact hQ h' a5 ⟨hk _ _ D.TIz D.TITO D.TIi1 D.TIi2 hTI, a3, a4, .inr ⟨s.heap.objs.size, false, _, a1, a5, lt hz, n1, n2, Nat.ne_of_gt hSl⟩⟩ hk
  · refine wpAny_pyNext_zip_item_held D hz hT hTI h1 h2 hl1 hl2 hx hy fun h' a1 a3 a4 a5 a6 hk => ?_
    exact hQ h' a5 ⟨hk _ _ D.TIz D.TIi1 D.TIi2 hTI, a3, a4, .inr ⟨T, true, oT, a1, hk _ _ r1 r2 r3 hT, r1, r2, r3, r4⟩⟩ fun c o c1 _ c3 c4 e => hk c o c1 c3 c4 e
theorem zl_end {xs ys : Array Value} {Q : Option Value → Shared → Prop} (hh : A.handled = none) (D : ZipApart z TI TO i1 i2 a b) (st : ZSt z TI TO i1 i2 a b S i s.heap)
    (hl1 : s.heap.IsList a xs) (hl2 : s.heap.IsList b ys) (hend : xs[i]? = none ∨ ys[i]? = none)
    (hQ : ∀ h', (∀ c o, c ≠ z → c ≠ TO → c ≠ i1 → c ≠ i2 → s.heap.get? c = some o → h'.get? c = some o) → Q none { s with heap := h' }) :
    wpAny (model prog w) A (pyNext (.ref z)) Q E s := by
  obtain ⟨hTI, h1, h2, hz⟩ := st
  rcases hz with ⟨hz, x0, y0, hTO⟩ | ⟨T, f, oT, hz, hT, r1, r2, r3, r4⟩
  · exact wpAny_pyNext_zip_end hh D hz hTI hTO h1 h2 hl1 hl2 hend hQ
  · exact wpAny_pyNext_zip_end_held hh D hz hT hTI h1 h2 hl1 hl2 hend fun h' hk => hQ h' fun c o c1 _ c3 c4 e => hk c o c1 c3 c4 e
end
theorem sqL_same {K : PySem.W.Frag} {H H' : Hp} {a : Addr} {xs : List V} (h : SqL K H a xs) (e : Same H H') : SqL K H' a xs :=
  h.elim (fun h => .inl (h.elim (fun h => .inl (e _ _ h)) fun ⟨o, h⟩ => .inr ⟨o, e _ _ h⟩)) fun h => .inr h
/-- the pairs of two lists -/
def PairsAt (H : Hp) (Ts : List Addr) (xs ys : List V) : Prop := ∀ (i : Nat) (T : Addr) (x y : V), Ts[i]? = some T → xs[i]? = some x → ys[i]? = some y → H T = some (.tup [x, y])
theorem zl_loop {X : Cx} {pins : List (Addr × Obj)} {σ : L2.St} {A : Around} {R : Result → Shared → Prop} {z TI TO i1 i2 a b S : Addr} {H1 : Hp} {xs ys : List V} {res : Value} {n : Nat}
    (hh : A.handled = none) (D : ZipApart z TI TO i1 i2 a b) (hS : ∀ c ∈ [z, TI, TO, i1, i2], c < S) (hx : SqL X.K H1 a xs) (hy : SqL X.K H1 b ys) (S0 : H1 S = none) (hn : n = min xs.length ys.length)
    (hR : ∀ s' H' Ts, Inv X pins σ H' s' → Same H1 H' → H' S = some (.lst (Ts.map V.ref)) → Ts.length = n → PairsAt H' Ts xs ys → R (.ok (.ret res)) s') :
    ∀ (k i : Nat) (s : Shared) (H : Hp) (Ts : List Addr), n - i = k → i ≤ n → Inv X pins σ H s → (∀ c ∈ [z, TI, TO, i1, i2], FpOk X pins H c) → ZSt z TI TO i1 i2 a b S i s.heap → Same H1 H → H S = some (.lst (Ts.map V.ref)) → Ts.length = i → PairsAt H Ts xs ys →
      codeAny (model X.prog X.w) A (.builtin "list.extend.loop" ⟨[.ref S, .ref z, res], []⟩) R s := by
  have chg : ∀ {h h' : Heap}, (∀ c o, c ≠ z → c ≠ TO → c ≠ i1 → c ≠ i2 → h.get? c = some o → h'.get? c = some o) → ∀ c o, c ∉ [z, TI, TO, i1, i2] → h.get? c = some o → h'.get? c = some o :=
    fun k c o hc e => k c o (fun q => hc (by simp [q])) (fun q => hc (by simp [q])) (fun q => hc (by simp [q])) (fun q => hc (by simp [q])) e
  intro k
  induction k with
  | zero =>
    intro i s H Ts hk hi I fp st sm hSH hl pr
    have e : i = n := by omega
    obtain ⟨its, rv, p1, _⟩ := I.list (sqL_same hx sm)
    obtain ⟨its2, rv2, p2, _⟩ := I.list (sqL_same hy sm)
    have l1 := rv.length
    have l2 := rv2.length
    refine codeAny_builtin F.entry_extend_loop ?_
    rw [Around.under_plainId F.plain_extend_loop _]
    show wpAny _ A.in1 (pyNext (.ref z) >>= _) _ _ s
    have hend : its.toArray[i]? = none ∨ its2.toArray[i]? = none := by
      by_cases c : xs.length ≤ i
      · exact .inl (by simp; omega)
      · exact .inr (by simp; omega)
    refine wpAny_bind (zl_end (S := S) hh D st p1.isList p2.isList hend fun h' hk' => ?_)
    exact wpAny_pure (hR _ H Ts (I.turnedL (t' := s.toks) (ch := [z, TI, TO, i1, i2]) (chg hk') fp) sm hSH (hl.trans e) pr)
  | succ k ih =>
    intro i s H Ts hk hi I fp st sm hSH hl pr
    have lt : i < n := by omega
    obtain ⟨its, rv, p1, z1⟩ := I.list (sqL_same hx sm)
    obtain ⟨its2, rv2, p2, _⟩ := I.list (sqL_same hy sm)
    have ex : xs[i]? = some xs[i] := List.getElem?_eq_getElem (by omega)
    have ey : ys[i]? = some ys[i] := List.getElem?_eq_getElem (by omega)
    obtain ⟨u, hu, ru⟩ := rv.get ex
    obtain ⟨u2, hu2, ru2⟩ := rv2.get ey
    obtain ⟨_, itS, nS, _, _, eS⟩ := I.lstM hSH
    refine codeAny_builtin F.entry_extend_loop ?_
    rw [Around.under_plainId F.plain_extend_loop _]
    show wpAny _ A.in1 (pyNext (.ref z) >>= _) _ _ s
    refine wpAny_bind (zl_item D st (Heap.lt_size eS) p1.isList p2.isList (x := u) (y := u2) (by simpa using hu) (by simpa using hu2) fun h' hT st' hk' => ?_)
    have fr : H s.heap.objs.size = none := I.hok.fresh (Nat.le_refl _)
    have new : ObjOk X.prog X.w (upd H s.heap.objs.size (.tup [xs[i], ys[i]])) h' s.heap.objs.size (.tup [xs[i], ys[i]]) :=
      ⟨by show 2 ≤ sizeLine; decide, [u, u2], .cons ru (.cons ru2 .nil), ⟨_, hT, rfl, _, rfl⟩⟩
    have I1 : Inv X pins σ (upd H s.heap.objs.size (.tup [xs[i], ys[i]])) { s with heap := h' } :=
      I.turnedNew (t' := s.toks) (ch := [z, TI, TO, i1, i2]) (chg hk') fp (Nat.le_refl _) new
    have eT : S ≠ s.heap.objs.size := Nat.ne_of_lt (Heap.lt_size eS)
    have sT : Same H (upd H s.heap.objs.size (.tup [xs[i], ys[i]])) := same_upd fr
    have upT : (upd H s.heap.objs.size (.tup [xs[i], ys[i]])) s.heap.objs.size = some (.tup [xs[i], ys[i]]) := upd_same
    have hlt : ∀ c ∈ [z, TI, TO, i1, i2], c ≠ s.heap.objs.size := fun c hc => Nat.ne_of_lt (Nat.lt_trans (hS c hc) (Heap.lt_size eS))
    have fp1 : ∀ c ∈ [z, TI, TO, i1, i2], FpOk X pins (upd H s.heap.objs.size (.tup [xs[i], ys[i]])) c := fun c hc => ⟨by rw [upd_ne (hlt c hc)]; exact (fp c hc).1, (fp c hc).2⟩
    have hS1 := sT _ _ hSH
    have prT : PairsAt (upd H s.heap.objs.size (.tup [xs[i], ys[i]])) (Ts ++ [s.heap.objs.size]) xs ys := by
      intro j T x y e1 e2 e3
      by_cases c : j < i
      · rw [List.getElem?_append_left (by omega)] at e1
        exact sT _ _ (pr j T x y e1 e2 e3)
      · have hj : j < (Ts ++ [s.heap.objs.size]).length := (List.getElem?_eq_some_iff.mp e1).1
        rw [List.length_append, List.length_singleton] at hj
        have ej : j = i := by omega
        subst ej
        rw [List.getElem?_append_right (by omega), hl, Nat.sub_self] at e1
        rw [ex] at e2
        rw [ey] at e3
        cases e1
        cases e2
        cases e3
        exact upT
    generalize upd H s.heap.objs.size (.tup [xs[i], ys[i]]) = H2 at *
    obtain ⟨zz, itS1, nS1, rS, lS, eS1⟩ := I1.lstM hS1
    have hlen : Ts.length = itS1.length := by rw [← lS, List.length_map]
    have hnl : n ≤ sizeLine := by omega
    show wpAny _ A.in1 (updateSeq S (·.push (.ref s.heap.objs.size)) >>= _) _ _ _
    refine wpAny_bind ?_
    refine wpAny_updateSeq eS1 rfl (wpAny_pure ⟨plainId_quiet F.plain_extend_loop _, ?_⟩) (by rw [List.size_toArray]; omega) (by show (itS1.toArray.push _).size ≤ sizeLine + 1; rw [Array.size_push, List.size_toArray]; omega)
    have hz' : (Ts.map V.ref ++ [V.ref s.heap.objs.size]).length ≤ sizeLine := by
      rw [List.length_append, List.length_map, List.length_singleton]
      omega
    have I2 := I1.lset (t' := s.toks) (f := (·.push (Value.ref s.heap.objs.size))) (its' := itS1 ++ [.ref s.heap.objs.size]) hS1 eS1 (by simp) (rS.append (.cons (show RelV (V.ref s.heap.objs.size) (Value.ref s.heap.objs.size) from rfl) .nil)) hz'
    have ne5 : ∀ c ∈ [z, TI, TO, i1, i2], c ≠ S := fun c hc => Nat.ne_of_lt (hS c hc)
    have keepS : ∀ c o, c ≠ S → h'.get? c = some o → (h'.update S (Obj.mapSeq (·.push (Value.ref s.heap.objs.size)))).get? c = some o := fun c o hc e => (Heap.get?_update_other _ _ (Ne.symm hc)).trans e
    have e2 : Ts.map V.ref ++ [V.ref s.heap.objs.size] = (Ts ++ [s.heap.objs.size]).map V.ref := by rw [List.map_append]; rfl
    rw [e2] at I2
    refine ih (i + 1) _ _ (Ts ++ [s.heap.objs.size]) (by omega) lt I2 (fun c hc => ⟨by rw [upd_ne (ne5 c hc)]; exact (fp1 c hc).1, (fp c hc).2⟩) ?_ (fun c o ec => ?_) upd_same (by rw [List.length_append, List.length_singleton, hl]) (fun j T x y e1 e2 e3 => ?_)
    · obtain ⟨q1, q2, q3, q4⟩ := st'
      refine ⟨keepS _ _ (ne5 _ (by simp)) q1, q2.at fun o e => keepS _ o (ne5 _ (by simp)) e, q3.at fun o e => keepS _ o (ne5 _ (by simp)) e, ?_⟩
      rcases q4 with ⟨q4, x0, y0, q5⟩ | ⟨T, f, oT, q4, hT4, r1, r2, r3, r4⟩
      · exact .inl ⟨keepS _ _ (ne5 _ (by simp)) q4, x0, y0, keepS _ _ (ne5 _ (by simp)) q5⟩
      · exact .inr ⟨T, f, oT, keepS _ _ (ne5 _ (by simp)) q4, keepS _ _ r4 hT4, r1, r2, r3, r4⟩
    · rw [upd_ne (ne_of_none ec S0)]
      exact sT _ _ (sm _ _ ec)
    · have q := prT j T x y e1 e2 e3
      rw [upd_ne (ne_of q hS1 (by intro y; cases y))]
      exact q
theorem five_below {n c m : Nat} (e : c = n + 4 ∨ c = n + 2 ∨ c = n + 3 ∨ c = n ∨ c = n + 1) (h : m = n + 5) : n ≤ c ∧ c < m := by omega
/-- list(zip(a, b)) -/
def rListZip (K : PySem.W.Frag) : List V → Hp → VK → Prop := fun vs H1 Q => ∃ (a b : Addr) (xs ys : List V), vs = [.ref a, .ref b] ∧ SqL K H1 a xs ∧ SqL K H1 b ys ∧
  ∀ (l : Addr) (Ts : List Addr) (H2 : Hp), Same H1 H2 → H1 l = none → H2 l = some (.lst (Ts.map V.ref)) → Ts.length = min xs.length ys.length → PairsAt H2 Ts xs ys → Q (.ref l) H2
def tListZip (K : PySem.W.Frag) (ta : TA) : TE := fun σ H Q => ta σ H fun vs H1 => rListZip K vs H1 Q
theorem pe_listZip {X : Cx} {e e2 : Expr} {ta : TA} {p p2 pos pos2 : Pos} (hg : Gl X "list") (hm : X.mg "list" = none) (hg2 : Gl X "zip") (hm2 : X.mg "zip" = none) (ha : PA X [e, e2] ta) (hc : X.calm = true := by rfl)
    (hs : starEach [e, e2] X.env = (false, eval e X.env) :: starEach [e2] X.env := by rfl) (hpl : (backTo pos2 (starEach [e2] X.env)).any (·.1) = false := by rfl) :
    PE X (.Call (.Name "list" p) [.Call (.Name "zip" p2) [e, e2] [] pos2] [] pos) (tListZip X.K ta) := by
  refine ⟨fun pins s σ H Q I h => ?_⟩
  refine Call_ (ld_blt I hg hm PyProof.Rows.boot_list ?_)
  refine PyProof.Rows.callWith_type1 (PyProof.Rows.args_cons ?_ rfl) rfl rfl
  refine Call_ (ld_blt I hg2 hm2 PyProof.Rows.boot_zip (PyProof.Rows.callWith_type1 (thn (ha.run pos2 pins s σ H _ I h) fun us s1 ⟨vs, H1, I1, r1, q1⟩ => ?_) hs hpl))
  obtain ⟨a, b, xs, ys, ex, hqx, hqy, q⟩ := q1
  subst ex
  cases r1 with
  | cons r rr =>
    cases rr with
    | cons r' rr =>
      cases rr
      cases r
      cases r'
      obtain ⟨its, rv, p1, z1⟩ := I1.list hqx
      obtain ⟨its2, rv2, p2, z2⟩ := I1.list hqy
      refine call_zip_2 p1.isList p2.isList fun h' hz hTI hTO h1 h2 hsz hk => ?_
      refine PyProof.Rows.args_nil ?_
      have I2 : Inv X pins σ H1 { s1 with heap := h' } := I1.kept (t' := s1.toks) hk
      generalize es2 : ({ s1 with heap := h' } : Shared) = s2 at I2
      have eh2 : s2.heap = h' := by rw [← es2]
      have eo : s2.heap.objs.size = s1.heap.objs.size + 5 := by rw [eh2, hsz]
      have D := PySem.W.ktu_apart s1.heap.objs.size a b p1.lt p2.lt
      have fresh5 : ∀ c, c ∈ [s1.heap.objs.size + 4, s1.heap.objs.size + 2, s1.heap.objs.size + 3, s1.heap.objs.size, s1.heap.objs.size + 1] → s1.heap.objs.size ≤ c ∧ c < s2.heap.objs.size := fun c hcm => by
        have e' : c = s1.heap.objs.size + 4 ∨ c = s1.heap.objs.size + 2 ∨ c = s1.heap.objs.size + 3 ∨ c = s1.heap.objs.size ∨ c = s1.heap.objs.size + 1 := by simpa using hcm
        exact five_below e' eo
      have hz2 : IsZip s2.heap (s1.heap.objs.size + 4) (s1.heap.objs.size + 2) (s1.heap.objs.size + 3) .none := by rw [eh2]; exact hz
      have st0 : ZSt (s1.heap.objs.size + 4) (s1.heap.objs.size + 2) (s1.heap.objs.size + 3) s1.heap.objs.size (s1.heap.objs.size + 1) a b s2.heap.objs.size 0 s2.heap := by
        rw [eh2]
        exact ⟨hTI, h1, h2, .inl ⟨hz, _, _, hTO⟩⟩
      have fp0 : ∀ c ∈ [s1.heap.objs.size + 4, s1.heap.objs.size + 2, s1.heap.objs.size + 3, s1.heap.objs.size, s1.heap.objs.size + 1], FpOk X pins (upd H1 s2.heap.objs.size (.lst [])) c := fun c hcm => by
        obtain ⟨f1, f2⟩ := fresh5 c hcm
        exact I1.fpOk f1 (by rw [upd_ne (Nat.ne_of_lt f2)]; exact I1.hok.fresh f1)
      have ltS : ∀ c ∈ [s1.heap.objs.size + 4, s1.heap.objs.size + 2, s1.heap.objs.size + 3, s1.heap.objs.size, s1.heap.objs.size + 1], c < s2.heap.objs.size := fun c hcm => (fresh5 c hcm).2
      have fr2 : H1 s2.heap.objs.size = none := I2.hok.fresh (Nat.le_refl _)
      clear eo hsz hk fresh5 I1 es2 eh2 hz hTI hTO h1 h2 p1 p2 rv rv2
      generalize s1.heap.objs.size + 4 = z at *
      generalize s1.heap.objs.size + 3 = TO at *
      generalize s1.heap.objs.size + 2 = TI at *
      generalize s1.heap.objs.size + 1 = i2 at *
      generalize s1.heap.objs.size = i1 at *
      have zS : s2.heap.objs.size ≠ z := Nat.ne_of_gt (ltS z (by simp))
      refine callType_codes (Q₁ := fun obj s₁ => obj = .ref s2.heap.objs.size ∧ s₁ = { s2 with heap := s2.heap.push { cls := .type "list", data := .seq #[] } }) F.called_list (F.typeCall_list_1 _) F.entry_list_init
        (code_list_new _ ⟨rfl, rfl⟩) fun obj s₁ h₁ => ?_
      obtain ⟨rfl, rfl⟩ := h₁
      have hS : (s2.heap.push { cls := .type "list", data := .seq #[] }).get? s2.heap.objs.size = some { cls := .type "list", data := .seq #[] } := Heap.get?_push_size _ rfl
      refine ⟨⟨_, hS, rfl⟩, F.args_list_init_2 _ _, ?_⟩
      show wpAny _ X.A.in1.in1 (do let old ← Builtin.List.listItems (.ref s2.heap.objs.size); Builtin.List.listUpdate (.ref s2.heap.objs.size) (fun _ => #[]); letGo old.toList.reverse; Builtin.List.listExtendWith (.ref s2.heap.objs.size) (.ref z) .none) _ _ _
      refine wpAny_bind ?_
      unfold Builtin.List.listItems
      refine wpAny_bind (wpAny_seqItems hS rfl (wpAny_pure ?_))
      show wpAny _ X.A.in1.in1 (updateSeq s2.heap.objs.size (fun _ => #[]) >>= fun _ => letGo (#[] : Array Value).toList.reverse >>= fun _ => Builtin.List.listExtendWith (.ref s2.heap.objs.size) (.ref z) .none) _ _ _
      refine wpAny_bind (wpAny_updateSeq hS rfl ?_)
      have hS2 := Heap.get?_update_self (Obj.mapSeq (fun _ => (#[] : Array Value))) hS rfl
      refine wpAny_bind (wpAny_letGo ?_)
      unfold Builtin.List.listExtendWith
      have up : ∀ (h : Heap) (f : Obj → Obj), (∀ b o, s2.heap.get? b = some o → h.get? b = some o) → ∀ b o, s2.heap.get? b = some o → (h.update s2.heap.objs.size f).get? b = some o := fun h f q b o e =>
        (Heap.get?_update_other _ _ (Ne.symm (Nat.ne_of_lt (Heap.lt_size e)))).trans (q b o e)
      have k1 : ∀ b o, s2.heap.get? b = some o → (s2.heap.push { cls := .type "list", data := .seq #[] }).get? b = some o := fun b o e => Heap.get?_push_of_some _ e
      have k2 := up _ (Obj.mapSeq (fun _ => (#[] : Array Value))) k1
      generalize (s2.heap.push { cls := .type "list", data := .seq #[] }).update s2.heap.objs.size (Obj.mapSeq (fun _ => (#[] : Array Value))) = h3 at hS2 k2 ⊢
      have hz3 : IsZip h3 z TI TO .none := k2 _ _ hz2
      have gty : (({ s2 with heap := h3 } : Shared)).TypeIs (.ref z) "zip" := ⟨_, hz3, rfl⟩
      refine wpAny_bind (wpAny_typeOf gty ?_)
      have g1 : Builtin.List.listSameRef (.ref s2.heap.objs.size) (.ref z) = false := by simp [Builtin.List.listSameRef, zS]
      have g2 : (Value.type "zip" == Value.type "list") = false := by decide
      have g3 : (Value.type "zip" == Value.type "tuple") = false := by decide
      simp only [g1, g2, g3, Bool.or_false, Bool.false_eq_true, if_false]
      refine wpAny_bind (wpAny_pyIter_zip (s := { s2 with heap := h3 }) hz3 ?_)
      refine wpAny_bind (wpAny_holding ?_)
      unfold Builtin.List.listLengthHint
      refine wpAny_bind (wpAny_specialOf gty zip_no_len ?_)
      show wpAny _ X.A.in1.in1 (specialOf (Value.ref z) (Str.ofString "__length_hint__") >>= _) _ _ _
      refine wpAny_bind (wpAny_specialOf gty zip_no_hint ?_)
      refine wpAny_pure ?_
      show wpAny _ X.A.in1.in1 (rule "list.extend.makes-room" >>= fun _ => Builtin.List.listTouch (.ref s2.heap.objs.size) >>= fun _ =>
        again (.builtin "list.extend.loop" ⟨[.ref s2.heap.objs.size, .ref z, .none], []⟩)) _ _ _
      refine wpAny_bind (wpAny_rule ?_)
      refine wpAny_bind ?_
      show wpAny _ X.A.in1.in1 (updateSeq s2.heap.objs.size (·.push .none) >>= fun _ => updateSeq s2.heap.objs.size (·.pop)) _ _ _
      refine wpAny_bind (wpAny_updateSeq hS2 rfl ?_)
      have hS3 := Heap.get?_update_self (Obj.mapSeq (·.push Value.none)) hS2 rfl
      refine wpAny_updateSeq (hz := by seq_fits) hS3 rfl ?_
      have hS4 := Heap.get?_update_self (Obj.mapSeq (·.pop)) hS3 rfl
      have k4 : ∀ b o, s2.heap.get? b = some o → ((h3.update s2.heap.objs.size (Obj.mapSeq (·.push Value.none))).update s2.heap.objs.size (Obj.mapSeq (·.pop))).get? b = some o := up _ _ (up _ _ k2)
      generalize (h3.update s2.heap.objs.size (Obj.mapSeq (·.push Value.none))).update s2.heap.objs.size (Obj.mapSeq (·.pop)) = h4 at hS4 k4 ⊢
      have I4 : Inv X pins σ (upd H1 s2.heap.objs.size (.lst [])) { s2 with heap := h4, toks := s2.toks } := I2.laid (t' := s2.toks) k4 (Nat.le_refl _) (show ObjOk X.prog X.w _ h4 _ (.lst []) from ⟨Nat.zero_le _, [], _, .nil, hS4⟩)
      refine wpAny_pure ⟨plainId_quiet F.plain_extend_loop _, zl_loop (X := X) (pins := pins) (σ := σ) (H1 := H1) (A := X.A.in1) (show X.A.in1.handled = none from I2.ok.hd hc) D ltS hqx hqy fr2 rfl (fun s' H' Ts J sm hSH hl pr => ?_) (min xs.length ys.length) 0 _ _ [] (Nat.sub_zero _) (Nat.zero_le _) I4 fp0 ?_ (same_upd fr2) upd_same rfl (fun j T x y e => by cases e)⟩
      · exact ⟨rfl, .ref s2.heap.objs.size, H', J, rfl, q _ Ts H' sm fr2 hSH hl pr⟩
      · obtain ⟨q1, q2, q3, q4⟩ := st0
        refine ⟨k4 _ _ q1, q2.at fun o e => k4 _ o e, q3.at fun o e => k4 _ o e, ?_⟩
        rcases q4 with ⟨q4, x0, y0, q5⟩ | ⟨T, f, oT, q4, hT4, r1, r2, r3, r4⟩
        · exact .inl ⟨k4 _ _ q4, x0, y0, k4 _ _ q5⟩
        · exact .inr ⟨T, f, oT, k4 _ _ q4, k4 _ _ hT4, r1, r2, r3, r4⟩
end Su
/-! ### SO1: a set of ints by a comprehension with one clause -/
namespace Su
open PySem PySem.Spec PyProof.Rows L2
abbrev sc1 (e a b : Expr) (sp : Scope) (po : Pos) : Expr := .SetComp e [⟨a, b, [], 0⟩] sp po
section
variable {prog : Program} {w : World} {A : Around} {R : Result → Shared → Prop} {s : Shared} {e a b : Expr} {sp : Scope} {po : Pos} {it acc : Value} {env : Env}
theorem sc1_in : compTurn (sc1 e a b sp po) 0 it acc env = (do
      standAt b.pos
      match ← pyNext it with
      | none => pure (.done .next)
      | some v =>
        letOwnedTupleGo a it v
        assign a env v
        (do let x ← eval e env; standAt e.pos; let _ ← call (.builtin "set.add") [acc, x])
        again (.compLoop (sc1 e a b sp po) 0 it acc env)) := by rfl
theorem sc1_loop (J : Nat → Shared → Prop)
    (one : ∀ n u, J n u → wpAny (model prog w) A (pyNext it) (fun r u1 => match r with
      | none => R (.ok .next) u1
      | some v => wpAny (model prog w) A (letOwnedTupleGo a it v) (fun _ u2 => wpAny (model prog w) A (assign a env v) (fun _ u3 =>
          wpAny (model prog w) A (eval e env) (fun x u4 => wpAny (model prog w) A (call (.builtin "set.add") [acc, x]) (fun _ u5 => ∃ m, m < n ∧ J m u5) (nb prog w A env R) u4) (nb prog w A env R) u3)
            (nb prog w A env R) u2) (nb prog w A env R) u1) (nb prog w A env R) u)
    (n : Nat) (h : J n s) : codeAny (model prog w) A (.compLoop (sc1 e a b sp po) 0 it acc env) R s := by
  refine codeAny_loop rfl J (fun n u hJ => ?_) n h
  show wpAny _ A ((compTurn (sc1 e a b sp po) 0 it acc env).onRaise (fun x => do noteFrame x env; theTreesLotGoes x)) _ _ u
  refine wpAny_noted ?_
  rw [sc1_in]
  refine wpAny_bind (wpAny_standAt (wpAny_bind (wpAny_mono (one n u hJ) (fun r u1 h1 => ?_) fun _ _ k => k)))
  cases r with
  | none => exact wpAny_pure h1
  | some v =>
    refine wpAny_bind (wpAny_mono h1 (fun _ u2 h2 => wpAny_bind (wpAny_mono h2 (fun _ u3 h3 => ?_) fun _ _ k => k)) fun _ _ k => k)
    refine wpAny_bind (wpAny_bind (wpAny_mono h3 (fun x u4 h4 => wpAny_bind (wpAny_standAt (wpAny_bind (wpAny_mono h4 (fun _ u5 h5 => ?_) fun _ _ k => k)))) fun _ _ k => k))
    first
      | exact wpAny_pure (wpAny_pure ⟨rfl, h5⟩)
      | exact wpAny_pure ⟨rfl, h5⟩
end
section
variable {X : Cx}
/-- what the comprehension asks: in each turn of the walk an int is put into the set -/
def tSC1 (w : World) (wo : TI) (go : TG) (te : TE) (vs : List Nat) : TE := fun σ H Q => wo σ H fun J H1 => ∀ D, H1 D = none →
  ∃ W : Nat → Nat → Hp → Prop, (∃ m, W 0 m (upd H1 D (SetO w D (fun _ => false) 0))) ∧ ∀ i m H, W i m H →
    (J.stop i H ∧ Q (.ref D) H) ∨
    (J.go i H ∧ ∃ Nx : Hp → Prop, (∀ H', Nx H' → ∃ m', m' < m ∧ W (i + 1) m' H') ∧ ∀ x H', J.yld i H x H' → go x (wipe σ vs) H' fun σ2 H2 => wipe σ2 vs = wipe σ vs ∧
      te σ2 H2 fun z H5 => ∃ (c : Int) (S : Int → Bool) (n : Nat), z = .int c ∧ H5 D = some (SetO w D S n) ∧ n + 1 < scanBound ∧
        Nx (upd H5 D (SetO w D (fun j => S j || decide (j = c)) (if S c = true then n else n + 1))))
theorem pe_sc1 {e a b : Expr} {sp : Scope} {own : List (Str × Nat)} {pos : Pos} {wo : TI} {go : TG} {te : TE} (hc : X.calm = true) (hN : X.N.Nodup) (pio : PI X a b wo)
    (ok : BlkOk X.N X.env.scope sp own)
    (pgo : ∀ (s : Shared) (H : Hp) (C : Addr) (cl : List (Str × Addr)) (fp : List Addr), PG (X.blk s H sp (compEnvC sp cl C X.env) fp) a go)
    (pe : ∀ (s : Shared) (H : Hp) (C : Addr) (cl : List (Str × Addr)) (fp : List Addr), PE (X.blk s H sp (compEnvC sp cl C X.env) fp) e te)
    (fo : ∀ x, foldedSetIterable b X.env x = pure x := by intro _; rfl) :
    PE X (sc1 e a b sp pos) (tSC1 X.w wo go te (own.map (·.2))) := by
  refine ⟨fun pins s σ H Q I hq => ?_⟩
  rw [PpSet.eval_SetComp]
  have cl0 : ∀ y ∈ sp.names, y.2 = .free → ∃ k, X.env.cells.lookup y.1 = some k := by
    intro y hy z
    rcases ok.free y hy z with k | k
    · exact I.ok.has _ (.inl k)
    · exact I.ok.has _ (.inr k)
  refine wpAny_comprehension_free (use := none) rfl fo (closure_ok cl0) ok.kind (fun y hy z => by rw [ok.uniq y hy, z]) ?_
  refine thn (pio.run pins s σ H _ I hq) fun xv s1 hx => thn hx fun iv s2 h2 => ?_
  obtain ⟨it, fa, tn, J, Hb, rfl, Ib, T, stb, fb, q⟩ := h2
  refine PpSet.newSet_ok (newEnv_comp ?_)
  generalize eD : s2.heap.objs.size = D
  obtain ⟨W, ⟨m0, w0⟩, turn⟩ := q D (Ib.hok.fresh (Nat.le_of_eq eD))
  generalize e3 : ({ s2 with heap := s2.heap.push (setE X.w) } : Shared) = s3
  have hp3 : s3.heap = s2.heap.push (setE X.w) := by rw [← e3]
  have Ic : Inv X pins σ (upd Hb D (SetO X.w D (fun _ => false) 0)) s3 := by
    rw [← e3]
    refine Ib.laid (t' := s2.toks) (fun _ _ z => Heap.get?_push_of_some _ z) (Nat.le_of_eq eD) ?_
    rw [← eD]
    exact setO_new (setR_fresh X.w)
  have small : ∀ x ∈ fa, x < s2.heap.objs.size := by
    intro x hx
    obtain ⟨o, z, _⟩ := T.obj _ _ stb x hx
    exact Heap.lt_size z
  have fc : ∀ x ∈ fa, FpOk X pins (upd Hb D (SetO X.w D (fun _ => false) 0)) x ∧ x < s3.heap.objs.size := by
    intro x hx
    have lt := small x hx
    constructor
    · refine ⟨?_, (fb x hx).2⟩
      rw [upd_ne (by rw [← eD]; exact Nat.ne_of_lt lt)]
      exact (fb x hx).1
    · rw [hp3, Heap.size_push]
      exact Nat.lt_succ_of_lt lt
  have stc : tn 0 s3.heap := T.keep _ _ _ stb fun _ _ _ z => by
    rw [hp3]
    exact Heap.get?_push_of_some _ z
  have Id := block_start Ic ok hN fc
  have qgo := pgo s3 (upd Hb D (SetO X.w D (fun _ => false) 0)) s3.heap.objs.size (cellsFrom (s3.heap.objs.size + 1) sp.names (cloFrom X.env.cells sp.names [])) fa
  have qe := pe s3 (upd Hb D (SetO X.w D (fun _ => false) 0)) s3.heap.objs.size (cellsFrom (s3.heap.objs.size + 1) sp.names (cloFrom X.env.cells sp.names [])) fa
  have nofa : ∀ x ∈ fa, (upd Hb D (SetO X.w D (fun _ => false) 0)) x = none := fun x hx => (fc x hx).1.1
  show codeAny _ _ (.compStart (sc1 e a b sp pos) 0 (.ref it) (.ref D) (compEnvC sp (cellsFrom (s3.heap.objs.size + 1) sp.names (cloFrom X.env.cells sp.names [])) s3.heap.objs.size X.env)) _ { s3 with heap := pushCells (s3.heap.push { cls := .type "dict", data := .dict #[] }) sp.names }
  generalize eE : compEnvC sp (cellsFrom (s3.heap.objs.size + 1) sp.names (cloFrom X.env.cells sp.names [])) s3.heap.objs.size X.env = en at Id qgo qe ⊢
  have locE : en.locals = s3.heap.objs.size := by
    subst eE
    rfl
  generalize eH : upd Hb D (SetO X.w D (fun _ => false) 0) = Hc at Ic Id qgo qe w0 nofa fc
  generalize e4 : ({ s3 with heap := pushCells (s3.heap.push { cls := .type "dict", data := .dict #[] }) sp.names } : Shared) = s4 at Id ⊢
  have std : tn 0 s4.heap := T.keep _ _ _ stc fun _ _ _ z => by
    rw [← e4]
    exact pushCells_keeps _ _ _ _ (Heap.get?_push_of_some _ z)
  have foot : ∀ {τ : L2.St} {G : Hp} {t : Shared}, Inv (X.blk s3 Hc sp en fa) [] τ G t → (∀ x ∈ fa, G x = none) → ∀ x ∈ fa, FpOk (X.blk s3 Hc sp en fa) [] G x := by
    intro τ G t It hn x hx
    refine ⟨hn x hx, (It.ok.exf x hx).1, It.ok.exfs x hx, .inl hx, fun y k z => (It.ok.exf x hx).2 y k z, fun p hp => ?_⟩
    exact absurd (show p ∈ ([] : List (Addr × Obj)) ++ [] from hp) (by simp)
  have main : codeAny (model X.prog X.w) X.A (.compLoop (sc1 e a b sp pos) 0 (.ref it) (.ref D) en) (compPost (model X.prog X.w) X.A X.xe none (fun u t => EP X pins σ Q u t) (.ref D) s3.heap.objs.size) s4 := by
    refine sc1_loop (fun n t => ∃ i G, Inv (X.blk s3 Hc sp en fa) [] (wipe σ (own.map (·.2))) G t ∧ tn i t.heap ∧ (∀ x ∈ fa, G x = none) ∧ W i n G) ?_ m0 ⟨0, Hc, Id, std, nofa, w0⟩
    rintro n s5 ⟨i, H5, I5, st5, n5, w5⟩
    rcases turn i n H5 w5 with ⟨stop, qq⟩ | ⟨hgo, Nx, hNx, step⟩
    · refine thnF (T.done (X.blk s3 Hc sp en fa) rfl rfl rfl hc i [] s5 _ H5 (fun _ _ => False) I5 (foot I5 n5) st5 stop) fun r s6 ⟨hr, I6⟩ => ?_
      subst hr
      have I7 : Inv X pins σ H5 s6 := by
        refine Ic.call' (ch := fa) I6.os I6.base I6.hok I6.bare fun x hx => ?_
        have z := (fc x hx).1.2
        exact ⟨z.2.2.1, z.1, z.2.2.2.1, z.2.2.2.2⟩
      have nl : H5 s3.heap.objs.size = none := by
        have z : H5 en.locals = none := I6.free
        rwa [locE] at z
      obtain ⟨m, hn, _⟩ := I6.loc
      have hn2 : s6.heap.Ns en.locals m := hn
      rw [locE] at hn2
      obtain ⟨f0, f1, f2, f3, f4, f5⟩ := Ic.fpOk (Nat.le_refl _) nl
      refine ⟨m, hn2, fun g sb => ?_⟩
      exact ⟨.ref D, H5, I7.turned (t' := s6.toks) (fun y o hy z => (sb.2 y hy).trans z) f0 f1 f3 f4 f5, rfl, qq⟩
    · refine thnF (T.item (X.blk s3 Hc sp en fa) rfl rfl rfl hc i [] s5 _ H5 (fun _ _ => False) I5 (foot I5 n5) st5 hgo) fun r s6 ⟨u, hr, h6⟩ => ?_
      subst hr
      refine thnF h6 fun _ s7 ⟨x, H7, I7, r7, y7, st7, n7⟩ => ?_
      refine thnF (qgo.run _ s7 _ H7 x u _ (I7.pinned (foot I7 n7) (T.obj _ _ st7)) r7 (step x H7 y7)) fun _ s8 ⟨σ8, H8, I8, hw8, q8⟩ => ?_
      have shut : ∀ {τ : L2.St} {t : Shared} {G : Hp}, Inv (X.blk s3 Hc sp en fa) ([] ++ pinsAt fa s7.heap) τ G t → (wipe σ (own.map (·.2))).length = τ.length →
          (∀ (j : Nat) v, (wipe σ (own.map (·.2)))[j]? = some (some v) → τ[j]? = some (some v)) → Nx G →
          ∃ m, m < n ∧ ∃ i G, Inv (X.blk s3 Hc sp en fa) [] (wipe σ (own.map (·.2))) G t ∧ tn i t.heap ∧ (∀ x ∈ fa, G x = none) ∧ W i m G := by
        intro τ t G It hl hk nx
        obtain ⟨m', lt, w'⟩ := hNx G nx
        have held : ∀ y ∈ fa, ∀ o, s7.heap.get? y = some o → t.heap.get? y = some o ∧ G y = none := by
          intro y hy o z
          have k := It.pin (y, o) (List.mem_append_right _ (List.mem_append_right _ (mem_pinsAt hy z)))
          exact ⟨k.1, k.2.1⟩
        refine ⟨m', lt, i + 1, G, (It.unpinned (pins := [])).weak hl hk, T.keep _ _ _ st7 fun y hy o z => (held y hy o z).1, fun y hy => ?_, w'⟩
        obtain ⟨o, z, _⟩ := T.obj _ _ st7 y hy
        exact (held y hy o z).2
      have len8 : (wipe σ (own.map (·.2))).length = σ8.length := by
        rw [← hw8, wipe_length]
      have keep8 : ∀ (j : Nat) v, (wipe σ (own.map (·.2)))[j]? = some (some v) → σ8[j]? = some (some v) := by
        intro j v z
        rw [← hw8] at z
        exact (wipe_some z).1
      refine thnF (qe.run _ s8 σ8 H8 _ I8 q8) fun z s15 ⟨yv, H15, I15, r15, cc, S, nn, ey, hD15, few, nx⟩ => ?_
      subst ey
      exact put_int (X := X.blk s3 Hc sp en fa) I15 hD15 few r15 fun s16 I16 => shut I16 len8 keep8 nx
  exact PpSet.codeAny_compStart_set main (T.self X.A 0 _ _ _ std main)
end
def rLenSO (w : World) : List V → Hp → VK → Prop := fun xs H Q => ∃ (a : Addr) (S : Int → Bool) (n : Nat), xs = [.ref a] ∧ H a = some (SetO w a S n) ∧ Q (.int n) H
/-- len of a set of ints -/
theorem cr_lenSO {X : Cx} : CallR X (.builtin "len") (rLenSO X.w) := by
  intro pins s σ H xs us Q I r h
  obtain ⟨a, S, n, rfl, ha, q⟩ := h
  obtain ⟨u, rfl, rx⟩ := vals1 r
  cases rx
  obtain ⟨o, es, ep, t, ho, hex, hd, _, _, _, hb, hf, hn, _⟩ := setO_get I ha
  have sb : scanBound = 4096 := rfl
  have l63 := line63
  exact call_len_set ho hex hd hf (by omega) ⟨.int n, H, I.tok _, ⟨_, by rw [hn]⟩, q⟩
/-- over a list that the comprehension leaves as it is -/
theorem sc1_list {w : World} {K : PySem.W.Frag} {a : Addr} {xs : List V} {g : TG} {te : TE} {vs : List Nat} {σ : L2.St} {H1 : Hp} {D : Addr} {Qd : Hp → Prop} (Pv : Nat → Hp → Prop) (h0 : Pv 0 (upd H1 D (SetO w D (fun _ => false) 0))) (hl : ∀ i H, i ≤ xs.length → Pv i H → SqL K H a xs)
    (hs : ∀ i x H, xs[i]? = some x → Pv i H → g x (wipe σ vs) H fun σ2 H2 => wipe σ2 vs = wipe σ vs ∧ te σ2 H2 fun z H4 => ∃ (c : Int) (S : Int → Bool) (n : Nat), z = .int c ∧ H4 D = some (SetO w D S n) ∧ n + 1 < scanBound ∧ Pv (i + 1) (upd H4 D (SetO w D (fun j => S j || decide (j = c)) (if S c = true then n else n + 1))))
    (hd : ∀ H, Pv xs.length H → Qd H) :
    ∃ W : Nat → Nat → Hp → Prop, (∃ m, W 0 m (upd H1 D (SetO w D (fun _ => false) 0))) ∧ ∀ i m H, W i m H →
      ((Itl K a).stop i H ∧ Qd H) ∨ ((Itl K a).go i H ∧ ∃ Nx : Hp → Prop, (∀ H', Nx H' → ∃ m', m' < m ∧ W (i + 1) m' H') ∧ ∀ x H', (Itl K a).yld i H x H' → g x (wipe σ vs) H' fun σ2 H2 => wipe σ2 vs = wipe σ vs ∧
        te σ2 H2 fun z H4 => ∃ (c : Int) (S : Int → Bool) (n : Nat), z = .int c ∧ H4 D = some (SetO w D S n) ∧ n + 1 < scanBound ∧ Nx (upd H4 D (SetO w D (fun j => S j || decide (j = c)) (if S c = true then n else n + 1)))) := by
  refine ⟨fun i m H => m = xs.length - i ∧ i ≤ xs.length ∧ Pv i H, ⟨xs.length, rfl, Nat.zero_le _, h0⟩, ?_⟩
  rintro i m H ⟨rfl, hi, p⟩
  have q := hl i H hi p
  by_cases c : i < xs.length
  · refine .inr ⟨⟨xs, xs[i], q, List.getElem?_eq_getElem c⟩, Pv (i + 1), fun H' p' => ⟨xs.length - (i + 1), by omega, rfl, c, p'⟩, fun x H' y => ?_⟩
    obtain ⟨rfl, y⟩ := y
    exact hs i x _ (y xs q) p
  · obtain rfl : i = xs.length := by omega
    exact .inl ⟨⟨xs, q, Nat.le_refl _⟩, hd H p⟩
end Su
/-! ### DCW: dict comprehensions over a list, over enumerate of a list -/
namespace Su
open PySem PySem.Spec PyProof.Rows L2
theorem dc_list {K : PySem.W.Frag} {a : Addr} {xs : List V} {g : TG} {tk tv : TE} {vs : List Nat} {σ : L2.St} {H1 : Hp} {D : Addr} {Qd : Hp → Prop} (Pv : Nat → Hp → Prop) (h0 : Pv 0 (upd H1 D (.dK []))) (hl : ∀ i H, i ≤ xs.length → Pv i H → SqL K H a xs)
    (hs : ∀ i x H, xs[i]? = some x → Pv i H → g x (wipe σ vs) H fun σ2 H2 => wipe σ2 vs = wipe σ vs ∧ tYes σ2 H2 fun b H3 =>
      if b = true then tk σ2 H3 fun y H4 => tv σ2 H4 fun z H5 => ∃ kvs k, y = kV k ∧ H5 D = some (.dK kvs) ∧ kvs.length < sizeLine ∧ Pv (i + 1) (upd H5 D (.dK (putK kvs k z))) else Pv (i + 1) H3)
    (hd : ∀ H, Pv xs.length H → Qd H) :
    ∃ W : Nat → Nat → Hp → Prop, (∃ m, W 0 m (upd H1 D (.dK []))) ∧ ∀ i m H, W i m H →
      ((Itl K a).stop i H ∧ Qd H) ∨ ((Itl K a).go i H ∧ ∃ Nx : Hp → Prop, (∀ H', Nx H' → ∃ m', m' < m ∧ W (i + 1) m' H') ∧ ∀ x H', (Itl K a).yld i H x H' → g x (wipe σ vs) H' fun σ2 H2 => wipe σ2 vs = wipe σ vs ∧ tYes σ2 H2 fun b H3 =>
        if b = true then tk σ2 H3 fun y H4 => tv σ2 H4 fun z H5 => ∃ kvs k, y = kV k ∧ H5 D = some (.dK kvs) ∧ kvs.length < sizeLine ∧ Nx (upd H5 D (.dK (putK kvs k z))) else Nx H3) := by
  refine ⟨fun i m H => m = xs.length - i ∧ i ≤ xs.length ∧ Pv i H, ⟨xs.length, rfl, Nat.zero_le _, h0⟩, ?_⟩
  rintro i m H ⟨rfl, hi, p⟩
  have q := hl i H hi p
  by_cases c : i < xs.length
  · refine .inr ⟨⟨xs, xs[i], q, List.getElem?_eq_getElem c⟩, Pv (i + 1), fun H' p' => ⟨xs.length - (i + 1), by omega, rfl, c, p'⟩, fun x H' y => ?_⟩
    obtain ⟨rfl, y⟩ := y
    exact hs i x _ (y xs q) p
  · obtain rfl : i = xs.length := by omega
    exact .inl ⟨⟨xs, q, Nat.le_refl _⟩, hd H p⟩
theorem dc_enum {K : PySem.W.Frag} {a : Addr} {xs : List V} {g : TG} {tk tv : TE} {vs : List Nat} {σ : L2.St} {H1 : Hp} {D : Addr} {Qd : Hp → Prop} (Pv : Nat → Hp → Prop) (h0 : Pv 0 (upd H1 D (.dK []))) (hl : ∀ i H, i ≤ xs.length → Pv i H → SqL K H a xs)
    (hs : ∀ i x T H, xs[i]? = some x → Pv i H → H T = none → g (.ref T) (wipe σ vs) (upd H T (.tup [.int (i : Nat), x])) fun σ2 H2 => wipe σ2 vs = wipe σ vs ∧ tYes σ2 H2 fun b H3 =>
      if b = true then tk σ2 H3 fun y H4 => tv σ2 H4 fun z H5 => ∃ kvs k, y = kV k ∧ H5 D = some (.dK kvs) ∧ kvs.length < sizeLine ∧ Pv (i + 1) (upd H5 D (.dK (putK kvs k z))) else Pv (i + 1) H3)
    (hd : ∀ H, Pv xs.length H → Qd H) :
    ∃ W : Nat → Nat → Hp → Prop, (∃ m, W 0 m (upd H1 D (.dK []))) ∧ ∀ i m H, W i m H →
      ((Ite K a).stop i H ∧ Qd H) ∨ ((Ite K a).go i H ∧ ∃ Nx : Hp → Prop, (∀ H', Nx H' → ∃ m', m' < m ∧ W (i + 1) m' H') ∧ ∀ x H', (Ite K a).yld i H x H' → g x (wipe σ vs) H' fun σ2 H2 => wipe σ2 vs = wipe σ vs ∧ tYes σ2 H2 fun b H3 =>
        if b = true then tk σ2 H3 fun y H4 => tv σ2 H4 fun z H5 => ∃ kvs k, y = kV k ∧ H5 D = some (.dK kvs) ∧ kvs.length < sizeLine ∧ Nx (upd H5 D (.dK (putK kvs k z))) else Nx H3) := by
  refine ⟨fun i m H => m = xs.length - i ∧ i ≤ xs.length ∧ Pv i H, ⟨xs.length, rfl, Nat.zero_le _, h0⟩, ?_⟩
  rintro i m H ⟨rfl, hi, p⟩
  have q := hl i H hi p
  by_cases c : i < xs.length
  · refine .inr ⟨⟨xs, xs[i], q, List.getElem?_eq_getElem c⟩, Pv (i + 1), fun H' p' => ⟨xs.length - (i + 1), by omega, rfl, c, p'⟩, fun x H' y => ?_⟩
    obtain ⟨T, x', rfl, nT, rfl, y⟩ := y
    exact hs i x' T H (y xs q) p nT
  · obtain rfl : i = xs.length := by omega
    exact .inl ⟨⟨xs, q, Nat.le_refl _⟩, hd H p⟩
end Su
/-! ### DU: len, str and repr of an instance, by its own methods -/
namespace Su
open PySem PySem.Spec PyProof.Rows L2
/-- a special method of the class at C -/
structure MetD (P : Program) (w : World) (K : PySem.W.Frag) (mg : Str → Option Value) (base : Heap) (k : Nat) (C : Addr) (m : Str) (sp : Sp) : Prop where
  ex : ∃ (f : Addr) (fd : FuncData), PySem.W.findIn K (.ref C) m = some (some (.ref f)) ∧ PySem.W.isFn K (.ref f) = true ∧ FnG P w K mg base CX0 k f fd ["self"] sp ∧ Binds K fd ["self"] []
section
variable {X : Cx} {k j : Nat} {f C : Addr} {fd : FuncData} {ps : List Str} {sp : Sp}
theorem run_fnG {A : Around} {pins : List (Addr × Obj)} {σ : L2.St} {H : Hp} {s : Shared} {Q : VK} {us : List Value} {vs : List V} (sb : Sub X k A) (hg : A.guards = some []) (F : FnG X.prog X.w X.K X.mg X.base CX0 k f fd ps sp) (hb : Binds X.K fd ps [])
    (I : Inv X pins σ H s) (r : Vals vs us) (h : sp vs H Q E0) : wpAny (model X.prog X.w) A (call (.ref f) us) (EP X pins σ Q) X.xe s := by
  have e0 : Env0 X.prog X.w X.K X.mg X.base A X.stack s H := by
    have e := I.env0
    exact ⟨by rw [sb.fr]; exact e.frames, e.mod, e.bs, e.bsz, e.funs, e.frf, e.hok, e.bare⟩
  have hl : us.length = ps.length := by rw [← r.length]; exact F.len _ _ _ _ h
  refine wpAny_call (codeAny_mono (F.run A X.stack s H ⟨us, []⟩ us vs Q E0 hg sb.room e0 (by
    have := hb s us I.kIn (by simpa using hl)
    simpa using this) r h) fun r s' hq => ?_)
  cases r with
  | error e => exact False.elim hq
  | ok fl =>
    cases fl with
    | ret u => exact I.after hq
    | next => exact False.elim hq
    | brk => exact False.elim hq
    | cont => exact False.elim hq
def rLenI (C : Addr) (sp : Sp) : List V → Hp → VK → Prop := fun xs H Q => ∃ (a dx : Addr) (fs : List (Str × V)), xs = [.ref a] ∧ H a = some (.ins C dx fs) ∧ sp [.ref a] H (fun v H' => ∃ n : Int, v = .int n ∧ (0 ≤ n ∧ n < 2 ^ 63) ∧ Q (.int n) H') E0
theorem call_lenI (M : MetD X.prog X.w X.K X.mg X.base k C "__len__" sp) (hg : X.A.guards = some []) (hr : Room j X.A) (hk : k + 1 ≤ j) : CallR X (.builtin "len") (rLenI C sp) := by
  intro pins s σ H xs us Q I r h
  obtain ⟨a, dx, fs, rfl, ea, hsp⟩ := h
  obtain ⟨f, fd, hs, hf, F, hb⟩ := M.ex
  rw [Vals.ref1 r]
  obtain ⟨mA, J, _⟩ := ins_get I.hok ea
  obtain ⟨od, J, _⟩ := J.look
  obtain ⟨m, hF⟩ := I.fr
  have sb : Sub X (k + 1) X.A := ⟨hr.mono hk, rfl⟩
  refine PySem.W.len_K hF I.ok.mod.kin J hs hf ?_
  refine wpAny_mono (run_fnG sb.in1 hg F hb I (vs := [.ref a]) (.cons rfl .nil) hsp) (fun u s' z => ?_) (fun _ _ z => z)
  obtain ⟨v, H', I', rv, n, rfl, h01, q⟩ := z
  obtain ⟨t, rfl⟩ := rv
  exact ⟨h01, .int n, H', I'.tok _, ⟨_, rfl⟩, q⟩
def rTxtI (C : Addr) (sp : Sp) : List V → Hp → VK → Prop := fun xs H Q => ∃ (a dx : Addr) (fs : List (Str × V)), xs = [.ref a] ∧ H a = some (.ins C dx fs) ∧ sp [.ref a] H (fun v H' => ∃ x : Str, v = .str x ∧ Q (.str x) H') E0
theorem call_strI (M : MetD X.prog X.w X.K X.mg X.base k C "__str__" sp) (hg : X.A.guards = some []) (hr : Room j X.A) (hk : k + 2 ≤ j) : CallR X (.type "str") (rTxtI C sp) := by
  intro pins s σ H xs us Q I r h
  obtain ⟨a, dx, fs, rfl, ea, hsp⟩ := h
  obtain ⟨f, fd, hs, hf, F, hb⟩ := M.ex
  rw [Vals.ref1 r]
  obtain ⟨mA, J, _⟩ := ins_get I.hok ea
  obtain ⟨od, J, _⟩ := J.look
  have sb : Sub X (k + 2) X.A := ⟨hr.mono hk, rfl⟩
  refine PySem.W.kso_call sb.in1.in1.room.units0 I.kIn J hs hf ?_
  refine wpAny_mono (run_fnG sb.in1.in1 hg F hb I (vs := [.ref a]) (.cons rfl .nil) hsp) (fun u s' z => ?_) (fun _ _ z => z)
  obtain ⟨v, H', I', rv, x, rfl, q⟩ := z
  obtain ⟨t, rfl⟩ := rv
  exact ⟨.str x, H', I', ⟨_, rfl⟩, q⟩
theorem call_reprI (M : MetD X.prog X.w X.K X.mg X.base k C "__repr__" sp) (hg : X.A.guards = some []) (hr : Room j X.A) (hk : k + 1 ≤ j) : CallR X (.builtin "repr") (rTxtI C sp) := by
  intro pins s σ H xs us Q I r h
  obtain ⟨a, dx, fs, rfl, ea, hsp⟩ := h
  obtain ⟨f, fd, hs, hf, F, hb⟩ := M.ex
  rw [Vals.ref1 r]
  obtain ⟨mA, J, _⟩ := ins_get I.hok ea
  obtain ⟨od, J, _⟩ := J.look
  obtain ⟨m, hF⟩ := I.fr
  have sb : Sub X (k + 1) X.A := ⟨hr.mono hk, rfl⟩
  refine PySem.W.repr_K sb.in1.room.units0 hF I.ok.mod.kin J hs hf ?_
  refine wpAny_mono (run_fnG sb.in1 hg F hb I (vs := [.ref a]) (.cons rfl .nil) hsp) (fun u s' z => ?_) (fun _ _ z => z)
  obtain ⟨v, H', I', rv, x, rfl, q⟩ := z
  obtain ⟨t, rfl⟩ := rv
  exact ⟨.str x, H', I', ⟨_, rfl⟩, q⟩
end
section
open Builtin
variable {prog : Program} {w : World} {A : Around} {E : Value → Shared → Prop} {s : Shared} {K : PySem.W.Frag} {x C f : Addr} {ox : Obj} {od : Option Obj}
def LenTru (Q : Bool → Shared → Prop) (v : Value) (s' : Shared) : Prop := match v with
  | .int n _ => (0 ≤ n ∧ n < 2 ^ 63) ∧ Q (n != 0) { s' with toks := s'.toks + 1 }
  | _ => False
theorem truthy_len {Q : Bool → Shared → Prop} (X : K.In s.heap) (I : PySem.W.InstAt s.heap x ox C od) (hb : PySem.W.findIn K (.ref C) "__bool__" = some none) (hl : PySem.W.findIn K (.ref C) "__len__" = some (some (.ref f))) (hf : PySem.W.isFn K (.ref f) = true)
    (h : wpAny (model prog w) A.in1 (call (.ref f) [.ref x]) (LenTru Q) E s) : wpAny (model prog w) A (truthy (.ref x)) Q E s := by
  unfold truthy
  refine wpAny_bind (m := callSpecial? (.ref x) (Str.ofString "__bool__")) (wpAny_bind (wpAny_bind (I.type.here ((PySem.W.looks_findIn X hb).here (wpAny_pure ?_)))))
  refine wpAny_bind (wpAny_bind (I.type.here ((PySem.W.looks_findIn X hl).here ?_)))
  show wpAny _ _ (if (some (Value.ref f)).isNone = true then _ else _) _ _ _
  rw [if_neg (by simp)]
  refine wpAny_bind (wpAny_runValue (codeAny_builtin PySem.entry_len ?_))
  rw [Around.under_plainId (by decide +kernel) _]
  unfold Builtin.«len»
  refine wpAny_bind (m := oneArg "len" _) (wpAny_pure ?_)
  refine wpAny_bind (m := callSpecial? (.ref x) (Str.ofString "__len__")) (PySem.W.special_fn X I hl (beq_iff_eq.mp hf) (wpAny_mono h (fun r s' hr => ?_) fun _ _ y => y))
  cases r <;> first | exact hr.elim | skip
  rename_i n u
  obtain ⟨⟨h0, h1⟩, hq⟩ := hr
  refine wpAny_bind (wpAny_holding (wpAny_pure ?_))
  refine wpAny_bind (wpAny_letGo ?_)
  show wpAny _ _ (if n < 0 then _ else _) _ _ _
  rw [if_neg (by omega)]
  show wpAny _ _ (if n ≥ 2 ^ 63 then _ else _) _ _ _
  rw [if_neg (by omega)]
  exact wpAny_bind (wpAny_mkInt (wpAny_pure (wpAny_pure hq)))
end
end Su
/-! ### DB: bool of an instance with a length -/
namespace Su
open PySem PySem.Spec PyProof.Rows L2 Builtin
section
variable {prog : Program} {w : World} {A : Around} {E : Value → Shared → Prop} {s : Shared} {K : PySem.W.Frag} {x C f : Addr} {ox : Obj} {od : Option Obj}
theorem bool_own {Q : Value → Shared → Prop} (X : K.In s.heap) (I : PySem.W.InstAt s.heap x ox C od) (hb : PySem.W.findIn K (.ref C) "__bool__" = some none) (hl : PySem.W.findIn K (.ref C) "__len__" = some (some (.ref f))) (hf : PySem.W.isFn K (.ref f) = true)
    (h : wpAny (model prog w) A.in1.in1.in1 (call (.ref f) [.ref x]) (LenTru (fun b s' => Q (.bool b) s')) E s) : wpAny (model prog w) A (call (.type "bool") [.ref x]) Q E s := by
  refine callType_codes (T := "bool") (Bi := Builtin.«object.__init__») (Q₁ := fun r s₁ => ∃ b, r = .bool b ∧ Q r s₁) PySem.F.called_bool (PySem.F.typeCall_bool_1 _) PySem.F.entry_object_init ?_ ?_
  · refine codeAny_of_tree ?_
    show wpAny _ A.in1.in1 (do checkBuiltinCall "bool.__new__" ⟨[.type "bool", .ref x], []⟩; again (.builtin "bool.__new__" ⟨[.type "bool", .ref x], []⟩)) _ _ s
    refine wpAny_bind (wpAny_of_eq (PySem.F.newCall_bool_1 _) (wpAny_pure ⟨plainId_quiet (by decide +kernel) _, codeAny_builtin PySem.F.entry_bool_new ?_⟩))
    rw [Around.under_plainId (by decide +kernel) _]
    have f1 := PySem.F.conv_sub_bool
    have tl : ∀ {R : Bool → Shared → Prop}, (∀ b s', Q (.bool b) s' → R b s') → wpAny (model prog w) A.in1.in1 (truthy (.ref x)) R E s := fun {R} hr => truthy_len X I hb hl hf (wpAny_mono h (fun v s' z => by
      cases v <;> first | exact z.elim | exact ⟨z.1, hr _ _ z.2⟩) fun _ _ y => y)
    obtain ⟨hp, g, d, tk, os⟩ := s
    unfold Builtin.«bool.__new__»
    repeat (any_goals (first | assumption | (refine wpAny_bind (tl fun b s' hq => ?_)) | wp_step))
    all_goals first | exact ⟨_, rfl, hq⟩ | skip
  · rintro obj s₁ ⟨b, rfl, hq⟩
    have ty : s₁.TypeIs (.bool b) "bool" := PyProof.Rows.typeIs_bool _ _
    exact ⟨ty, PySem.F.args_object_init_2 _ _, object_init_meets PySem.F.called_bool.init.lookup PySem.F.called_bool.made (by decide) prog w A.in1 _ s₁ ⟨ty, rfl, hq⟩⟩
end
section
variable {X : Cx} {k j : Nat} {C : Addr} {sp : Sp}
/-- bool(x), x an instance without __bool__, by its length -/
def rBoolI (C : Addr) (sp : Sp) : List V → Hp → VK → Prop := fun xs H Q => ∃ (a dx : Addr) (fs : List (Str × V)), xs = [.ref a] ∧ H a = some (.ins C dx fs) ∧ sp [.ref a] H (fun v H' => ∃ n : Int, v = .int n ∧ (0 ≤ n ∧ n < 2 ^ 63) ∧ Q (.bl (n != 0)) H') E0
theorem call_boolI (M : MetD X.prog X.w X.K X.mg X.base k C "__len__" sp) (nb : PySem.W.findIn X.K (.ref C) "__bool__" = some none) (hg : X.A.guards = some []) (hr : Room j X.A) (hk : k + 3 ≤ j) : CallR X (.type "bool") (rBoolI C sp) := by
  intro pins s σ H xs us Q I r h
  obtain ⟨a, dx, fs, rfl, ea, hsp⟩ := h
  obtain ⟨f, fd, hs, hf, F, hb⟩ := M.ex
  rw [Vals.ref1 r]
  obtain ⟨mA, J, _⟩ := ins_get I.hok ea
  obtain ⟨od, J, _⟩ := J.look
  have sb : Sub X (k + 3) X.A := ⟨hr.mono hk, rfl⟩
  refine bool_own I.kIn J nb hs hf ?_
  refine wpAny_mono (run_fnG sb.in1.in1.in1 hg F hb I (vs := [.ref a]) (.cons rfl .nil) hsp) (fun u s' z => ?_) (fun _ _ z => z)
  obtain ⟨v, H', I', rv, n, rfl, h01, q⟩ := z
  obtain ⟨t, rfl⟩ := rv
  exact ⟨h01, .bl (n != 0), H', I'.tok _, rfl, q⟩
end
end Su
/-! ### EQ: == and != by an own __eq__, whatever it answers, and what it is compared with -/
namespace Su
open PySem PySem.Spec PyProof.Rows L2
/-- an own == of the class at C -/
structure MetE (P : Program) (w : World) (K : PySem.W.Frag) (mg : Str → Option Value) (base : Heap) (k : Nat) (C : Addr) (sp : Sp) : Prop where
  ex : ∃ (f : Addr) (fd : FuncData), PySem.W.findIn K (.ref C) "__eq__" = some (some (.ref f)) ∧ PySem.W.isFn K (.ref f) = true ∧ FnOk P w K mg base CX0 k f fd ["self", "other"] sp ∧ Binds K fd ["self", "other"] []
  ne : PySem.W.findIn K (.ref C) "__ne__" = some (some (.builtin "object.__ne__"))
  ob : PySem.W.subIn K (.ref C) (.type "object") = some true
  no : PySem.W.subIn K (.type "NoneType") (.ref C) = some false ∧ PySem.W.subIn K (.type "int") (.ref C) = some false ∧ PySem.W.subIn K (.type "bool") (.ref C) = some false ∧ PySem.W.subIn K (.type "str") (.ref C) = some false ∧ PySem.W.subIn K (.type "tuple") (.ref C) = some false ∧ PySem.W.subIn K (.type "list") (.ref C) = some false ∧ PySem.W.subIn K (.type "dict") (.ref C) = some false
  nb : PySem.W.subIn K (.ref C) (.type "NoneType") = some false ∧ PySem.W.subIn K (.ref C) (.type "int") = some false ∧ PySem.W.subIn K (.ref C) (.type "bool") = some false ∧ PySem.W.subIn K (.ref C) (.type "str") = some false ∧ PySem.W.subIn K (.ref C) (.type "tuple") = some false ∧ PySem.W.subIn K (.ref C) (.type "list") = some false ∧ PySem.W.subIn K (.ref C) (.type "dict") = some false
def isT (T : String) : Prop := T = "NoneType" ∨ T = "int" ∨ T = "bool" ∨ T = "str" ∨ T = "tuple" ∨ T = "list" ∨ T = "dict"
section
variable {X : Cx} {k j : Nat} {f C : Addr} {fd : FuncData} {ps : List Str} {sp : Sp}
theorem run_fnO {A : Around} {pins : List (Addr × Obj)} {σ : L2.St} {H : Hp} {s : Shared} {Q : VK} {us : List Value} {vs : List V} (sb : Sub X k A) (F : FnOk X.prog X.w X.K X.mg X.base CX0 k f fd ps sp) (hb : Binds X.K fd ps [])
    (I : Inv X pins σ H s) (r : Vals vs us) (h : sp vs H Q E0) : wpAny (model X.prog X.w) A (call (.ref f) us) (EP X pins σ Q) X.xe s := by
  have e0 : Env0 X.prog X.w X.K X.mg X.base A X.stack s H := by
    have e := I.env0
    exact ⟨by rw [sb.fr]; exact e.frames, e.mod, e.bs, e.bsz, e.funs, e.frf, e.hok, e.bare⟩
  have hl : us.length = ps.length := by rw [← r.length]; exact F.len _ _ _ _ h
  refine wpAny_call (codeAny_mono (F.run A X.stack s H ⟨us, []⟩ us vs Q E0 sb.room e0 (by
    have := hb s us I.kIn (by simpa using hl)
    simpa using this) r h) fun r s' hq => ?_)
  cases r with
  | error e => exact False.elim hq
  | ok fl =>
    cases fl with
    | ret u => exact I.after hq
    | next => exact False.elim hq
    | brk => exact False.elim hq
    | cont => exact False.elim hq
/-- what an instance of the class at C is compared with -/
def TyN (K : PySem.W.Frag) (H : Hp) (C : Addr) (y : V) : Prop := (∃ b d fs, y = .ref b ∧ H b = some (.ins C d fs)) ∨ ∃ T : String, isT T ∧ TyX K H y (.type T)
theorem MetE.sub {P : Program} {w : World} {K : PySem.W.Frag} {mg : Str → Option Value} {base : Heap} (M : MetE P w K mg base k C sp) {T : String} (h : isT T) : PySem.W.subIn K (.type T) (.ref C) = some false := by
  obtain ⟨n1, n2, n3, n4, n5, n6, n7⟩ := M.no
  rcases h with rfl | rfl | rfl | rfl | rfl | rfl | rfl <;> assumption
theorem MetE.sub' {P : Program} {w : World} {K : PySem.W.Frag} {mg : Str → Option Value} {base : Heap} (M : MetE P w K mg base k C sp) {T : String} (h : isT T) : PySem.W.subIn K (.ref C) (.type T) = some false := by
  obtain ⟨n1, n2, n3, n4, n5, n6, n7⟩ := M.nb
  rcases h with rfl | rfl | rfl | rfl | rfl | rfl | rfl <;> assumption
theorem tyN_looks {pins : List (Addr × Obj)} {σ : L2.St} {H : Hp} {s : Shared} {y : V} {u : Value} (M : MetE X.prog X.w X.K X.mg X.base k C sp) (I : Inv X pins σ H s) (ry : RelV y u) (ty : TyN X.K H C y) :
    ∃ tb, PySem.W.Looks (model X.prog X.w) s.heap (typeOf u) tb ∧ PySem.W.notFirst X.K C tb = true := by
  rcases ty with ⟨b, d, fs, rfl, hb⟩ | ⟨T, hT, ty⟩
  · cases ry
    obtain ⟨mB, J', _⟩ := ins_get I.hok hb
    obtain ⟨od', J', _⟩ := J'.look
    exact ⟨.ref C, J'.type, by simp [PySem.W.notFirst]⟩
  · obtain ⟨Pr, kx, hp, _⟩ := kit_of I ry ty
    refine ⟨.type T, kx.ty _ _ I.kIn hp, ?_⟩
    unfold PySem.W.notFirst
    rw [M.sub hT]
    simp
def rEqO (K : PySem.W.Frag) (C : Addr) (sp : Sp) : R2 := fun x y H Q => ∃ (a dx : Addr) (fs : List (Str × V)), x = .ref a ∧ H a = some (.ins C dx fs) ∧ TyN K H C y ∧ sp [x, y] H (fun v H' => ∃ b, v = .bl b ∧ Q (.bl b) H') E0
/-- the own ==, run inside -/
theorem rc_eqO {A : Around} {pins : List (Addr × Obj)} {σ : L2.St} {H : Hp} {s : Shared} {Q : VK} {x y : V} {v u : Value} (M : MetE X.prog X.w X.K X.mg X.base k C sp) (sb : Sub X k A) (I : Inv X pins σ H s) (rx : RelV x v) (ry : RelV y u) (h : rEqO X.K C sp x y H Q) :
    wpAny (model X.prog X.w) A (richCompare .Eq v u) (fun r s' => ∃ b, r = .bool b ∧ ∃ H', Inv X pins σ H' s' ∧ Q (.bl b) H') X.xe s := by
  obtain ⟨a, dx, fs, rfl, ha, ty, hsp⟩ := h
  obtain ⟨f, fd, hs, hf, F, hb⟩ := M.ex
  cases rx
  obtain ⟨tb, lk, nf⟩ := tyN_looks M I ry ty
  obtain ⟨mA, J, _⟩ := ins_get I.hok ha
  obtain ⟨od, J, _⟩ := J.look
  obtain ⟨m, hF⟩ := I.fr
  refine PySem.W.cmp_K (op := .Eq) (tb := tb) sb.room.units0 hF I.ok.mod.kin J lk nf hs hf ?_
  refine wpAny_mono (run_fnO sb F hb I (vs := [.ref a, y]) (.cons rfl (.cons ry .nil)) hsp) (fun w s' z => ?_) (fun _ _ z => z)
  obtain ⟨z, H', I', rz, b, rfl, q⟩ := z
  cases rz
  exact ⟨b, rfl, H', I', q⟩
theorem op_eqO (M : MetE X.prog X.w X.K X.mg X.base k C sp) (hr : Room j X.A) (hk : k ≤ j) : OpR X (compareOp .Eq) (rEqO X.K C sp) := by
  intro pins s σ H x y v u Q I rx ry h
  show wpAny (model X.prog X.w) X.A (richCompare .Eq v u) (EP X pins σ Q) X.xe s
  refine wpAny_mono (rc_eqO M ⟨hr.mono hk, rfl⟩ I rx ry h) (fun r s' z => ?_) (fun _ _ z => z)
  obtain ⟨b, rfl, H', I', q⟩ := z
  exact ⟨.bl b, H', I', rfl, q⟩
theorem ifBound_B {prog : Program} {w : World} {A : Around} {E : Value → Shared → Prop} {s : Shared} {K : PySem.W.Frag} {x C : Addr} {ox : Obj} {od : Option Obj} {name : Str} {id : String} {args : List Value} {Q : Option Value → Shared → Prop} (X : K.In s.heap) (I : PySem.W.InstAt s.heap x ox C od) (hs : PySem.W.findIn K (.ref C) name = some (some (.builtin id))) (hb : ∀ self, bindSpecial (.builtin id) self = pure (.builtin id, [self]))
    (h : wpAny (model prog w) A (call (.builtin id) (.ref x :: args)) (fun v => Q (some v)) E s) : wpAny (model prog w) A (callSpecialIfBound? (.ref x) name args) Q E s := by
  simp only [callSpecialIfBound?, bindSpecialIfBound?]
  refine wpAny_holding (wpAny_bind (wpAny_bind (wpAny_bind (I.type.here ((PySem.W.looks_findIn X hs).here ?_)))))
  refine wpAny_bind (wpAny_askSetting (wpAny_ite ?_))
  have fin : wpAny (model prog w) A (call (.builtin id) ([.ref x] ++ args) >>= fun v => pure (some v)) Q E s := wpAny_bind (wpAny_mono h (fun v s' h' => wpAny_pure h') fun _ _ h' => h')
  simp only [hb]
  split
  · exact wpAny_bind (wpAny_pure (wpAny_pure fin))
  · exact wpAny_tryCatch (wpAny_bind (wpAny_pure (wpAny_pure fin)))
theorem objNe_K {prog : Program} {w : World} {A : Around} {E : Value → Shared → Prop} {s : Shared} {K : PySem.W.Frag} {x C f : Addr} {ox : Obj} {od : Option Obj} {b : Value} {Q : Fin → Shared → Prop} (X : K.In s.heap) (I : PySem.W.InstAt s.heap x ox C od) (hu : A.units < cLine) (hs : PySem.W.findIn K (.ref C) "__eq__" = some (some (.ref f))) (hf : PySem.W.isFn K (.ref f) = true)
    (hcall : wpAny (model prog w) A (call (.ref f) [.ref x, b]) (fun v s' => ∃ r, v = .bool r ∧ Q (.done (.ret (.bool (!r)))) s') E s) :
    wpAny (model prog w) A (Builtin.«object.__ne__» ⟨[.ref x, b], []⟩) Q E s := by
  unfold Builtin.«object.__ne__»
  repeat (first
    | with_reducible refine wpAny_cRoomFor hu ?_
    | (refine wpAny_bind (m := callSpecialIfBound? (.ref x) (Str.ofString "__eq__") [b])
        (PySem.W.ifBound_K X I hs hf (wpAny_mono hcall (fun r s' hr => by
          obtain ⟨b, rfl, hq⟩ := hr
          repeat (first | exact hq | exact wpAny_pure hq | exact wpAny_truthy_bool hq | (refine wpAny_bind (m := truthy (.bool _)) (wpAny_truthy_bool ?_)) | wp_step)) fun _ _ e => e)))
    | wp_step)
theorem cmp_neK {prog : Program} {w : World} {A : Around} {E : Value → Shared → Prop} {s : Shared} {K : PySem.W.Frag} {x C f : Addr} {ox : Obj} {od : Option Obj} {b tb : Value} {Q : Value → Shared → Prop} (hu : A.units + 1 < cLine) (X : K.In s.heap) (I : PySem.W.InstAt s.heap x ox C od) (hb : PySem.W.Looks (model prog w) s.heap (typeOf b) tb) (hn : PySem.W.notFirst K C tb = true)
    (hs : PySem.W.findIn K (.ref C) "__eq__" = some (some (.ref f))) (hf : PySem.W.isFn K (.ref f) = true) (hne : PySem.W.findIn K (.ref C) "__ne__" = some (some (.builtin "object.__ne__"))) (ho : PySem.W.subIn K (.ref C) (.type "object") = some true)
    (hcall : wpAny (model prog w) A.in1 (call (.ref f) [.ref x, b]) (fun v s' => ∃ r, v = .bool r ∧ Q (.bool (!r)) s') E s) : wpAny (model prog w) A (richCompare .NotEq (.ref x) b) Q E s := by
  have one : wpAny (model prog w) A (tryCompare (.ref x) "__ne__" b) (fun r s' => ∃ v, r = some v ∧ Q v s') E s := by
    unfold tryCompare
    refine wpAny_bind (ifBound_B X I hne (fun self => PySem.F.slot_object_ne.bind self) ?_)
    have t2 : PySem.W.Looks (model prog w) s.heap (isInstance (.ref x) (.type "object")) true := I.type.andThen (PySem.W.looks_subIn X ho)
    refine wpAny_call (codeAny_call_builtin PySem.F.slot_object_ne.plain PySem.F.entry_object_ne (@PySem.W.check_slot (model prog w) _ _ _ "object.__ne__" "object" "__ne__" (.ref x) [b] [] _ PySem.F.cmpKind_ne PySem.F.cmpSplit_ne t2 (PySem.F.cmpArgs_ne _ _) ?_))
    refine objNe_K (A := A.in1) X I hu hs hf (wpAny_mono hcall (fun v s' hv => ?_) fun _ _ e => e)
    obtain ⟨r, rfl, hq⟩ := hv
    exact ⟨r, rfl, wpAny_pure ⟨_, rfl, hq⟩⟩
  unfold richCompare
  simp only [oneThing_ref]
  refine wpAny_holding (wpAny_bind (wpAny_cRoomFor (Nat.lt_of_succ_lt hu) ?_))
  rw [cmpInfo_NotEq]
  dsimp only
  refine wpAny_bind (I.type.here (wpAny_bind (hb.here ?_)))
  split
  · rename_i q
    have e : PySem.W.subIn K tb (.ref C) = some false := by
      rcases Bool.or_eq_true_iff.mp hn with e | e
      · rw [beq_iff_eq.mp e] at q; simp at q
      · exact beq_iff_eq.mp e
    refine wpAny_bind ((PySem.W.looks_subIn X e).here ?_)
    simp only [Bool.false_eq_true, if_false]
    refine wpAny_bind (wpAny_mono one (fun r s' z => ?_) fun _ _ e => e)
    obtain ⟨v, rfl, hq⟩ := z
    exact wpAny_pure hq
  · refine wpAny_bind (wpAny_pure ?_)
    simp only [Bool.false_eq_true, if_false]
    refine wpAny_bind (wpAny_mono one (fun r s' z => ?_) fun _ _ e => e)
    obtain ⟨v, rfl, hq⟩ := z
    exact wpAny_pure hq
def rNeO (K : PySem.W.Frag) (C : Addr) (sp : Sp) : R2 := fun x y H Q => ∃ (a dx : Addr) (fs : List (Str × V)), x = .ref a ∧ H a = some (.ins C dx fs) ∧ TyN K H C y ∧ sp [x, y] H (fun v H' => ∃ b, v = .bl b ∧ Q (.bl (!b)) H') E0
theorem op_neO (M : MetE X.prog X.w X.K X.mg X.base k C sp) (hr : Room j X.A) (hk : k + 1 ≤ j) : OpR X (compareOp .NotEq) (rNeO X.K C sp) := by
  intro pins s σ H x y v u Q I rx ry h
  show wpAny (model X.prog X.w) X.A (richCompare .NotEq v u) (EP X pins σ Q) X.xe s
  obtain ⟨a, dx, fs, rfl, ha, ty, hsp⟩ := h
  obtain ⟨f, fd, hs, hf, F, hb⟩ := M.ex
  cases rx
  obtain ⟨tb, lk, nf⟩ := tyN_looks M I ry ty
  obtain ⟨mA, J, _⟩ := ins_get I.hok ha
  obtain ⟨od, J, _⟩ := J.look
  have sb : Sub X (k + 1) X.A := ⟨hr.mono hk, rfl⟩
  refine cmp_neK (by have := sb.room.units; omega) I.kIn J lk nf hs hf M.ne M.ob ?_
  refine wpAny_mono (run_fnO sb.in1 F hb I (vs := [.ref a, y]) (.cons rfl (.cons ry .nil)) hsp) (fun w s' z => ?_) (fun _ _ z => z)
  obtain ⟨z, H', I', rz, b, rfl, q⟩ := z
  cases rz
  exact ⟨b, rfl, .bl (!b), H', I', rfl, q⟩
end
end Su
/-! ### EQ2: other things compared with an instance: they decline, and its own == is asked -/
namespace Su
open PySem PySem.Spec PyProof.Rows L2
theorem none_eq_ins (x : Addr) : Meets (Builtin.«NoneType.__eq__» ⟨[.none, .ref x], []⟩) (fun _ R s => R (.ok (.ret .notImplemented)) s) :=
  .of_wp fun prog w A R s h => by obtain ⟨hp, g, d, tk, os⟩ := s; wp_walk; exact ⟨_, rfl, h⟩
theorem int_eq_ins (v : Value) (hv : (∃ b, v = .bool b) ∨ ∃ i t, v = .int i t) (x C dx : Addr) : Meets (Builtin.«int.__eq__» ⟨[v, .ref x], []⟩) (fun _ R s => s.heap.get? x = some (PySem.W.instObj C dx) ∧ R (.ok (.ret .notImplemented)) s) :=
  .of_wp fun prog w A R s h => by
    obtain ⟨hp, g, d, tk, os⟩ := s
    obtain ⟨hl, h⟩ := h
    unfold PySem.W.instObj at hl
    rcases hv with ⟨b, rfl⟩ | ⟨i, t, rfl⟩
    · wp_walk using wpAny_loadPart' hl, wpAny_load hl
      exact ⟨_, rfl, h⟩
    · wp_walk using wpAny_loadPart' hl, wpAny_load hl
      exact ⟨_, rfl, h⟩
theorem str_eq_ins (b : Str) (u : Tok) (x C dx : Addr) : Meets (Builtin.«str.__eq__» ⟨[.str b u, .ref x], []⟩) (fun _ R s => s.heap.get? x = some (PySem.W.instObj C dx) ∧ R (.ok (.ret .notImplemented)) s) :=
  .of_wp fun prog w A R s h => by
    obtain ⟨hp, g, d, tk, os⟩ := s
    obtain ⟨hl, h⟩ := h
    unfold PySem.W.instObj at hl
    wp_walk using wpAny_loadPart' hl, wpAny_load hl
    exact ⟨_, rfl, h⟩
section
variable {K : PySem.W.Frag}
theorem list_eq_ins (l x C dx : Addr) (hs : PySem.W.subIn K (.ref C) (.type "list") = some false) : Meets (Builtin.«list.__eq__» ⟨[.ref l, .ref x], []⟩) (fun _ R s => K.In s.heap ∧ s.heap.get? x = some (PySem.W.instObj C dx) ∧ R (.ok (.ret .notImplemented)) s) :=
  .of_wp fun prog w A R s h => by
    obtain ⟨hp, g, d, tk, os⟩ := s
    obtain ⟨X, hl, h⟩ := h
    have lk := PySem.W.looks_subIn (M := model prog w) X hs
    unfold PySem.W.instObj at hl
    wp_walk using wpAny_loadPart' hl, wpAny_load hl, lk.here
    exact ⟨_, rfl, h⟩
theorem tuple_eq_ins (l x C dx : Addr) (hs : PySem.W.subIn K (.ref C) (.type "tuple") = some false) : Meets (Builtin.«tuple.__eq__» ⟨[.ref l, .ref x], []⟩) (fun _ R s => K.In s.heap ∧ s.heap.get? x = some (PySem.W.instObj C dx) ∧ R (.ok (.ret .notImplemented)) s) :=
  .of_wp fun prog w A R s h => by
    obtain ⟨hp, g, d, tk, os⟩ := s
    obtain ⟨X, hl, h⟩ := h
    have lk := PySem.W.looks_subIn (M := model prog w) X hs
    unfold PySem.W.instObj at hl
    wp_walk using wpAny_loadPart' hl, wpAny_load hl, lk.here
    exact ⟨_, rfl, h⟩
theorem dict_eq_ins (l x C dx : Addr) (hs : PySem.W.subIn K (.ref C) (.type "dict") = some false) : Meets (Builtin.«dict.__eq__» ⟨[.ref l, .ref x], []⟩) (fun _ R s => K.In s.heap ∧ s.TypeIs (.ref l) "dict" ∧ s.heap.get? x = some (PySem.W.instObj C dx) ∧ R (.ok (.ret .notImplemented)) s) :=
  .of_wp fun prog w A R s h => by
    obtain ⟨hp, g, d, tk, os⟩ := s
    obtain ⟨X, ⟨o, ho, hc⟩, hl, h⟩ := h
    have lk := PySem.W.looks_subIn (M := model prog w) X hs
    unfold PySem.W.instObj at hl
    wp_walk using wpAny_loadPart' hl, wpAny_load hl, lk.here, wpAny_loadPart' ho
    exact ⟨_, rfl, h⟩
theorem cmp_backK {prog : Program} {w : World} {A : Around} {E : Value → Shared → Prop} {s : Shared} {x C f : Addr} {ox : Obj} {od : Option Obj} {y : Value} {T id : String} {Q : Value → Shared → Prop} (hu : A.units < cLine) (X : K.In s.heap) (I : PySem.W.InstAt s.heap x ox C od) (hT : s.TypeIs y T) (hsub : PySem.W.subIn K (.ref C) (.type T) = some false)
    (slot : Slot T (cmpInfo .Eq).2.1 id) (hc : ∀ Q : Value → Shared → Prop, Q .notImplemented s → wpAny (model prog w) A (call (.builtin id) [y, .ref x]) Q E s) (hs : PySem.W.findIn K (.ref C) "__eq__" = some (some (.ref f))) (hf : PySem.W.isFn K (.ref f) = true)
    (h : wpAny (model prog w) A (call (.ref f) [.ref x, y]) (PySem.W.CmpBack Q) E s) : wpAny (model prog w) A (richCompare .Eq y (.ref x)) Q E s := by
  have one : wpAny (model prog w) A (tryCompare (.ref x) "__eq__" y) (fun r s' => ∃ v, r = some v ∧ Q v s') E s := by
    unfold tryCompare
    refine wpAny_bind (PySem.W.ifBound_K X I hs hf (wpAny_mono h (fun v s' hv => ?_) fun _ _ e => e))
    cases v <;> first | exact hv.elim | exact wpAny_pure ⟨_, rfl, hv⟩
  rcases hi : cmpInfo .Eq with ⟨sym, nf, nr⟩
  rw [hi] at slot
  have e1 : nr = "__eq__" := by
    have := congrArg (fun z => z.2.2) hi
    exact this.symm
  have ne : (Value.type T != Value.ref C) = true := by simp
  simp only [richCompare, hi, hT.oneThing_none]
  refine wpAny_holding ?_
  refine wpAny_bind (wpAny_cRoomFor hu ?_)
  refine wpAny_bind (wpAny_typeOf hT (wpAny_bind (I.type.here ?_)))
  simp only [ne, if_true]
  refine wpAny_bind ((PySem.W.looks_subIn X hsub).here ?_)
  simp only [Bool.false_eq_true, if_false, Bool.not_false, if_true]
  refine wpAny_bind (m := tryCompare y _ (.ref x)) (wpAny_tryCompare_declines hT slot (hc _ ⟨rfl, ?_⟩))
  refine wpAny_bind (m := tryCompare (.ref x) _ y) ?_
  rw [e1]
  refine wpAny_mono one (fun r s' z => ?_) fun _ _ e => e
  obtain ⟨v, rfl, hq⟩ := z
  exact wpAny_pure hq
end
/-- what isn't an instance -/
def OddT (H : Hp) (y : V) : Prop := y = .non ∨ (∃ b, y = .bl b) ∨ (∃ i, y = .int i) ∨ (∃ t, y = .str t) ∨ (∃ c xs, y = .ref c ∧ H c = some (.lst xs)) ∨ (∃ c xs, y = .ref c ∧ PTup H c xs) ∨ ∃ c kvs, y = .ref c ∧ H c = some (.dK kvs)
theorem OddT.ty {K : PySem.W.Frag} {H : Hp} {y : V} (h : OddT H y) : ∃ T, isT T ∧ TyX K H y (.type T) := by
  rcases h with rfl | ⟨b, rfl⟩ | ⟨i, rfl⟩ | ⟨t, rfl⟩ | ⟨c, xs, rfl, e⟩ | ⟨c, xs, rfl, ob, e, _⟩ | ⟨c, kvs, rfl, e⟩
  · exact ⟨_, .inl rfl, .base .non⟩
  · exact ⟨_, .inr (.inr (.inl rfl)), .base (.bl b)⟩
  · exact ⟨_, .inr (.inl rfl), .base (.int i)⟩
  · exact ⟨_, .inr (.inr (.inr (.inl rfl))), .base (.str t)⟩
  · exact ⟨_, .inr (.inr (.inr (.inr (.inr (.inl rfl))))), .base (.lst e)⟩
  · exact ⟨_, .inr (.inr (.inr (.inr (.inl rfl)))), .fTuple e⟩
  · exact ⟨_, .inr (.inr (.inr (.inr (.inr (.inr rfl))))), .base (.dK e)⟩
def rEqB (C : Addr) (sp : Sp) : R2 := fun y x H Q => ∃ (a dx : Addr) (fs : List (Str × V)), x = .ref a ∧ H a = some (.ins C dx fs) ∧ OddT H y ∧ sp [x, y] H (fun v H' => ∃ b, v = .bl b ∧ Q (.bl b) H') E0
theorem op_eqB {X : Cx} {k j : Nat} {C : Addr} {sp : Sp} (M : MetE X.prog X.w X.K X.mg X.base k C sp) (hr : Room j X.A) (hk : k ≤ j) : OpR X (compareOp .Eq) (rEqB C sp) := by
  intro pins s σ H y x u v Q I ry rx h
  show wpAny (model X.prog X.w) X.A (richCompare .Eq u v) (EP X pins σ Q) X.xe s
  obtain ⟨a, dx, fs, rfl, ha, od, hsp⟩ := h
  obtain ⟨f, fd, hs, hf, F, hb⟩ := M.ex
  cases rx
  have hob := (show ObjOk X.prog X.w H s.heap a (.ins C dx fs) from I.hok a _ ha).2.2.2.1
  obtain ⟨mA, J, _⟩ := ins_get I.hok ha
  obtain ⟨od', J, _⟩ := J.look
  have sb : Sub X k X.A := ⟨hr.mono hk, rfl⟩
  have fin : wpAny (model X.prog X.w) X.A (call (.ref f) [.ref a, u]) (PySem.W.CmpBack (EP X pins σ Q)) X.xe s := by
    refine wpAny_mono (run_fnO sb F hb I (vs := [.ref a, y]) (.cons rfl (.cons ry .nil)) hsp) (fun w s' z => ?_) (fun _ _ z => z)
    obtain ⟨z, H', I', rz, b, rfl, q⟩ := z
    cases rz
    exact ⟨.bl b, H', I', rfl, q⟩
  have un := sb.room.units0
  rcases od with rfl | ⟨b, rfl⟩ | ⟨i, rfl⟩ | ⟨t, rfl⟩ | ⟨c, xs, rfl, e⟩ | ⟨c, xs, rfl, ob, e, _⟩ | ⟨c, kvs, rfl, e⟩
  · cases ry
    exact cmp_backK un I.kIn J (T := "NoneType") rfl (M.sub' (.inl rfl)) PySem.F.slot_NoneType_eq (fun Q hq => call_meets PySem.F.slot_NoneType_eq rfl PySem.F.entry_NoneType_eq (PySem.F.args_NoneType_eq_2 _ _) (none_eq_ins a) hq) hs hf fin
  · cases ry
    exact cmp_backK un I.kIn J (T := "bool") rfl (M.sub' (.inr (.inr (.inl rfl)))) PySem.F.slot_bool_eq (fun Q hq => call_meets PySem.F.slot_bool_eq rfl PySem.F.entry_int_eq (PySem.F.args_int_eq_2 _ _) (int_eq_ins _ (.inl ⟨b, rfl⟩) a C dx) ⟨hob, hq⟩) hs hf fin
  · obtain ⟨tk, rfl⟩ := ry
    exact cmp_backK un I.kIn J (T := "int") rfl (M.sub' (.inr (.inl rfl))) PySem.F.slot_int_eq (fun Q hq => call_meets PySem.F.slot_int_eq rfl PySem.F.entry_int_eq (PySem.F.args_int_eq_2 _ _) (int_eq_ins _ (.inr ⟨i, tk, rfl⟩) a C dx) ⟨hob, hq⟩) hs hf fin
  · obtain ⟨tk, rfl⟩ := ry
    exact cmp_backK un I.kIn J (T := "str") rfl (M.sub' (.inr (.inr (.inr (.inl rfl))))) PySem.F.slot_str_eq (fun Q hq => call_meets PySem.F.slot_str_eq rfl PySem.F.entry_str_eq (PySem.F.args_str_eq_2 _ _) (str_eq_ins _ _ a C dx) ⟨hob, hq⟩) hs hf fin
  · cases ry
    obtain ⟨_, its, n, _, h1⟩ := (show ObjOk X.prog X.w H s.heap c (.lst xs) from I.hok c _ e)
    have hT : s.TypeIs (.ref c) "list" := ⟨_, h1, rfl⟩
    exact cmp_backK un I.kIn J hT (M.sub' (.inr (.inr (.inr (.inr (.inr (.inl rfl))))))) PySem.F.slot_list_eq (fun Q hq => call_meets PySem.F.slot_list_eq hT PySem.F.entry_list_eq (PySem.F.args_list_eq_2 _ _) (list_eq_ins (K := X.K) c a C dx (M.sub' (.inr (.inr (.inr (.inr (.inr (.inl rfl)))))))) ⟨I.kIn, hob, hq⟩) hs hf fin
  · cases ry
    obtain ⟨its, r, ⟨o, h1, h2, _⟩, _⟩ := I.tuple (PTup.sq (K := X.K) ⟨ob, e, by assumption⟩)
    have hT : s.TypeIs (.ref c) "tuple" := ⟨_, h1, h2⟩
    exact cmp_backK un I.kIn J hT (M.sub' (.inr (.inr (.inr (.inr (.inl rfl)))))) PySem.F.slot_tuple_eq (fun Q hq => call_meets PySem.F.slot_tuple_eq hT PySem.F.entry_tuple_eq (PySem.F.args_tuple_eq_2 _ _) (tuple_eq_ins (K := X.K) c a C dx (M.sub' (.inr (.inr (.inr (.inr (.inl rfl))))))) ⟨I.kIn, hob, hq⟩) hs hf fin
  · cases ry
    obtain ⟨_, _, vs, _, dd⟩ := dk_of I.hok e
    exact cmp_backK un I.kIn J dd.typeIs (M.sub' (.inr (.inr (.inr (.inr (.inr (.inr rfl))))))) PySem.F.slot_dict_eq (fun Q hq => call_meets PySem.F.slot_dict_eq dd.typeIs PySem.F.entry_dict_eq (PySem.F.args_dict_eq_2 _ _) (dict_eq_ins (K := X.K) c a C dx (M.sub' (.inr (.inr (.inr (.inr (.inr (.inr rfl)))))))) ⟨I.kIn, dd.typeIs, hob, hq⟩) hs hf fin
end Su
/-! ### EQ3: [x] == [y], by an own == of x -/
namespace Su
open PySem PySem.Spec PyProof.Rows L2
section
open PySem.SeqAt MeetsSeq MeetsSeq2 MeetsSeq3 SeqRoads2
variable {prog : Program} {w : World} {A : Around} {R : Result → Shared → Prop}
def ListOne (s : Shared) (l : Addr) (x : Value) : Prop := ∃ n : Nat, s.heap.get? l = some { cls := .type "list", data := .seq #[x] n }
theorem loop1_end (l b : Addr) {x y : Value} {s : Shared} (hl : ListOne s l x) (hb : ListOne s b y) (fin : R (.ok (.ret (.bool true))) s) :
    wpAny (model prog w) A.in1 (Builtin.«list.__eq__.loop» ⟨[.ref l, .ref b, rawInt ((1 : Nat) : Int), rawInt 2], []⟩) (GQ.FinOf prog w A R) (fun e s' => R (.error e) s') s := by
  obtain ⟨n, hl1⟩ := hl
  obtain ⟨n2, hb1⟩ := hb
  generalize hI : (#[x] : Array Value) = its at hl1
  generalize hI2 : (#[y] : Array Value) = its2 at hb1
  obtain ⟨hp, g, d, tk, os⟩ := s
  wp_walk using AutoSeq1.wpAny_loadPart' hl1, AutoSeq1.wpAny_loadPart' hb1
  have hi1 : its[((1 : Nat) : Int).toNat]? = none := by rw [← hI]; simp
  have hi2 : its2[((1 : Nat) : Int).toNat]? = none := by rw [← hI2]; simp
  rw [hi1, hi2]
  wp_walk using AutoSeq1.wpAny_loadPart' hl1, AutoSeq1.wpAny_loadPart' hb1
  show R (.ok (.ret (.bool (its.size == its2.size)))) _
  rw [← hI, ← hI2]
  exact fin
theorem loop1 (l b : Addr) {x y : Value} {s : Shared} (hl : ListOne s l x) (hb : ListOne s b y)
    (turn : wpAny (model prog w) A.in1 (eqBool x y) (fun r s' => ListOne s' l x ∧ ListOne s' b y ∧ R (.ok (.ret (.bool r))) s') (fun e s' => R (.error e) s') s) :
    wpAny (model prog w) A.in1 (Builtin.«list.__eq__.loop» ⟨[.ref l, .ref b, rawInt ((0 : Nat) : Int), rawInt 2], []⟩) (GQ.FinOf prog w A R) (fun e s' => R (.error e) s') s := by
  obtain ⟨n, hl1⟩ := hl
  obtain ⟨n2, hb1⟩ := hb
  generalize hI : (#[x] : Array Value) = its at hl1
  generalize hI2 : (#[y] : Array Value) = its2 at hb1
  obtain ⟨hp, g, d, tk, os⟩ := s
  wp_walk using AutoSeq1.wpAny_loadPart' hl1, AutoSeq1.wpAny_loadPart' hb1
  have hi1 : its[((0 : Nat) : Int).toNat]? = some x := by rw [← hI]; simp
  have hi2 : its2[((0 : Nat) : Int).toNat]? = some y := by rw [← hI2]; simp
  have hc : (((0 : Nat) : Int) + 1) = ((1 : Nat) : Int) := by omega
  rw [hi1, hi2]
  refine wpAny_bind (wpAny_mono turn (fun r s2 h2 => ?_) fun _ _ x => x)
  obtain ⟨hl2, hb2, fin⟩ := h2
  cases r with
  | true =>
    have hrec := loop1_end (prog := prog) (w := w) (A := A) l b hl2 hb2 fin
    obtain ⟨hp2, g2, d2, tk2, os2⟩ := s2
    wp_walk
    exact ⟨plainId_quiet plain_eq_loop _, codeAny_builtin entry_eq_loop (by
      rw [Around.under_plainId plain_eq_loop _]
      exact hrec)⟩
  | false =>
    obtain ⟨n, hl3⟩ := hl2
    obtain ⟨n2, hb3⟩ := hb2
    rw [hI] at hl3
    rw [hI2] at hb3
    obtain ⟨hp2, g2, d2, tk2, os2⟩ := s2
    wp_walk using AutoSeq1.wpAny_loadPart' hl3, AutoSeq1.wpAny_loadPart' hb3
    rw [hi1, hi2]
    wp_walk
    exact fin
theorem list1_eq (l b : Addr) {x y : Value} {s : Shared} (hl : ListOne s l x) (hb : ListOne s b y)
    (turn : wpAny (model prog w) A.in1 (eqBool x y) (fun r s' => ListOne s' l x ∧ ListOne s' b y ∧ R (.ok (.ret (.bool r))) s') (fun e s' => R (.error e) s') s) :
    wpAny (model prog w) A.in1 (Builtin.«list.__eq__» ⟨[.ref l, .ref b], []⟩) (GQ.FinOf prog w A R) (fun e s' => R (.error e) s') s := by
  have hrec := loop1 (prog := prog) (w := w) (A := A) l b hl hb turn
  obtain ⟨n, hl1⟩ := hl
  obtain ⟨n2, hb1⟩ := hb
  generalize hI : (#[x] : Array Value) = its at hl1
  generalize hI2 : (#[y] : Array Value) = its2 at hb1
  have hne : ¬ (its.size != its2.size) = true := by rw [← hI, ← hI2]; simp
  obtain ⟨hp, g, d, tk, os⟩ := s
  have f3 := AutoSeq1.sub_list_list
  wp_walk using AutoSeq1.wpAny_loadPart' hl1, AutoSeq1.wpAny_loadPart' hb1
  exact ⟨plainId_quiet plain_eq_loop _, codeAny_builtin entry_eq_loop (by
    rw [Around.under_plainId plain_eq_loop _]
    exact hrec)⟩
end
def rEqL1 (K : PySem.W.Frag) (C : Addr) (sp : Sp) : R2 := fun x y H Q => ∃ (l b p q dp dq : Addr) (fs gs : List (Str × V)), x = .ref l ∧ y = .ref b ∧ H l = some (.lst [.ref p]) ∧ H b = some (.lst [.ref q]) ∧ H p = some (.ins C dp fs) ∧ H q = some (.ins C dq gs) ∧ (p = q → Q (.bl true) H) ∧
  (p ≠ q → sp [.ref p, .ref q] H (fun v H' => ∃ r, v = .bl r ∧ H' l = some (.lst [.ref p]) ∧ H' b = some (.lst [.ref q]) ∧ Q (.bl r) H') E0)
theorem lone_of {X : Cx} {pins : List (Addr × Obj)} {σ : L2.St} {H : Hp} {s : Shared} (I : Inv X pins σ H s) {l p : Addr} (h : H l = some (.lst [.ref p])) : ListOne s l (.ref p) := by
  obtain ⟨_, its, n, r, h1⟩ := (show ObjOk X.prog X.w H s.heap l (.lst [.ref p]) from I.hok l _ h)
  rw [Vals.ref1 r] at h1
  exact ⟨n, h1⟩
theorem op_eqL1 {X : Cx} {k j : Nat} {C : Addr} {sp : Sp} (M : MetE X.prog X.w X.K X.mg X.base k C sp) (hr : Room j X.A) (hk : k + 1 ≤ j) : OpR X (compareOp .Eq) (rEqL1 X.K C sp) := by
  intro pins s σ H x y v u Q I rx ry h
  show wpAny (model X.prog X.w) X.A (richCompare .Eq v u) (EP X pins σ Q) X.xe s
  obtain ⟨l, b, p, q, dp, dq, fs, gs, rfl, rfl, hl, hb, hp, hq, same, other⟩ := h
  cases rx
  cases ry
  have sb : Sub X (k + 1) X.A := ⟨hr.mono hk, rfl⟩
  have hl1 := lone_of I hl
  have hb1 := lone_of I hb
  obtain ⟨n, gl⟩ := hl1
  obtain ⟨n2, gb⟩ := hb1
  refine wpAny_richCompare_same_room (op := .Eq) ⟨_, gl, rfl⟩ ⟨_, gb, rfl⟩ PySem.F.slot_list_eq (GQ.call_here PySem.F.slot_list_eq ⟨_, gl, rfl⟩ PySem.F.entry_list_eq (PySem.F.args_list_eq_2 _ _) ?_) sb.room.units0
  refine list1_eq (R := wants (fun v s' => v ≠ .notImplemented ∧ EP X pins σ Q v s') X.xe) l b ⟨n, gl⟩ ⟨n2, gb⟩ ?_
  by_cases e : p = q
  · subst e
    exact SeqAt.EqAt.same (A := X.A.in1) (s := s) (.ref p) X.prog X.w _ _ ⟨⟨n, gl⟩, ⟨n2, gb⟩, (fun x => nomatch x), .bl true, H, I, rfl, same rfl⟩
  · refine GQ.eqBool_refG e ?_
    refine wpAny_mono (rc_eqO (Q := fun v H' => H' l = some (.lst [.ref p]) ∧ H' b = some (.lst [.ref q]) ∧ Q v H') M sb.in1 I (x := .ref p) (y := .ref q) rfl rfl ⟨p, dp, fs, rfl, hp, .inl ⟨q, dq, gs, rfl, hq⟩, ?_⟩) (fun r s' z => ?_) (fun _ _ z => z)
    · have := other e
      exact this
    · obtain ⟨rb, rfl, H', I', g1, g2, qq⟩ := z
      exact ⟨rb, rfl, lone_of I' g1, lone_of I' g2, (fun x => nomatch x), .bl rb, H', I', rfl, qq⟩
end Su
namespace Su
open PySem PySem.Spec PyProof.Rows L2
def topS (i : Nat) : Stmt := PySem.Challenge.pw_surehand_k61_called_and_ordered.main.body.getD i (.Pass ⟨0, 0, 0, 0⟩)
abbrev s_HandError : Stmt := topS 1
abbrev s_NoWeb : Stmt := topS 2
abbrev s_NoNames : Stmt := topS 3
abbrev s_is_whole : Stmt := topS 6
abbrev sIsWhole : Stmt := topS 6
abbrev s_is_room : Stmt := topS 7
abbrev sIsRoom : Stmt := topS 7
abbrev s_are_rising : Stmt := topS 8
abbrev s_are_rooms : Stmt := topS 9
abbrev s_are_tos : Stmt := topS 13
abbrev s_is_row : Stmt := topS 14
abbrev s_rooms_in : Stmt := topS 15
abbrev s_look_at_web : Stmt := topS 16
abbrev s_are_names : Stmt := topS 18
abbrev s_called : Stmt := topS 19
abbrev s_is_order : Stmt := topS 20
abbrev s_ordered : Stmt := topS 21
abbrev s_law_pool : Stmt := topS 23
abbrev sPool : Stmt := topS 23
abbrev s_law_take : Stmt := topS 24
abbrev sTake : Stmt := topS 24
abbrev s_law_picked : Stmt := topS 25
abbrev sPicked : Stmt := topS 25
abbrev s_law_tos : Stmt := topS 26
abbrev s_law_web : Stmt := topS 27
abbrev s_law_web_rooms : Stmt := topS 28
abbrev s_law_shuffled : Stmt := topS 29
abbrev s_law_names : Stmt := topS 30
abbrev s_law_called : Stmt := topS 31
abbrev s_law_ordered : Stmt := topS 32
abbrev s_law_kind : Stmt := topS 33
abbrev s_law_refused : Stmt := topS 34
abbrev s_law : Stmt := topS 35
abbrev sLaw : Stmt := topS 35
end Su
/-! ### W1G: how a row of a web is looked at, of a thing of any kind -/
namespace Su
open PySem PySem.Spec PyProof.Rows L2
structure GbW (mg : Str → Option Value) : Prop where
  last : ∃ t, mg "LAST_ROOM" = some (.int 99 t)
  rows : ∃ t, mg "MOST_ROWS" = some (.int 80 t)
  rooms : ∃ t, mg "MOST_ROOMS" = some (.int 12 t)
def wholeG : G → Bool
  | .int _ => true
  | _ => false
/-- a whole number from 0, below n -/
def inG (n : Int) : G → Bool
  | .int i => decide (0 ≤ i) && decide (i < n)
  | _ => false
def valI : G → Int
  | .int i => i
  | _ => 0
def ups (ns : List Int) : List Bool := (ns.zip (ns.drop 1)).map fun p => decide (p.1 < p.2)
def risG (n : Int) (gs : List G) : Bool := (gs.map (inG n)).all id && (ups (gs.map valI)).all id
def roomsG (lo hi : Int) : G → Bool
  | .tup gs => (decide (lo ≤ (gs.length : Int)) && decide ((gs.length : Int) ≤ hi)) && risG 100 gs
  | _ => false
def tosG (n : Int) : G → Bool
  | .tup gs => decide ((gs.length : Int) ≤ n) && risG n gs
  | _ => false
def rowG (n : Int) : G → Bool
  | .tup [x, y] => roomsG 0 6 x && tosG n y
  | _ => false
theorem ups_get {ns : List Int} {i : Nat} {a b : Int} (e1 : ns[i]? = some a) (e2 : ns[1 + i]? = some b) : (ups ns)[i]? = some (decide (a < b)) := by
  unfold ups
  have z : (ns.zip (ns.drop 1))[i]? = some (a, b) := List.getElem?_zip_eq_some.mpr ⟨e1, by rw [List.getElem?_drop]; exact e2⟩
  rw [List.getElem?_map, z]
  rfl
theorem take_one {α : Type} {l : List α} {i : Nat} {x : α} (e : l[i]? = some x) : l.take (i + 1) = l.take i ++ [x] := by
  rw [List.take_add_one, e]
  rfl
theorem ints_of_all {p : Addr} {H : Hp} {n : Int} : ∀ {vs : List V} {gs : List G}, TgL p H vs gs → (gs.map (inG n)).all id = true → vs = (gs.map valI).map V.int
  | _, _, .nil, _ => rfl
  | _, _, .cons (d := d) h t, e => by
    rw [List.map_cons, List.all_cons, Bool.and_eq_true] at e
    rw [List.map_cons, List.map_cons, ← ints_of_all t e.2]
    cases h with
    | int i => rfl
    | _ => cases e.1
def spWhole : Sp := fun vs H Q _ => ∃ (p : Addr) (v : V) (g : G), vs = [v] ∧ Tg p H v g ∧ Q (.bl (wholeG g)) H
def spRoom : Sp := fun vs H Q _ => ∃ (p : Addr) (v : V) (g : G), vs = [v] ∧ Tg p H v g ∧ Q (.bl (inG 100 g)) H
def spRising : Sp := fun vs H Q _ => ∃ (a : Addr) (ns : List Int), vs = [.ref a] ∧ T2 H a (ns.map V.int) ∧ ns.length ≤ 1000 ∧ ∀ H', Same H H' → Q (.bl ((ups ns).all id)) H'
def spRooms : Sp := fun vs H Q _ => ∃ (p : Addr) (v : V) (g : G) (lo hi : Int), vs = [v, .int lo, .int hi] ∧ Tg p H v g ∧ hi ≤ 1000 ∧ ∀ H', Same H H' → Q (.bl (roomsG lo hi g)) H'
def spTos : Sp := fun vs H Q _ => ∃ (p : Addr) (v : V) (g : G) (n : Int), vs = [v, .int n] ∧ Tg p H v g ∧ n ≤ 1000 ∧ ∀ H', Same H H' → Q (.bl (tosG n g)) H'
def spRow : Sp := fun vs H Q _ => ∃ (p : Addr) (v : V) (g : G) (n : Int), vs = [v, .int n] ∧ Tg p H v g ∧ n ≤ 1000 ∧ ∀ H', Same H H' → Q (.bl (rowG n g)) H'
theorem sc_is_whole : FnScope ["thing"] ["thing"] (defScope s_is_whole) := ⟨rfl, rfl, rfl, by decide +kernel, rfl, by decide +kernel, by decide +kernel⟩
theorem sc_is_room : FnScope ["thing"] ["thing"] (defScope s_is_room) := ⟨rfl, rfl, rfl, by decide +kernel, rfl, by decide +kernel, by decide +kernel⟩
theorem sc_are_rising : FnScope ["numbers", "one", "other"] ["numbers"] (defScope s_are_rising) := ⟨rfl, rfl, rfl, by decide +kernel, rfl, by decide +kernel, by decide +kernel⟩
theorem sc_are_rooms : FnScope ["thing", "least", "most", "room"] ["thing", "least", "most"] (defScope s_are_rooms) := ⟨rfl, rfl, rfl, by decide +kernel, rfl, by decide +kernel, by decide +kernel⟩
theorem sc_are_tos : FnScope ["thing", "rows", "to"] ["thing", "rows"] (defScope s_are_tos) := ⟨rfl, rfl, rfl, by decide +kernel, rfl, by decide +kernel, by decide +kernel⟩
theorem sc_is_row : FnScope ["thing", "rows"] ["thing", "rows"] (defScope s_is_row) := ⟨rfl, rfl, rfl, by decide +kernel, rfl, by decide +kernel, by decide +kernel⟩
section
variable {P : Program} {w : World} {K : PySem.W.Frag} {mg : Str → Option Value} {base : Heap}
theorem whole_int {p : Addr} {H : Hp} {v : V} {g : G} (h : Tg p H v g) (e : wholeG g = true) : ∃ i, v = .int i ∧ g = .int i := by
  cases h with
  | int i => exact ⟨i, rfl, rfl⟩
  | _ => cases e
theorem ok_whole (T : At K mg "is_whole" s_is_whole ["thing"]) (B : Bt mg) : Cal P w K mg base 1 "is_whole" ["thing"] spWhole := by
  refine cal_of T sc_is_whole (fun vs H Q E h => ?_) (fun f cdv A outer s H vs Q E hr h => ?_)
  · obtain ⟨p, v, g, rfl, _⟩ := h
    rfl
  · obtain ⟨p, v, g, rfl, hv, q⟩ := h
    refine ⟨_, (pss_one (ps_ret (pe_and (pe_callB call_isi (by rfl) B.isinstance (by decide +kernel) (pa_cons (pv 0) (pa_cons (pe_bltn (v := .ty "int") (u := .type "int") (by rfl) B.int (by decide +kernel) rfl) pa_nil))) (pe_one (pe_not (pe_callB call_isi (by rfl) B.isinstance (by decide +kernel) (pa_cons (pv 0) (pa_cons (pe_bltn (v := .ty "bool") (u := .type "bool") (by rfl) B.bool (by decide +kernel) rfl) pa_nil)))))))), ?_⟩
    refine ⟨_, rfl, v, .ty "int", _, _, _, rfl, .ty "int", hv.ty, kit_int g, _, rfl, iteB (fun e => ?_) (fun e => ?_)⟩
    · refine ⟨_, rfl, v, .ty "bool", _, _, _, rfl, .ty "bool", hv.ty, kit_bool g, _, rfl, ?_⟩
      rw [show (!isBool g) = wholeG g from by cases g <;> first | rfl | cases e]
      exact q
    · rw [show false = wholeG g from by cases g <;> first | rfl | cases e]
      exact q
theorem ok_room (T : At K mg "is_room" s_is_room ["thing"]) (D : GbW mg) (c_is_whole : Cal P w K mg base 1 "is_whole" ["thing"] spWhole) : Cal P w K mg base 2 "is_room" ["thing"] spRoom := by
  obtain ⟨tl, mLast⟩ := D.last
  refine cal_of T sc_is_room (fun vs H Q E h => ?_) (fun f cdv A outer s H vs Q E hr h => ?_)
  · obtain ⟨p, v, g, rfl, _⟩ := h
    rfl
  · obtain ⟨p, v, g, rfl, hv, q⟩ := h
    refine ⟨_, (pss_one (ps_ret (pe_and (pe_own c_is_whole hr (by decide) (by rfl) (pa_cons (pv 0) pa_nil)) (pe_one (pe_chain op_le op_le pe_int (pv 0) (pe_glob (v := .int 99) rfl mLast ⟨_, rfl⟩)))))), ?_⟩
    refine ⟨_, rfl, p, v, g, rfl, hv, _, rfl, iteB (fun e => ?_) (fun e => ?_)⟩
    · obtain ⟨i, rfl, rfl⟩ := whole_int hv e
      refine ⟨_, rfl, _, _, rfl, rfl, _, rfl, iteB (fun e1 => ?_) (fun e1 => ?_)⟩
      · refine ⟨_, _, rfl, rfl, ?_⟩
        have z : decide (i ≤ 99) = inG 100 (.int i) := by
          show decide (i ≤ 99) = (decide (0 ≤ i) && decide (i < 100))
          rw [e1, Bool.true_and]
          exact decide_eq_decide.mpr (by omega)
        rw [← z] at q
        exact q
      · rw [show false = inG 100 (.int i) from by show false = (decide (0 ≤ i) && decide (i < 100)); rw [e1, Bool.false_and]]
        exact q
    · rw [show false = inG 100 g from by cases g <;> first | rfl | cases e]
      exact q
theorem ok_rising (T : At K mg "are_rising" s_are_rising ["numbers"]) (B : Bt mg) : Cal P w K mg base 1 "are_rising" ["numbers"] spRising := by
  refine cal_of T sc_are_rising (fun vs H Q E h => ?_) (fun f cdv A outer s H vs Q E hr h => ?_)
  · obtain ⟨a, ns, rfl, _⟩ := h
    rfl
  · obtain ⟨a, ns, rfl, ha, hl, q⟩ := h
    refine ⟨_, (pss_one (ps_ret (pe_callB (cr_all rfl) (by rfl) B.all (by decide +kernel) (pa_cons (pe_lc (own := [("one", 1), ("other", 2)]) (g := (gTup K 2 (gCons (gName 1) (gCons (gName 2) gNil)))) (tt := tYes) (te := (tOp (rI0 fun i j => .bl (decide (i < j))) (tVar 1) (tVar 2))) (by rfl) sc_are_rising.nd (RZ.pi_zipA (by rfl) B.zip (pa_cons (pv 0) (pa_cons (pe_slice sl_tup2 (pv 0) (po_some pe_int) po_none) pa_nil))) (blkOk_by (own := [("one", 1), ("other", 2)]) (N := ["numbers", "one", "other"]) (sc := defScope s_are_rising) (by decide +kernel)) (fun _ _ _ _ _ => (pg_tup (by rfl) (pgs_cons (pg_name (i := 1) sc_are_rising.nd rfl (Or.inl rfl)) (pgs_cons (pg_name (i := 2) sc_are_rising.nd rfl (Or.inl rfl)) pgs_nil)))) (fun _ _ _ _ _ => pts_nil) (fun _ _ _ _ _ => (pe_cmpR op_lt (pv 1) (pv 2) (nomark _)))) pa_nil)))), ?_⟩
    refine ⟨_, rfl, _, rfl, 1, rfl, a, _, rfl, ha, fun b H1 s1 hb => ?_⟩
    rw [cut_tail, ← List.map_drop] at hb
    refine ⟨a, b, _, _, rfl, .inr ⟨(ha.same s1).sq, hb.sq, fun D nD => ?_⟩⟩
    refine lc_zipT (K := K) (a := a) (b := b) (xs := ns.map V.int) (ys := (ns.drop 1).map V.int) (by rw [List.length_map, List.length_map, List.length_drop]; omega) (fun i H2 => Same H H2 ∧ T2 H2 a (ns.map V.int) ∧ T2 H2 b ((ns.drop 1).map V.int) ∧ H2 D = some (.lst (((ups ns).take i).map V.bl))) ?_ ?_ ?_ ?_
    · have sD : Same H1 (upd H1 D (.lst [])) := same_upd nD
      exact ⟨s1.trans sD, (ha.same s1).same sD, hb.same sD, upd_same⟩
    · rintro i H2 _ ⟨_, h1, h2, _⟩
      exact ⟨h1.sq, h2.sq⟩
    · rintro i x y T H2 hx hy ⟨s2, h1, h2, hD⟩ nT
      have sT : Same H2 (upd H2 T (.tup [x, y])) := same_upd nT
      rw [List.getElem?_map] at hx hy
      rw [List.getElem?_drop] at hy
      obtain ⟨n1, e1, rfl⟩ := Option.map_eq_some_iff.mp hx
      obtain ⟨n2, e2, rfl⟩ := Option.map_eq_some_iff.mp hy
      have hi : i < ns.length := (List.getElem?_eq_some_iff.mp e1).1
      refine ⟨T, _, rfl, SqT.of upd_same, rfl, _, _, rfl, _, _, rfl, rfl, rfl, tyes ?_⟩
      refine ⟨_, rfl, _, rfl, _, _, rfl, rfl, ((ups ns).take i).map V.bl, sT _ _ hD, ?_, ?_⟩
      · rw [List.length_map, List.length_take]
        exact small1000 (by omega)
      · have h3 := sT _ _ hD
        have k3 := (K2.same sT).trans (K2.lst (u := .lst (((ups ns).take (i + 1)).map V.bl)) h3)
        show _ ∧ _ ∧ _ ∧ _
        rw [take_one (ups_get e1 e2), List.map_append] at k3 ⊢
        refine ⟨fun c o ec => ?_, k3 _ _ h1, k3 _ _ h2, upd_same⟩
        rw [upd_ne (ne_of_none (s1 _ _ ec) nD)]
        exact sT _ _ (s2 _ _ ec)
    · rintro H2 ⟨s2, h1, h2, hD⟩
      refine ⟨D, ups ns, rfl, ?_, ?_⟩
      · rw [List.take_of_length_le (by unfold ups; rw [List.length_map, List.length_zip, List.length_map]; omega)] at hD
        exact SqL.of hD
      · exact q H2 s2
theorem ok_rooms (T : At K mg "are_rooms" s_are_rooms ["thing", "least", "most"]) (B : Bt mg) (c_is_room : Cal P w K mg base 2 "is_room" ["thing"] spRoom) (c_are_rising : Cal P w K mg base 1 "are_rising" ["numbers"] spRising) :
    Cal P w K mg base 3 "are_rooms" ["thing", "least", "most"] spRooms := by
  refine cal_of T sc_are_rooms (fun vs H Q E h => ?_) (fun f cdv A outer s H vs Q E hr h => ?_)
  · obtain ⟨p, v, g, lo, hi, rfl, _⟩ := h
    rfl
  · obtain ⟨p, v, g, lo, hi, rfl, hv, hm, q⟩ := h
    refine ⟨_, (pss_cons (ps_if (PW.pt (pw_or (pt_not (pt_val (pe_callB call_isi (by rfl) B.isinstance (by decide +kernel) (pa_cons (pv 0) (pa_cons (pe_bltn (v := .ty "tuple") (u := .type "tuple") (by rfl) B.tuple (by decide +kernel) rfl) pa_nil))))) (pw_or1 (pt_not (pt_chain op_le op_le (pv 1) (pe_callB call_len_seq (by rfl) B.len PySem.boot_len (pa_cons (pv 0) pa_nil)) (pv 2)))))) (pss_one (ps_ret pe_bl)) pss_nil)
      (pss_one (ps_ret (pe_and (pe_callB (cr_all rfl) (by rfl) B.all (by decide +kernel) (pa_cons (pe_lc (own := [("room", 3)]) (g := (gName 3)) (tt := tYes) (te := (tCall spRoom [] E0 (tCons (tVar 3) tNil))) (by rfl) sc_are_rooms.nd (pi_tup (pv 0)) (blkOk_by (own := [("room", 3)]) (N := ["thing", "least", "most", "room"]) (sc := defScope s_are_rooms) (by decide +kernel)) (fun _ _ _ _ _ => (pg_name (i := 3) sc_are_rooms.nd rfl (Or.inl rfl))) (fun _ _ _ _ _ => pts_nil) (fun _ _ _ _ _ => (pe_own c_is_room hr (by decide) (by rfl) (pa_cons (pv 3) pa_nil)))) pa_nil)) (pe_one (pe_own c_are_rising hr (by decide) (by rfl) (pa_cons (pv 0) pa_nil))))))), ?_⟩
    refine ⟨_, rfl, v, .ty "tuple", _, _, _, rfl, .ty "tuple", hv.ty, kit_tuple g, _, rfl, iteB (fun e => ?_) (fun e => ?_)⟩
    · refine iteT ?_
      rw [show false = roomsG lo hi g from by cases g <;> first | rfl | cases e]
      exact q H (Same.refl H)
    cases hv with
    | @tup a vs gs ha t =>
      have hlen : vs.length = gs.length := t.len
      refine ⟨_, rfl, _, rfl, a, _, rfl, .inr ha.sq, _, _, rfl, rfl, _, rfl, iteB (fun e1 => ?_) (fun e1 => ?_)⟩
      · refine ⟨_, rfl, _, _, rfl, rfl, _, rfl, ?_⟩
        rw [hlen] at e1 ⊢
        refine iteB (fun e2 => ?_) (fun e2 => ?_)
        · have e3 : decide ((gs.length : Int) ≤ hi) = false := by simpa using e2
          have z : false = roomsG lo hi (.tup gs) := by
            show false = ((decide (lo ≤ (gs.length : Int)) && decide ((gs.length : Int) ≤ hi)) && risG 100 gs)
            rw [e3, Bool.and_false, Bool.false_and]
          rw [z]
          exact q H (Same.refl H)
        · have e3 : decide ((gs.length : Int) ≤ hi) = true := by simpa using e2
          have small : gs.length ≤ 1000 := by
            have := of_decide_eq_true e3
            omega
          have z : roomsG lo hi (.tup gs) = risG 100 gs := by
            show ((decide (lo ≤ (gs.length : Int)) && decide ((gs.length : Int) ≤ hi)) && risG 100 gs) = _
            rw [e1, e3, Bool.true_and, Bool.true_and]
          refine ⟨_, rfl, a, rfl, ⟨_, ha.sq⟩, fun D nD => ?_⟩
          refine lc_tup (K := K) (a := a) (xs := vs) (fun i H2 => Same H H2 ∧ T2 H2 a vs ∧ H2 D = some (.lst (((gs.map (inG 100)).take i).map V.bl))) ?_ ?_ ?_ ?_
          · have sD : Same H (upd H D (.lst [])) := same_upd nD
            exact ⟨sD, ha.same sD, upd_same⟩
          · rintro i H2 _ ⟨_, h3, _⟩
            exact h3.sq
          · rintro i x H2 hx ⟨s2, h3, hD⟩
            obtain ⟨g1, e4, tg⟩ := t.get hx
            have hi : i < gs.length := (List.getElem?_eq_some_iff.mp e4).1
            refine ⟨rfl, tyes ?_⟩
            refine ⟨_, rfl, p, x, g1, rfl, tg.keep (Keeps.same s2), ((gs.map (inG 100)).take i).map V.bl, hD, (by rw [List.length_map, List.length_take, List.length_map]; exact small1000 (by omega)), ?_⟩
            rw [take_one (x := inG 100 g1) (by rw [List.getElem?_map, e4]; rfl), List.map_append]
            refine ⟨fun c o ec => ?_, K2.lst hD _ _ h3, upd_same⟩
            rw [upd_ne (ne_of_none ec nD)]
            exact s2 _ _ ec
          · rintro H2 ⟨s2, h3, hD⟩
            rw [List.take_of_length_le (by rw [List.length_map]; omega)] at hD
            refine ⟨D, gs.map (inG 100), rfl, SqL.of hD, _, rfl, iteB (fun e5 => ?_) (fun e5 => ?_)⟩
            · rw [ints_of_all t e5] at h3
              refine ⟨_, rfl, a, _, rfl, h3, (by rw [List.length_map]; exact small), fun H3 s3 => ?_⟩
              have q3 := q H3 (s2.trans s3)
              rw [z] at q3
              unfold risG at q3
              rw [e5, Bool.true_and] at q3
              exact q3
            · have q3 := q H2 s2
              rw [z] at q3
              unfold risG at q3
              rw [e5, Bool.false_and] at q3
              exact q3
      · refine ⟨_, rfl, iteT ?_⟩
        rw [hlen] at e1
        have z : false = roomsG lo hi (.tup gs) := by
          show false = ((decide (lo ≤ (gs.length : Int)) && decide ((gs.length : Int) ≤ hi)) && risG 100 gs)
          rw [e1, Bool.false_and, Bool.false_and]
        rw [z]
        exact q H (Same.refl H)
    | _ => cases e
theorem ok_tos (T : At K mg "are_tos" s_are_tos ["thing", "rows"]) (B : Bt mg) (c_is_whole : Cal P w K mg base 1 "is_whole" ["thing"] spWhole) (c_are_rising : Cal P w K mg base 1 "are_rising" ["numbers"] spRising) :
    Cal P w K mg base 2 "are_tos" ["thing", "rows"] spTos := by
  refine cal_of T sc_are_tos (fun vs H Q E h => ?_) (fun f cdv A outer s H vs Q E hr h => ?_)
  · obtain ⟨p, v, g, n, rfl, _⟩ := h
    rfl
  · obtain ⟨p, v, g, n, rfl, hv, hm, q⟩ := h
    refine ⟨_, (pss_cons (ps_if (PW.pt (pw_or (pt_not (pt_val (pe_callB call_isi (by rfl) B.isinstance (by decide +kernel) (pa_cons (pv 0) (pa_cons (pe_bltn (v := .ty "tuple") (u := .type "tuple") (by rfl) B.tuple (by decide +kernel) rfl) pa_nil))))) (pw_or1 (pt_cmpR op_gt (pe_callB call_len_seq (by rfl) B.len PySem.boot_len (pa_cons (pv 0) pa_nil)) (pv 1) (nomark _))))) (pss_one (ps_ret pe_bl)) pss_nil)
      (pss_one (ps_ret (pe_and (pe_callB (cr_all rfl) (by rfl) B.all (by decide +kernel) (pa_cons (pe_lc (own := [("to", 2)]) (g := (gName 2)) (tt := tYes) (te := (tAndV (tCall spWhole [] E0 (tCons (tVar 2) tNil)) (tChain (rI0 fun i j => .bl (decide (i ≤ j))) (rI0 fun i j => .bl (decide (i < j))) (tC (.int 0)) (tVar 2) (tVar 1)))) (by rfl) sc_are_tos.nd (pi_tup (pv 0)) (blkOk_by (own := [("to", 2)]) (N := ["thing", "rows", "to"]) (sc := defScope s_are_tos) (by decide +kernel)) (fun _ _ _ _ _ => (pg_name (i := 2) sc_are_tos.nd rfl (Or.inl rfl))) (fun _ _ _ _ _ => pts_nil) (fun _ _ _ _ _ => (pe_and (pe_own c_is_whole hr (by decide) (by rfl) (pa_cons (pv 2) pa_nil)) (pe_one (pe_chain op_le op_lt pe_int (pv 2) (pv 1)))))) pa_nil)) (pe_one (pe_own c_are_rising hr (by decide) (by rfl) (pa_cons (pv 0) pa_nil))))))), ?_⟩
    refine ⟨_, rfl, v, .ty "tuple", _, _, _, rfl, .ty "tuple", hv.ty, kit_tuple g, _, rfl, iteB (fun e => ?_) (fun e => ?_)⟩
    · refine iteT ?_
      rw [show false = tosG n g from by cases g <;> first | rfl | cases e]
      exact q H (Same.refl H)
    cases hv with
    | @tup a vs gs ha t =>
      have hlen : vs.length = gs.length := t.len
      refine ⟨_, rfl, a, _, rfl, .inr ha.sq, _, rfl, _, _, rfl, rfl, _, rfl, ?_⟩
      rw [hlen]
      refine iteB (fun e1 => ?_) (fun e1 => ?_)
      · have e3 : decide ((gs.length : Int) ≤ n) = false := decide_eq_false (by have := of_decide_eq_true e1; omega)
        have z : false = tosG n (.tup gs) := by
          show false = (decide ((gs.length : Int) ≤ n) && risG n gs)
          rw [e3, Bool.false_and]
        rw [z]
        exact q H (Same.refl H)
      · have e3 : decide ((gs.length : Int) ≤ n) = true := decide_eq_true (by have := of_decide_eq_false e1; omega)
        have small : gs.length ≤ 1000 := by
          have := of_decide_eq_true e3
          omega
        have z : tosG n (.tup gs) = risG n gs := by
          show (decide ((gs.length : Int) ≤ n) && risG n gs) = _
          rw [e3, Bool.true_and]
        refine ⟨_, rfl, a, rfl, ⟨_, ha.sq⟩, fun D nD => ?_⟩
        refine lc_tup (K := K) (a := a) (xs := vs) (fun i H2 => Same H H2 ∧ T2 H2 a vs ∧ H2 D = some (.lst (((gs.map (inG n)).take i).map V.bl))) ?_ ?_ ?_ ?_
        · have sD : Same H (upd H D (.lst [])) := same_upd nD
          exact ⟨sD, ha.same sD, upd_same⟩
        · rintro i H2 _ ⟨_, h3, _⟩
          exact h3.sq
        · rintro i x H2 hx ⟨s2, h3, hD⟩
          obtain ⟨g1, e4, tg⟩ := t.get hx
          have hi : i < gs.length := (List.getElem?_eq_some_iff.mp e4).1
          have fin : ∀ b : Bool, b = inG n g1 → ∃ acc, H2 D = some (.lst acc) ∧ acc.length < sizeLine ∧ (Same H (upd H2 D (.lst (acc ++ [V.bl b]))) ∧ T2 (upd H2 D (.lst (acc ++ [V.bl b]))) a vs ∧ (upd H2 D (.lst (acc ++ [V.bl b]))) D = some (.lst (((gs.map (inG n)).take (i + 1)).map V.bl))) := by
            rintro b rfl
            refine ⟨((gs.map (inG n)).take i).map V.bl, hD, (by rw [List.length_map, List.length_take, List.length_map]; exact small1000 (by omega)), ?_⟩
            rw [take_one (x := inG n g1) (by rw [List.getElem?_map, e4]; rfl), List.map_append]
            refine ⟨fun c o ec => ?_, K2.lst hD _ _ h3, upd_same⟩
            rw [upd_ne (ne_of_none ec nD)]
            exact s2 _ _ ec
          refine ⟨rfl, tyes ?_⟩
          refine ⟨_, rfl, p, x, g1, rfl, tg.keep (Keeps.same s2), _, rfl, iteB (fun e5 => ?_) (fun e5 => ?_)⟩
          · obtain ⟨j, rfl, rfl⟩ := whole_int tg e5
            refine ⟨_, rfl, _, _, rfl, rfl, _, rfl, iteB (fun e6 => ?_) (fun e6 => ?_)⟩
            · refine ⟨_, rfl, _, _, rfl, rfl, fin _ ?_⟩
              show decide (j < n) = (decide (0 ≤ j) && decide (j < n))
              rw [e6, Bool.true_and]
            · refine fin _ ?_
              show false = (decide (0 ≤ j) && decide (j < n))
              rw [e6, Bool.false_and]
          · refine fin _ ?_
            cases g1 <;> first | rfl | cases e5
        · rintro H2 ⟨s2, h3, hD⟩
          rw [List.take_of_length_le (by rw [List.length_map]; omega)] at hD
          refine ⟨D, gs.map (inG n), rfl, SqL.of hD, _, rfl, iteB (fun e5 => ?_) (fun e5 => ?_)⟩
          · rw [ints_of_all t e5] at h3
            refine ⟨_, rfl, a, _, rfl, h3, (by rw [List.length_map]; exact small), fun H3 s3 => ?_⟩
            have q3 := q H3 (s2.trans s3)
            rw [z] at q3
            unfold risG at q3
            rw [e5, Bool.true_and] at q3
            exact q3
          · have q3 := q H2 s2
            rw [z] at q3
            unfold risG at q3
            rw [e5, Bool.false_and] at q3
            exact q3
    | _ => cases e
theorem ok_row (T : At K mg "is_row" s_is_row ["thing", "rows"]) (B : Bt mg) (c_are_rooms : Cal P w K mg base 3 "are_rooms" ["thing", "least", "most"] spRooms) (c_are_tos : Cal P w K mg base 2 "are_tos" ["thing", "rows"] spTos) :
    Cal P w K mg base 4 "is_row" ["thing", "rows"] spRow := by
  refine cal_of T sc_is_row (fun vs H Q E h => ?_) (fun f cdv A outer s H vs Q E hr h => ?_)
  · obtain ⟨p, v, g, n, rfl, _⟩ := h
    rfl
  · obtain ⟨p, v, g, n, rfl, hv, hm, q⟩ := h
    refine ⟨_, (pss_cons (ps_if (PW.pt (pw_or (pt_not (pt_val (pe_callB call_isi (by rfl) B.isinstance (by decide +kernel) (pa_cons (pv 0) (pa_cons (pe_bltn (v := .ty "tuple") (u := .type "tuple") (by rfl) B.tuple (by decide +kernel) rfl) pa_nil))))) (pw_or1 (pt_cmpR op_ne (pe_callB call_len_seq (by rfl) B.len PySem.boot_len (pa_cons (pv 0) pa_nil)) pe_int (nomark _))))) (pss_one (ps_ret pe_bl)) pss_nil)
      (pss_one (ps_ret (pe_and (pe_own c_are_rooms hr (by decide) (by rfl) (pa_cons (pe_ix ix_tup (pv 0) pe_int (fun _ _ => rfl)) (pa_cons pe_int (pa_cons pe_int pa_nil)))) (pe_one (pe_own c_are_tos hr (by decide) (by rfl) (pa_cons (pe_ix ix_tup (pv 0) pe_int (fun _ _ => rfl)) (pa_cons (pv 1) pa_nil)))))))), ?_⟩
    refine ⟨_, rfl, v, .ty "tuple", _, _, _, rfl, .ty "tuple", hv.ty, kit_tuple g, _, rfl, iteB (fun e => ?_) (fun e => ?_)⟩
    · refine iteT ?_
      rw [show false = rowG n g from by cases g <;> first | rfl | cases e]
      exact q H (Same.refl H)
    cases hv with
    | @tup a vs gs ha t =>
      have hlen : vs.length = gs.length := t.len
      refine ⟨_, rfl, a, _, rfl, .inr ha.sq, rfl, _, rfl, ?_⟩
      match gs, vs, t, hlen, ha, q with
      | [], [], _, _, _, q => exact iteT (q H (Same.refl H))
      | [_], [_], _, _, _, q => exact iteT (q H (Same.refl H))
      | _ :: _ :: _ :: _, _ :: _ :: _ :: _, _, _, _, q =>
        refine iteB (fun _ => q H (Same.refl H)) (fun z => ?_)
        simp at z
        omega
      | [x, y], [v1, v2], .cons tx (.cons ty _), _, ha, q =>
        refine iteNS rfl ?_
        refine ⟨_, rfl, _, _, _, _, rfl, rfl, ha.sq, atI_nat (j := 0) rfl, p, v1, x, 0, 6, rfl, tx, by decide, fun H1 s1 => ?_⟩
        refine ⟨_, rfl, iteB (fun e5 => ?_) (fun e5 => ?_)⟩
        · refine ⟨_, rfl, _, _, _, _, rfl, rfl, (ha.same s1).sq, atI_nat (j := 1) rfl, _, rfl, p, v2, y, n, rfl, ty.keep (Keeps.same s1), hm, fun H2 s2 => ?_⟩
          have q3 := q H2 (s1.trans s2)
          rw [show rowG n (.tup [x, y]) = (roomsG 0 6 x && tosG n y) from rfl, e5, Bool.true_and] at q3
          exact q3
        · have q3 := q H1 s1
          rw [show rowG n (.tup [x, y]) = (roomsG 0 6 x && tosG n y) from rfl, e5, Bool.false_and] at q3
          exact q3
    | _ => cases e
end
end Su
/-! ### W2G: the rooms of a web; how a thing of any kind is looked at as a web -/
namespace Su
open PySem PySem.Spec PyProof.Rows L2
def spRoomsIn (w : World) : Sp := fun vs H Q _ => ∃ (p : Addr) (rs : List Rw) (A : List Int), vs = [.ref p] ∧ WebAt H p rs ∧ A.length < 1000 ∧ (∀ k ∈ allRooms rs, k ∈ A) ∧
  ∀ (ms : List Int) (u : Addr) (H' : Hp), ms.Pairwise (· < ·) → (∀ k : Int, k ∈ ms ↔ k ∈ allRooms rs) → Same H H' → H u = none → H' u = some (.lst (ms.map V.int)) → Q (.ref u) H'
def rwOf : G → Rw
  | .tup [.tup rs, .tup ts] => (rs.map valI, ts.map valI)
  | _ => ([], [])
/-- the first that is not so -/
def badAt (f : G → Bool) : List G → Option Nat
  | [] => none
  | g :: gs => if f g = true then (badAt f gs).map (· + 1) else some 0
/-- the rooms, each once -/
def oneEach : List Int → List Int
  | [] => []
  | a :: l => if a ∈ oneEach l then oneEach l else a :: oneEach l
theorem oneEach_mem (k : Int) : ∀ l : List Int, k ∈ oneEach l ↔ k ∈ l
  | [] => Iff.rfl
  | a :: l => by
    unfold oneEach
    by_cases h : a ∈ oneEach l
    · rw [if_pos h, oneEach_mem k l, List.mem_cons]
      constructor
      · exact .inr
      · rintro (rfl | z)
        · exact (oneEach_mem k l).mp h
        · exact z
    · rw [if_neg h, List.mem_cons, List.mem_cons, oneEach_mem k l]
theorem oneEach_nodup : ∀ l : List Int, (oneEach l).Nodup
  | [] => List.nodup_nil
  | a :: l => by
    unfold oneEach
    by_cases h : a ∈ oneEach l
    · rw [if_pos h]
      exact oneEach_nodup l
    · rw [if_neg h]
      exact List.nodup_cons.mpr ⟨h, oneEach_nodup l⟩
theorem len_same {a b : List Int} (na : a.Nodup) (nb : b.Nodup) (h : ∀ k, k ∈ a ↔ k ∈ b) : a.length = b.length :=
  Nat.le_antisymm (nodup_few na fun k hk => (h k).mp hk) (nodup_few nb fun k hk => (h k).mpr hk)
theorem badAt_none {f : G → Bool} : ∀ {gs : List G}, (∀ g ∈ gs, f g = true) → badAt f gs = none
  | [], _ => rfl
  | g :: gs, h => by
    unfold badAt
    rw [if_pos (h g List.mem_cons_self), badAt_none fun x hx => h x (List.mem_cons_of_mem _ hx)]
    rfl
theorem badAt_some {f : G → Bool} : ∀ {gs : List G} {i : Nat} {g : G}, (∀ (j : Nat) (x : G), j < i → gs[j]? = some x → f x = true) → gs[i]? = some g → f g = false → badAt f gs = some i
  | [], _, _, _, e, _ => by simp at e
  | x :: gs, 0, g, _, e, b => by
    obtain rfl := (by simpa using e : x = g)
    unfold badAt
    rw [if_neg (by rw [b]; exact Bool.false_ne_true)]
  | x :: gs, i + 1, g, h, e, b => by
    unfold badAt
    rw [if_pos (h 0 x (Nat.succ_pos _) rfl), badAt_some (gs := gs) (i := i) (fun j y hj ey => h (j + 1) y (Nat.succ_lt_succ hj) (by simpa using ey)) (by simpa using e) b]
    rfl
theorem inG_val {n : Int} {g : G} (h : inG n g = true) : 0 ≤ valI g ∧ valI g < n := by
  cases g with
  | int i =>
    have z : (decide (0 ≤ i) && decide (i < n)) = true := h
    rw [Bool.and_eq_true, decide_eq_true_eq, decide_eq_true_eq] at z
    exact z
  | _ => cases h
theorem rowG_shape {n : Int} {g : G} (e : rowG n g = true) : ∃ x y, g = .tup [x, y] ∧ roomsG 0 6 x = true ∧ tosG n y = true := by
  unfold rowG at e
  split at e
  · rw [Bool.and_eq_true] at e
    exact ⟨_, _, rfl, e.1, e.2⟩
  · cases e
theorem roomsG_shape {lo hi : Int} {g : G} (e : roomsG lo hi g = true) : ∃ rs, g = .tup rs ∧ risG 100 rs = true := by
  unfold roomsG at e
  split at e
  · rw [Bool.and_eq_true] at e
    exact ⟨_, rfl, e.2⟩
  · cases e
theorem tosG_shape {n : Int} {g : G} (e : tosG n g = true) : ∃ rs, g = .tup rs ∧ risG n rs = true := by
  unfold tosG at e
  split at e
  · rw [Bool.and_eq_true] at e
    exact ⟨_, rfl, e.2⟩
  · cases e
theorem tup_at {p : Addr} {H : Hp} {v : V} {gs : List G} {n : Int} (h : Tg p H v (.tup gs)) (e : risG n gs = true) : ∃ a, v = .ref a ∧ T2 H a ((gs.map valI).map V.int) ∧ ∀ k ∈ gs.map valI, 0 ≤ k ∧ k < n := by
  unfold risG at e
  rw [Bool.and_eq_true] at e
  cases h with
  | @tup a vs _ ha t =>
    rw [ints_of_all t e.1] at ha
    refine ⟨a, rfl, ha, fun k hk => ?_⟩
    obtain ⟨gk, hg, rfl⟩ := List.mem_map.mp hk
    exact inG_val ((List.all_eq_true.mp e.1) _ (List.mem_map.mpr ⟨gk, hg, rfl⟩))
theorem rowG_at {p : Addr} {H : Hp} {v : V} {g : G} {n : Int} (h : Tg p H v g) (e : rowG n g = true) : RowAt H v (rwOf g) ∧ ∀ k ∈ (rwOf g).1, 0 ≤ k ∧ k < 100 := by
  obtain ⟨x, y, rfl, ex, ey⟩ := rowG_shape e
  obtain ⟨rs, rfl, e1⟩ := roomsG_shape ex
  obtain ⟨ts, rfl, e2⟩ := tosG_shape ey
  cases h with
  | @tup a vs _ ha t =>
    cases t with
    | cons tx t1 =>
      cases t1 with
      | cons ty t2 =>
        cases t2
        obtain ⟨b, rfl, hb, kb⟩ := tup_at tx e1
        obtain ⟨c, rfl, hc, _⟩ := tup_at ty e2
        exact ⟨⟨a, b, c, rfl, ha, hb, hc⟩, kb⟩
theorem rows_at {p : Addr} {H : Hp} {n : Int} : ∀ {vs : List V} {gs : List G}, TgL p H vs gs → (∀ g ∈ gs, rowG n g = true) → RowsAt H vs (gs.map rwOf) ∧ ∀ k ∈ allRooms (gs.map rwOf), 0 ≤ k ∧ k < 100
  | _, _, .nil, _ => ⟨trivial, fun k hk => by cases hk⟩
  | _, _, .cons (d := d) (ds := ds) h t, e => by
    obtain ⟨a1, a2⟩ := rowG_at h (e d List.mem_cons_self)
    obtain ⟨b1, b2⟩ := rows_at t fun g hg => e g (List.mem_cons_of_mem _ hg)
    refine ⟨⟨a1, b1⟩, fun k hk => ?_⟩
    rcases List.mem_append.mp (show k ∈ (rwOf d).1 ++ allRooms (ds.map rwOf) from hk) with z | z
    · exact a2 k z
    · exact b2 k z
/-- none: a web; some r: it is refused, its row r -/
def lookG : G → Option (Option Nat)
  | .lst gs => if 1 ≤ gs.length ∧ gs.length ≤ 80 then (match badAt (rowG gs.length) gs with
    | some i => some (some i)
    | none => if 12 < (oneEach (allRooms (gs.map rwOf))).length then some none else none) else some none
  | _ => some none
def rowV : Option Nat → V
  | none => .non
  | some i => .int i
def spLook (C : Addr) : Sp := fun vs H Q E => ∃ (p : Addr) (v : V) (g : G), vs = [v] ∧ Tg p H v g ∧ (lookG g = none → ∀ H', Same H H' → Q .non H') ∧
  ∀ r, lookG g = some r → ∀ (H' : Hp) (d : Addr), Same H H' → H d = none → H' d = some (.xd [("row", rowV r)]) → E (.ref C) (some d) H'
theorem allRooms_app (a b : List Rw) : allRooms (a ++ b) = allRooms a ++ allRooms b := by
  unfold allRooms
  rw [List.map_append, List.flatten_append]
theorem allRooms_take {rs : List Rw} {i : Nat} {r : Rw} (h : rs[i]? = some r) : allRooms (rs.take (i + 1)) = allRooms (rs.take i) ++ r.1 := by
  rw [List.take_add_one, h, allRooms_app]
  show _ ++ (r.1 ++ []) = _
  rw [List.append_nil]
theorem allRooms_sub {rs : List Rw} {i : Nat} {k : Int} (h : k ∈ allRooms (rs.take i)) : k ∈ allRooms rs := by
  rw [← List.take_append_drop i rs, allRooms_app]
  exact List.mem_append_left _ h
theorem sc_rooms_in : FnScope ["rows", "rooms", "tos", "room"] ["rows"] (defScope s_rooms_in) := ⟨rfl, rfl, rfl, by decide +kernel, rfl, by decide +kernel, by decide +kernel⟩
theorem sc_look_at_web : FnScope ["thing", "number", "row"] ["thing"] (defScope s_look_at_web) := ⟨rfl, rfl, rfl, by decide +kernel, rfl, by decide +kernel, by decide +kernel⟩
section
variable {P : Program} {w : World} {K : PySem.W.Frag} {mg : Str → Option Value} {base : Heap}
theorem ok_rooms_in (T : At K mg "rooms_in" s_rooms_in ["rows"]) (B : Bt mg) : Cal P w K mg base 1 "rooms_in" ["rows"] (spRoomsIn w) := by
  refine cal_of T sc_rooms_in (fun vs H Q E h => ?_) (fun f cdv A outer s H vs Q E hr h => ?_)
  · obtain ⟨p, rs, A, rfl, _⟩ := h
    rfl
  · obtain ⟨p, rs, A, rfl, ⟨ws, hp, hrs⟩, hA, hin, q⟩ := h
    refine ⟨_, (pss_one (ps_ret (pe_callB (cr_sortedS rfl) (by rfl) B.sorted (by decide +kernel) (pa_cons (pe_sc2 (own := [("rooms", 1), ("tos", 2), ("room", 3)]) (vs1 := [3]) (go := (gTup K 2 (gCons (gName 1) (gCons (gName 2) gNil)))) (wn := iTup K (tVar 1)) (gn := (gName 3)) (te := (tVar 3)) (by rfl) sc_rooms_in.nd (pi_list (pv 0)) (blkOk_by (own := [("rooms", 1), ("tos", 2), ("room", 3)]) (N := ["rows", "rooms", "tos", "room"]) (sc := defScope s_rooms_in) (by decide +kernel)) (by decide) (fun _ _ _ _ _ => (pg_tup (by rfl) (pgs_cons (pg_name (i := 1) sc_rooms_in.nd rfl (Or.inl rfl)) (pgs_cons (pg_name (i := 2) sc_rooms_in.nd rfl (Or.inl rfl)) pgs_nil)))) (fun _ _ _ _ _ => (pi_tup (pv 1))) (fun _ _ _ _ _ => (pg_name (i := 3) sc_rooms_in.nd rfl (Or.inl rfl))) (fun _ _ _ _ _ => (pv 3))) pa_nil)))), ?_⟩
    have hwl := hrs.len
    refine ⟨_, rfl, p, rfl, ⟨_, SqL.of hp⟩, fun D nD => ?_⟩
    refine ⟨fun i m H2 => m = ws.length - i ∧ i ≤ ws.length ∧ Same H H2 ∧ SetIs w H2 D (allRooms (rs.take i)), ⟨ws.length, (Nat.sub_zero _).symm, Nat.zero_le _, same_upd nD, ⟨_, 0, [], upd_same, List.nodup_nil, rfl, fun k => by simp, fun k => by simp [allRooms]⟩⟩, ?_⟩
    rintro i m H2 ⟨rfl, hi, s2, set2⟩
    by_cases hlt : i < ws.length
    · have hx : ws[i]? = some ws[i] := List.getElem?_eq_getElem hlt
      obtain ⟨r, er, a, b, c, ea, ha, hb, hc⟩ := hrs.get hx
      refine .inr ⟨⟨ws, ws[i], SqL.of (s2 _ _ hp), hx⟩, fun H3 => Same H H3 ∧ SetIs w H3 D (allRooms (rs.take (i + 1))), fun H' h => ⟨ws.length - (i + 1), by omega, rfl, hlt, h⟩, fun x H' y => ?_⟩
      obtain ⟨e1, y⟩ := y
      have ex : x = .ref a := by
        have z := y ws (SqL.of (s2 _ _ hp))
        rw [hx] at z
        injection z with z
        rw [← z, ea]
      rw [e1]
      clear e1 y
      subst ex
      refine ⟨a, _, rfl, (ha.same s2).sq, rfl, _, _, rfl, _, _, rfl, rfl, rfl, ?_⟩
      refine ⟨_, rfl, b, rfl, ⟨_, (hb.same s2).sq⟩, ?_⟩
      refine ⟨fun j k H3 => k = r.1.length - j ∧ j ≤ r.1.length ∧ Same H H3 ∧ SetIs w H3 D (allRooms (rs.take i) ++ r.1.take j), ⟨r.1.length, (Nat.sub_zero _).symm, Nat.zero_le _, s2, by rw [List.take_zero, List.append_nil]; exact set2⟩, ?_⟩
      rintro j k H3 ⟨rfl, hj, s3, set3⟩
      by_cases hjt : j < r.1.length
      · have hy : (r.1.map V.int)[j]? = some (V.int r.1[j]) := by
          rw [List.getElem?_map, List.getElem?_eq_getElem hjt]
          rfl
        refine .inr ⟨⟨_, _, (hb.same s3).sq, hy⟩, fun H4 => Same H H4 ∧ SetIs w H4 D (allRooms (rs.take i) ++ r.1.take (j + 1)), fun H' h => ⟨r.1.length - (j + 1), by omega, rfl, hjt, h⟩, fun y H' yl => ?_⟩
        obtain ⟨e2, yl⟩ := yl
        have ey : y = .int r.1[j] := by
          have z := yl _ (hb.same s3).sq
          rw [hy] at z
          injection z with z
          exact z.symm
        rw [e2]
        clear e2 yl
        subst ey
        refine ⟨rfl, _, rfl, ?_⟩
        have sub3 : ∀ k ∈ allRooms (rs.take i) ++ r.1.take j, k ∈ A := by
          intro k hk
          rcases List.mem_append.mp hk with z | z
          · exact hin k (allRooms_sub z)
          · refine hin k (allRooms_sub (i := i + 1) ?_)
            rw [allRooms_take er]
            exact List.mem_append_right _ (List.mem_of_mem_take z)
        obtain ⟨S, n, eD, few, nx⟩ := set3.add (A := A) (by omega) sub3 r.1[j]
        refine ⟨_, S, n, rfl, eD, few, fun c o ec => ?_, ?_⟩
        · rw [upd_ne (ne_of_none ec nD)]
          exact s3 _ _ ec
        · rw [List.take_add_one, List.getElem?_eq_getElem hjt, ← List.append_assoc]
          exact nx _ upd_same
      · have e : j = r.1.length := by omega
        subst e
        rw [List.take_length] at set3
        refine .inl ⟨⟨_, (hb.same s3).sq, by rw [List.length_map]; exact Nat.le_refl _⟩, s3, ?_⟩
        rw [allRooms_take er]
        exact set3
    · have e : i = ws.length := by omega
      subst e
      rw [hwl, List.take_length] at set2
      refine .inl ⟨⟨ws, SqL.of (s2 _ _ hp), Nat.le_refl _⟩, ?_⟩
      refine ⟨D, _, rfl, set2, fun ms u pw mem nu => ?_⟩
      exact q ms u _ pw mem (s2.trans (same_upd nu)) (s2.free nu) upd_same
theorem ok_look {C fI : Addr} {newId initId : String} {bmB : List Value} (OW : XC.Own P K mg "NoWeb" "row" C fI "ValueError" newId initId bmB) (T : At K mg "look_at_web" s_look_at_web ["thing"]) (B : Bt mg) (D : GbW mg) (c_is_row : Cal P w K mg base 4 "is_row" ["thing", "rows"] spRow) (c_rooms_in : Cal P w K mg base 1 "rooms_in" ["rows"] (spRoomsIn w)) :
    CalX P w K mg base 5 "look_at_web" ["thing"] (spLook C) := by
  obtain ⟨tr, mRows⟩ := D.rows
  obtain ⟨tm, mRooms⟩ := D.rooms
  refine cal_ofX T sc_look_at_web (fun vs H Q E h => ?_) (fun f cdv A outer s H vs Q E hr h => ?_)
  · obtain ⟨p, v, g, rfl, _⟩ := h
    rfl
  · obtain ⟨p, v, g, rfl, hv, qy, qn⟩ := h
    refine ⟨_, (pss_cons (ps_if (PW.pt (pw_or (pt_not (pt_val (pe_callB call_isi (by rfl) B.isinstance (by decide +kernel) (pa_cons (pv 0) (pa_cons (pe_bltn (v := .ty "list") (u := .type "list") (by rfl) B.list (by decide +kernel) rfl) pa_nil))))) (pw_or1 (pt_not (pt_chain op_le op_le pe_int (pe_callB call_len_seq (by rfl) B.len PySem.boot_len (pa_cons (pv 0) pa_nil)) (pe_glob (v := .int 80) rfl mRows ⟨_, rfl⟩)))))) (pss_one (ps_raiseX rfl OW hr (takes_of rfl rfl rfl rfl) (pa_cons pe_non pa_nil))) pss_nil)
      (pss_cons (ps_for (passes_of rfl) rfl (pi_enum (by rfl) B.enumerate (pa_cons (pv 0) pa_nil)) (pg_tup (by rfl) (pgs_cons (pg_name (i := 1) sc_look_at_web.nd rfl (Or.inl rfl)) (pgs_cons (pg_name (i := 2) sc_look_at_web.nd rfl (Or.inl rfl)) pgs_nil))) (pss_one (ps_if (pt_not (pt_val (pe_own c_is_row hr (by decide) (by rfl) (pa_cons (pv 2) (pa_cons (pe_callB call_len_seq (by rfl) B.len PySem.boot_len (pa_cons (pv 0) pa_nil)) pa_nil))))) (pss_one (ps_raiseX rfl OW hr (takes_of rfl rfl rfl rfl) (pa_cons (pv 1) pa_nil))) pss_nil)))
      (pss_one (ps_if (pt_cmpR op_gt (pe_callB call_len_seq (by rfl) B.len PySem.boot_len (pa_cons (pe_own c_rooms_in hr (by decide) (by rfl) (pa_cons (pv 0) pa_nil)) pa_nil)) (pe_glob (v := .int 12) rfl mRooms ⟨_, rfl⟩) (nomark _)) (pss_one (ps_raiseX rfl OW hr (takes_of rfl rfl rfl rfl) (pa_cons pe_non pa_nil))) pss_nil)))), ?_⟩
    refine ⟨_, rfl, v, .ty "list", _, _, _, rfl, .ty "list", hv.ty, kit_list g, _, rfl, iteB (fun e => ?_) (fun e => ?_)⟩
    · refine iteT ?_
      have z : lookG g = some none := by
        cases g <;> first | rfl | cases e
      exact ⟨_, rfl, fun d hd => qn none z _ d (same_upd hd) hd upd_same⟩
    cases hv with
    | @lst a vs gs na ha t =>
      have hlen : vs.length = gs.length := t.len
      have lk : lookG (.lst gs) = if 1 ≤ gs.length ∧ gs.length ≤ 80 then (match badAt (rowG gs.length) gs with
        | some i => some (some i)
        | none => if 12 < (oneEach (allRooms (gs.map rwOf))).length then some none else none) else some none := rfl
      refine ⟨_, rfl, a, _, rfl, .inl (SqL.of ha), _, _, rfl, rfl, _, rfl, iteB (fun e1 => ?_) (fun e1 => ?_)⟩
      · refine ⟨_, _, rfl, rfl, _, rfl, ?_⟩
        have l1 := of_decide_eq_true e1
        refine iteB (fun e2 => ?_) (fun e2 => ?_)
        · have l2 : ¬ (vs.length : Int) ≤ 80 := by simpa using e2
          have z : lookG (.lst gs) = some none := by
            rw [lk, if_neg (by omega)]
          exact ⟨_, rfl, fun d hd => qn none z _ d (same_upd hd) hd upd_same⟩
        have l2 : (vs.length : Int) ≤ 80 := by simpa using e2
        rw [if_pos (by omega)] at lk
        refine ⟨_, rfl, a, _, rfl, SqL.of ha, ?_⟩
        refine for_enumS (K := K) (a := a) (xs := vs) (fun i σ H2 => ∃ y1 y2 : Option V, σ = [some (.ref a), y1, y2] ∧ Same H H2 ∧ ∀ (j : Nat) (x : G), j < i → gs[j]? = some x → rowG gs.length x = true) ?_ ?_ ?_ ?_
        · exact ⟨none, none, rfl, Same.refl H, fun j x hj => absurd hj (Nat.not_lt_zero _)⟩
        · rintro i σ H2 _ ⟨_, _, _, s2, _⟩
          exact SqL.of (s2 _ _ ha)
        · rintro i x σ H2 T hx ⟨y1, y2, rfl, s2, good⟩ nT
          obtain ⟨g1, e4, tg⟩ := t.get hx
          have sT : Same H2 (upd H2 T (.tup [.int (i : Nat), x])) := same_upd nT
          refine ⟨T, _, rfl, SqT.of upd_same, rfl, _, _, rfl, _, _, rfl, rfl, ?_⟩
          refine ⟨_, rfl, _, rfl, a, _, rfl, .inl (SqL.of (sT _ _ (s2 _ _ ha))), p, x, g1, vs.length, rfl, tg.keep (Keeps.same (s2.trans sT)), by omega, fun H3 s3 => ?_⟩
          have s03 := (s2.trans sT).trans s3
          refine ⟨_, rfl, ?_⟩
          rw [hlen]
          refine iteB (fun e5 => ?_) (fun e5 => ?_)
          · have b : rowG gs.length g1 = false := by simpa using e5
            have z : lookG (.lst gs) = some (some i) := by
              rw [lk, badAt_some good e4 b]
            exact ⟨_, rfl, _, rfl, fun d hd => qn (some i) z _ d (s03.trans (same_upd hd)) (s03.free hd) upd_same⟩
          · have b : rowG gs.length g1 = true := by simpa using e5
            refine ⟨_, _, rfl, s03, fun j y hj ey => ?_⟩
            rcases Nat.lt_succ_iff_lt_or_eq.mp hj with h | rfl
            · exact good j y h ey
            · rw [e4] at ey
              cases ey
              exact b
        · rintro σ H2 ⟨y1, y2, rfl, s2, good⟩
          rw [hlen] at good
          have all : ∀ g ∈ gs, rowG gs.length g = true := fun g hg => by
            obtain ⟨j, hj, ej⟩ := List.getElem_of_mem hg
            exact good j g hj (by rw [List.getElem?_eq_getElem hj, ej])
          obtain ⟨ra, rb⟩ := rows_at t all
          rw [badAt_none all] at lk
          refine ⟨_, rfl, a, gs.map rwOf, (List.range 100).map fun i => ((i : Nat) : Int), rfl, ⟨vs, s2 _ _ ha, ra.keep (K2.same s2)⟩, by rw [List.length_map, List.length_range]; decide, fun k hk => ?_, fun ms u H3 pw mem s3 nu hu => ?_⟩
          · have := rb k hk
            exact List.mem_map.mpr ⟨k.toNat, List.mem_range.mpr (by omega), by omega⟩
          · have lm : ms.length = (oneEach (allRooms (gs.map rwOf))).length := len_same (pw.imp fun h => Int.ne_of_lt h) (oneEach_nodup _) fun k => (mem k).trans (oneEach_mem k _).symm
            refine ⟨u, _, rfl, .inl (SqL.of hu), _, _, rfl, rfl, _, rfl, iteB (fun z => ?_) (fun z => ?_)⟩
            · have l3 := of_decide_eq_true z
              rw [List.length_map] at l3
              have zz : lookG (.lst gs) = some none := by
                rw [lk]
                exact if_pos (by omega)
              exact ⟨_, rfl, fun d hd => qn none zz _ d ((s2.trans s3).trans (same_upd hd)) ((s2.trans s3).free hd) upd_same⟩
            · have l3 := of_decide_eq_false z
              rw [List.length_map] at l3
              have zz : lookG (.lst gs) = none := by
                rw [lk]
                exact if_neg (by omega)
              exact qy zz H3 (s2.trans s3)
      · refine ⟨_, rfl, iteT ?_⟩
        have l1 := of_decide_eq_false e1
        have z : lookG (.lst gs) = some none := by
          rw [lk, if_neg (by omega)]
        exact ⟨_, rfl, fun d hd => qn none z _ d (same_upd hd) hd upd_same⟩
    | _ => cases e
end
end Su
/-! ### RT: webs are such things -/
namespace Su
open PySem PySem.Spec PyProof.Rows L2
def rowT (r : Rw) : G := .tup [.tup (r.1.map G.int), .tup (r.2.map G.int)]
theorem tg_row {p : Addr} {H : Hp} {v : V} {r : Rw} (h : RowAt H v r) : Tg p H v (rowT r) := by
  obtain ⟨a, b, c, rfl, h1, h2, h3⟩ := h
  exact .tup h1 (.cons (.tup h2 (TgL.ints _)) (.cons (.tup h3 (TgL.ints _)) .nil))
theorem tg_rows {p : Addr} {H : Hp} : ∀ {vs : List V} {rs : List Rw}, RowsAt H vs rs → TgL p H vs (rs.map rowT)
  | [], [], _ => .nil
  | _ :: _, _ :: _, h => .cons (tg_row h.1) (tg_rows h.2)
  | [], _ :: _, h => h.elim
  | _ :: _, [], h => h.elim
theorem tg_web {p a : Addr} {H : Hp} {rs : List Rw} (h : WebAt H a rs) (n : a ≠ p) : Tg p H (.ref a) (.lst (rs.map rowT)) := by
  obtain ⟨ws, e, r⟩ := h
  exact .lst n e (tg_rows r)
theorem val_ints (ns : List Int) : (ns.map G.int).map valI = ns := by
  rw [List.map_map]
  exact List.map_id' ns
theorem rw_row (r : Rw) : rwOf (rowT r) = r := by
  show ((r.1.map G.int).map valI, (r.2.map G.int).map valI) = r
  rw [val_ints, val_ints]
theorem ups_all : ∀ {ns : List Int}, ns.Pairwise (· < ·) → (ups ns).all id = true
  | [], _ => rfl
  | [a], _ => rfl
  | a :: b :: l, h => by
    have h1 := List.pairwise_cons.mp h
    have ih := ups_all h1.2
    show (decide (a < b) && (ups (b :: l)).all id) = true
    rw [decide_eq_true (h1.1 b List.mem_cons_self), ih]
    rfl
theorem ris_ints {n : Int} {ns : List Int} (h : Ris 0 (n - 1) ns) : risG n (ns.map G.int) = true := by
  unfold risG
  rw [val_ints, ups_all h.pw, Bool.and_true, List.all_eq_true]
  intro b hb
  obtain ⟨g, hg, rfl⟩ := List.mem_map.mp hb
  obtain ⟨k, hk, rfl⟩ := List.mem_map.mp hg
  show (decide (0 ≤ k) && decide (k < n)) = true
  have := h.lo k hk
  have := h.hi k hk
  rw [decide_eq_true (by omega : 0 ≤ k), decide_eq_true (by omega : k < n)]
  rfl
theorem row_row {n : Nat} {r : Rw} (ok : RowOk n r) : rowG n (rowT r) = true := by
  show (((decide ((0 : Int) ≤ ((r.1.map G.int).length : Int)) && decide (((r.1.map G.int).length : Int) ≤ 6)) && risG 100 (r.1.map G.int)) && (decide (((r.2.map G.int).length : Int) ≤ (n : Int)) && risG n (r.2.map G.int))) = true
  have h1 := ok.few
  have h2 := ris_len ok.tos
  rw [ris_ints (n := 100) ok.rooms, ris_ints (n := (n : Int)) ok.tos, List.length_map, List.length_map, decide_eq_true (by omega : (0 : Int) ≤ (r.1.length : Int)), decide_eq_true (by omega : (r.1.length : Int) ≤ 6), decide_eq_true (by omega : (r.2.length : Int) ≤ (n : Int))]
  rfl
theorem rw_rows (rs : List Rw) : (rs.map rowT).map rwOf = rs := by
  rw [List.map_map]
  have e : (rwOf ∘ rowT) = id := funext fun r => rw_row r
  rw [e, List.map_id]
theorem look_web {rs : List Rw} (ok : WebOk rs) : lookG (.lst (rs.map rowT)) = none := by
  have h1 := ok.pos
  have h2 := ok.few
  obtain ⟨S, hS, hin⟩ := ok.all
  show (if 1 ≤ (rs.map rowT).length ∧ (rs.map rowT).length ≤ 80 then (match badAt (rowG ((rs.map rowT).length : Nat)) (rs.map rowT) with
    | some i => some (some i)
    | none => if 12 < (oneEach (allRooms ((rs.map rowT).map rwOf))).length then some none else none) else some none) = none
  rw [List.length_map, if_pos ⟨h1, h2⟩, badAt_none fun g hg => ?_, rw_rows]
  · show (if 12 < (oneEach (allRooms rs)).length then some none else none) = none
    rw [if_neg]
    have := nodup_few (S := S) (oneEach_nodup (allRooms rs)) fun k hk => hin k ((oneEach_mem k _).mp hk)
    omega
  · obtain ⟨r, hr, rfl⟩ := List.mem_map.mp hg
    exact row_row (ok.row r hr)
end Su
/-! ### W3L: of a thing of any kind: the rows to which a run comes -/
namespace Su
open PySem PySem.Spec PyProof.Rows L2
/-- a run comes there -/
inductive Met (rs : List Rw) : Int → Prop
  | zero : Met rs 0
  | step {k : Nat} {r : Rw} {t : Int} (h : Met rs k) (e : rs[k]? = some r) (m : t ∈ r.2) : Met rs t
/-- all that comes of l is in m -/
def Goes (rs : List Rw) (l m : List Int) : Prop := ∀ (k : Nat) (r : Rw) (t : Int), (k : Int) ∈ l → rs[k]? = some r → t ∈ r.2 → t ∈ m
theorem Goes.all {rs : List Rw} {l : List Int} (h0 : 0 ∈ l) (h : Goes rs l l) : ∀ {k : Int}, Met rs k → k ∈ l := by
  intro k hk
  induction hk with
  | zero => exact h0
  | step _ e m ih => exact h _ _ _ ih e m
theorem Met.range {rs : List Rw} (ok : WebOk rs) {k : Int} (h : Met rs k) : 0 ≤ k ∧ k < rs.length := by
  cases h with
  | zero =>
    have := ok.pos
    omega
  | step _ e m =>
    have r := (ok.row _ (List.mem_of_getElem? e)).tos
    have a := r.lo _ m
    have b := r.hi _ m
    omega
theorem few_below {n : Nat} {l : List Int} (nd : l.Nodup) (h : ∀ k ∈ l, 0 ≤ k ∧ k < n) : l.length ≤ n := by
  have z := nodup_few (S := (List.range n).map fun i => ((i : Nat) : Int)) nd fun k hk => by
    have := h k hk
    refine List.mem_map.mpr ⟨k.toNat, List.mem_range.mpr (by omega), by omega⟩
  rwa [List.length_map, List.length_range] at z
/-- the whole number in a slot -/
def numAt (σ : L2.St) (i : Nat) : Nat := match σ[i]? with
  | some (some (.int n)) => n.toNat
  | _ => 0
theorem ups_pw : ∀ {ns : List Int}, (ups ns).all id = true → ns.Pairwise (· < ·)
  | [], _ => List.Pairwise.nil
  | [_], _ => List.pairwise_singleton _ _
  | a :: b :: l, h => by
    have h2 : (decide (a < b) && (ups (b :: l)).all id) = true := h
    rw [Bool.and_eq_true, decide_eq_true_eq] at h2
    have ih := ups_pw h2.2
    refine List.pairwise_cons.mpr ⟨fun c hc => ?_, ih⟩
    rcases List.mem_cons.mp hc with rfl | hc
    · exact h2.1
    · have := (List.pairwise_cons.mp ih).1 c hc
      omega
theorem risG_of {n : Int} {gs : List G} (h : risG n gs = true) : Ris 0 (n - 1) (gs.map valI) := by
  unfold risG at h
  rw [Bool.and_eq_true] at h
  have z : ∀ k ∈ gs.map valI, 0 ≤ k ∧ k < n := fun k hk => by
    obtain ⟨gk, hg, rfl⟩ := List.mem_map.mp hk
    exact inG_val ((List.all_eq_true.mp h.1) _ (List.mem_map.mpr ⟨gk, hg, rfl⟩))
  exact ⟨ups_pw h.2, fun k hk => (z k hk).1, fun k hk => by have := (z k hk).2; omega⟩
theorem rowOk_of {n : Nat} {g : G} (e : rowG n g = true) : RowOk n (rwOf g) := by
  obtain ⟨x, y, rfl, ex, ey⟩ := rowG_shape e
  have l6 : ∃ rs, x = .tup rs ∧ rs.length ≤ 6 := by
    unfold roomsG at ex
    split at ex
    · rw [Bool.and_eq_true, Bool.and_eq_true, decide_eq_true_eq, decide_eq_true_eq] at ex
      exact ⟨_, rfl, by omega⟩
    · cases ex
  obtain ⟨rs', rfl, l6⟩ := l6
  obtain ⟨rs, e0, e1⟩ := roomsG_shape ex
  cases e0
  obtain ⟨ts, rfl, e2⟩ := tosG_shape ey
  exact ⟨risG_of e1, by show (rs'.map valI).length ≤ 6; rw [List.length_map]; exact l6, risG_of e2⟩
theorem badAt_all {f : G → Bool} : ∀ {gs : List G}, badAt f gs = none → ∀ g ∈ gs, f g = true
  | [], _, _, hg => by cases hg
  | x :: gs, h, g, hg => by
    unfold badAt at h
    by_cases c : f x = true
    · rw [if_pos c] at h
      have h2 : badAt f gs = none := Option.map_eq_none_iff.mp h
      rcases List.mem_cons.mp hg with rfl | hg
      · exact c
      · exact badAt_all h2 g hg
    · rw [if_neg c] at h
      cases h
/-- what isn't refused is a web -/
theorem web_look {p : Addr} {H : Hp} {v : V} {g : G} (h : Tg p H v g) (e : lookG g = none) : ∃ a rs, v = .ref a ∧ WebAt H a rs ∧ WebOk rs := by
  cases h with
  | @lst a vs gs na ha t =>
    have lk : lookG (.lst gs) = if 1 ≤ gs.length ∧ gs.length ≤ 80 then (match badAt (rowG gs.length) gs with
      | some i => some (some i)
      | none => if 12 < (oneEach (allRooms (gs.map rwOf))).length then some none else none) else some none := rfl
    rw [lk] at e
    by_cases c : 1 ≤ gs.length ∧ gs.length ≤ 80
    · rw [if_pos c] at e
      cases hb : badAt (rowG gs.length) gs with
      | some i =>
        rw [hb] at e
        cases e
      | none =>
        rw [hb] at e
        have few : (oneEach (allRooms (gs.map rwOf))).length ≤ 12 := by
          by_cases f : 12 < (oneEach (allRooms (gs.map rwOf))).length
          · have e' : (if 12 < (oneEach (allRooms (gs.map rwOf))).length then some none else none) = (none : Option (Option Nat)) := e
            rw [if_pos f] at e'
            cases e'
          · omega
        have all := badAt_all hb
        obtain ⟨ra, _⟩ := rows_at t all
        refine ⟨a, gs.map rwOf, rfl, ⟨vs, ha, ra⟩, ?_, ?_, ?_, _, few, fun k hk => (oneEach_mem k _).mpr hk⟩
        · rw [List.length_map]
          exact c.1
        · rw [List.length_map]
          exact c.2
        · intro r hr
          obtain ⟨g, hg, rfl⟩ := List.mem_map.mp hr
          rw [List.length_map]
          exact rowOk_of (all g hg)
    · rw [if_neg c] at e
      cases e
  | _ => cases e
end Su
/-! ### TX2: repr of a text, and texts joined, are texts of code points -/
namespace Su
open PySem PySem.Spec PyProof.Rows L2
theorem cp_lt (c : Char) : c.toNat < 0x110000 := by
  have := c.valid
  unfold UInt32.isValidChar Nat.isValidChar at this
  show c.val.toNat < _
  omega
theorem rc_ok {q c : Nat} (hq : q < 0x110000) (hc : c < 0x110000) : ∀ x ∈ Builtin.Str.reprChar q c, x < 0x110000 := by
  have dg : ∀ (w : Nat), ∀ x ∈ (List.replicate (w - ((Nat.toDigits 16 c).map Char.toNat).length) 48 ++ (Nat.toDigits 16 c).map Char.toNat), x < 0x110000 := by
    intro w x hx
    rcases List.mem_append.mp hx with h | h
    · rw [(List.mem_replicate.mp h).2]
      decide
    · obtain ⟨d, _, rfl⟩ := List.mem_map.mp h
      exact cp_lt d
  intro x hx
  unfold Builtin.Str.reprChar at hx
  simp only at hx
  repeat' split at hx
  all_goals first
    | (simp only [List.mem_cons, List.not_mem_nil, or_false] at hx; rcases hx with rfl | rfl <;> first | assumption | decide)
    | (simp only [List.mem_cons, List.not_mem_nil, or_false] at hx; subst hx; assumption)
    | (rcases List.mem_append.mp hx with h | h
       · simp only [List.mem_cons, List.not_mem_nil, or_false] at h
         rcases h with rfl | rfl <;> decide
       · exact dg _ x h)
theorem fold_ok {f : Nat → List Nat} (hf : ∀ c, c < 0x110000 → ∀ x ∈ f c, x < 0x110000) : ∀ (l : List Nat) (acc : Array Nat), (∀ c ∈ l, c < 0x110000) → (acc.all (· < 0x110000)) = true → ((l.foldl (fun out c => out ++ (f c).toArray) acc).all (· < 0x110000)) = true
  | [], acc, _, h => h
  | c :: l, acc, hl, h => by
    rw [List.foldl_cons]
    refine fold_ok hf l _ (fun x hx => hl x (List.mem_cons_of_mem _ hx)) ?_
    rw [Array.all_append, Bool.and_eq_true]
    refine ⟨h, ?_⟩
    rw [List.all_toArray, List.all_eq_true]
    intro x hx
    exact decide_eq_true (hf c (hl c List.mem_cons_self) x hx)
theorem sok_repr {x : Str} (h : PyData.strOk x = true) : PyData.strOk (reprText x) = true := by
  have hq : reprQuote x < 0x110000 := by
    unfold reprQuote
    split <;> decide
  have hx : ∀ c ∈ x.cps.toList, c < 0x110000 := by
    intro c hc
    have h2 : x.cps.all (· < 0x110000) = true := h
    rw [← Array.all_toList, List.all_eq_true] at h2
    exact of_decide_eq_true (h2 c hc)
  show (((x.cps.foldl (fun out c => out ++ (Builtin.Str.reprChar (reprQuote x) c).toArray) #[reprQuote x]).push (reprQuote x)).all (· < 0x110000)) = true
  rw [Array.all_push, Bool.and_eq_true, ← Array.foldl_toList]
  refine ⟨fold_ok (fun c hc => rc_ok hq hc) _ _ hx ?_, decide_eq_true hq⟩
  rw [List.all_toArray, List.all_eq_true]
  intro c hc
  rw [List.mem_singleton.mp hc]
  exact decide_eq_true hq
theorem sok_glued {sep : Str} (hs : PyData.strOk sep = true) {ts : List Str} (h : ∀ t ∈ ts, PyData.strOk t = true) : PyData.strOk (Txt.join sep ts) = true := by
  have go : ∀ (l : List Str) (acc : Array Nat), (∀ t ∈ l, PyData.strOk t = true) → acc.all (· < 0x110000) = true → (l.foldl (fun acc p => acc ++ sep.cps ++ p.cps) acc).all (· < 0x110000) = true := by
    intro l
    induction l with
    | nil => exact fun acc _ h => h
    | cons t l ih =>
      intro acc hl ha
      rw [List.foldl_cons]
      refine ih _ (fun x hx => hl x (List.mem_cons_of_mem _ hx)) ?_
      rw [Array.all_append, Array.all_append, Bool.and_eq_true, Bool.and_eq_true]
      exact ⟨⟨ha, hs⟩, hl t List.mem_cons_self⟩
  show ((ts.drop 1).foldl (fun acc p => acc ++ sep.cps ++ p.cps) (ts.headD Str.empty).cps).all (· < 0x110000) = true
  refine go _ _ (fun t ht => h t (List.mem_of_mem_drop ht)) ?_
  cases ts with
  | nil => decide +kernel
  | cons t ts => exact h t List.mem_cons_self
mutual
/-- all texts in it are of code points, no dict -/
def okStr : PyData → Bool
  | .str x => PyData.strOk x
  | .dict _ => false
  | .list xs => okStrs xs
  | .tuple xs => okStrs xs
  | _ => true
def okStrs : List PyData → Bool
  | [] => true
  | d :: ds => okStr d && okStrs ds
end
mutual
theorem sok_shownS : ∀ d : PyData, okStr d = true → PyData.strOk d.shown = true
  | .none, _ => by simp only [PyData.shown]; exact sok_of _
  | .bool b, _ => by cases b <;> simp only [PyData.shown] <;> exact sok_of _
  | .int i, _ => by simp only [PyData.shown]; exact sok_of _
  | .list xs, h => by simp only [PyData.shown]; exact sok_list (sok_allS xs (by simpa only [okStr] using h))
  | .tuple xs, h => by simp only [PyData.shown]; exact sok_tuple (sok_allS xs (by simpa only [okStr] using h))
  | .str x, h => by simp only [PyData.shown]; exact sok_repr (by simpa only [okStr] using h)
  | .dict _, h => by simp [okStr] at h
theorem sok_allS : ∀ ds : List PyData, okStrs ds = true → ∀ t ∈ PyData.shownAll ds, PyData.strOk t = true
  | [], _, t, ht => by simp [PyData.shownAll] at ht
  | d :: ds, h, t, ht => by
    simp only [okStrs, Bool.and_eq_true] at h
    simp only [PyData.shownAll, List.mem_cons] at ht
    rcases ht with rfl | ht
    · exact sok_shownS d h.1
    · exact sok_allS ds h.2 t ht
end
theorem Fine.str {x : Str} {m : Nat} (h : PyData.strOk x = true) (hl : x.length ≤ m) : Fine (.str x) 0 m := by
  refine ⟨by simp [PyData.showable], by simp [PyData.hasDict], by simp [PyData.depth], ?_, ?_, ?_⟩
  · simp only [PyData.leavesShort]
    have h2 : x.cps.all (· < 0x110000) = true := h
    rw [← Array.all_toList, List.all_eq_true] at h2
    rw [List.all_eq_true]
    intro c hc
    have := of_decide_eq_true (h2 c hc)
    exact decide_eq_true (Nat.lt_of_lt_of_le this (by decide))
  · simp only [PyData.weight]
    exact hl
  · simp only [PyData.canLay0]
    exact h
theorem eqv_ints : ∀ xs ys : List Int, PyData.eqvAll (xs.map PyData.int) (ys.map PyData.int) = decide (xs = ys)
  | [], [] => by simp [PyData.eqvAll]
  | [], y :: ys => by simp [PyData.eqvAll]
  | x :: xs, [] => by simp [PyData.eqvAll]
  | x :: xs, y :: ys => by
    rw [List.map_cons, List.map_cons, PyData.eqvAll, eqv_ints xs ys, PyData.eqv]
    by_cases e : x = y
    · subst e
      simp
    · rw [show (x == y) = false from beq_eq_false_iff_ne.mpr e, Bool.false_and]
      exact (decide_eq_false fun z => e (List.cons.inj z).1).symm
end Su
/-! ### N1: lists of new names -/
namespace Su
open PySem PySem.Spec PyProof.Rows L2
def pairT (p : Int × Int) : G := .tup [.int p.1, .int p.2]
structure NamesOk (ps : List (Int × Int)) (ms : List Int) : Prop where
  rg : ∀ p ∈ ps, (0 ≤ p.1 ∧ p.1 < 100) ∧ 0 ≤ p.2 ∧ p.2 < 100
  all : (ps.map (·.1)).Perm ms
  nd : (ps.map (·.2)).Nodup
def namesG (ms : List Int) (g : G) : Prop := ∃ ps, g = .lst (ps.map pairT) ∧ NamesOk ps ms
def fewG : G → Prop
  | .lst gs => gs.length ≤ 900
  | _ => True
def twoG : G → Bool
  | .tup gs => decide ((gs.length : Int) = 2)
  | _ => false
def rgG : G → Bool
  | .tup [x, y] => inG 100 x && inG 100 y
  | _ => false
theorem twoG_shape {g : G} (h : twoG g = true) : ∃ x y, g = .tup [x, y] := by
  cases g with
  | tup l =>
    have z : ((l.length : Int) = 2) := of_decide_eq_true h
    cases l with
    | nil => cases z
    | cons x l =>
      cases l with
      | nil => cases z
      | cons y l =>
        cases l with
        | nil => exact ⟨x, y, rfl⟩
        | cons z' l =>
          rw [List.length_cons, List.length_cons, List.length_cons] at z
          omega
  | _ => cases h
theorem inG_int {n : Int} {g : G} (h : inG n g = true) : ∃ i, g = .int i ∧ 0 ≤ i ∧ i < n := by
  cases g with
  | int i =>
    have z : (decide (0 ≤ i) && decide (i < n)) = true := h
    rw [Bool.and_eq_true, decide_eq_true_eq, decide_eq_true_eq] at z
    exact ⟨i, rfl, z⟩
  | _ => cases h
theorem rgG_all : ∀ gs : List G, (∀ g ∈ gs, rgG g = true) → ∃ ps : List (Int × Int), gs = ps.map pairT ∧ ∀ p ∈ ps, (0 ≤ p.1 ∧ p.1 < 100) ∧ 0 ≤ p.2 ∧ p.2 < 100
  | [], _ => ⟨[], rfl, fun p hp => (List.not_mem_nil hp).elim⟩
  | g :: gs, h => by
    obtain ⟨ps, e, r⟩ := rgG_all gs fun x hx => h x (List.mem_cons_of_mem _ hx)
    have hg := h g List.mem_cons_self
    have sh : ∃ x y, g = .tup [x, y] := by
      cases g with
      | tup l =>
        cases l with
        | nil => cases hg
        | cons x l =>
          cases l with
          | nil => cases hg
          | cons y l =>
            cases l with
            | nil => exact ⟨x, y, rfl⟩
            | cons z l => cases hg
      | _ => cases hg
    obtain ⟨x, y, rfl⟩ := sh
    have z : (inG 100 x && inG 100 y) = true := hg
    rw [Bool.and_eq_true] at z
    obtain ⟨i, rfl, i1, i2⟩ := inG_int z.1
    obtain ⟨j, rfl, j1, j2⟩ := inG_int z.2
    refine ⟨(i, j) :: ps, by rw [e]; rfl, fun p hp => ?_⟩
    rcases List.mem_cons.mp hp with rfl | hp
    · exact ⟨⟨i1, i2⟩, j1, j2⟩
    · exact r p hp
theorem pair_at {p : Addr} {H : Hp} {v : V} {q : Int × Int} (h : Tg p H v (pairT q)) : ∃ b, v = .ref b ∧ T2 H b [V.int q.1, V.int q.2] := by
  unfold pairT at h
  cases h with
  | tup e t =>
    cases t with
    | cons h1 t =>
      cases t with
      | cons h2 t =>
        cases t
        cases h1
        cases h2
        exact ⟨_, rfl, e⟩
theorem pairs_inj : ∀ {ps qs : List (Int × Int)}, G.lst (ps.map pairT) = G.lst (qs.map pairT) → ps = qs := by
  intro ps qs h
  injection h with h
  induction ps generalizing qs with
  | nil =>
    cases qs with
    | nil => rfl
    | cons q qs => cases h
  | cons p ps ih =>
    cases qs with
    | nil => cases h
    | cons q qs =>
      rw [List.map_cons, List.map_cons] at h
      injection h with h1 h2
      unfold pairT at h1
      injection h1 with h1
      injection h1 with h1 h3
      injection h1 with h1
      injection h3 with h3 _
      injection h3 with h3
      rw [ih h2, show p = q from Prod.ext h1 h3]
theorem oneEach_len : ∀ l : List Int, (oneEach l).length ≤ l.length ∧ ((oneEach l).length = l.length → l.Nodup)
  | [] => ⟨Nat.le_refl _, fun _ => List.nodup_nil⟩
  | a :: l => by
    obtain ⟨h1, h2⟩ := oneEach_len l
    unfold oneEach
    by_cases h : a ∈ oneEach l
    · rw [if_pos h, List.length_cons]
      exact ⟨by omega, fun e => by omega⟩
    · rw [if_neg h, List.length_cons, List.length_cons]
      exact ⟨by omega, fun e => List.nodup_cons.mpr ⟨fun hm => h ((oneEach_mem a l).mpr hm), h2 (by omega)⟩⟩
theorem nd_of_len {d l : List Int} (nd : d.Nodup) (h : ∀ k, k ∈ d ↔ k ∈ l) (e : d.length = l.length) : l.Nodup :=
  (oneEach_len l).2 ((len_same (oneEach_nodup l) nd fun k => (oneEach_mem k l).trans (h k).symm).trans e)
theorem perm_le_eq : ∀ {a b : List Int}, a.Perm b → a.Pairwise (· ≤ ·) → b.Pairwise (· ≤ ·) → a = b := fun h ha hb => h.eq_of_pairwise (fun x y _ _ h1 h2 => Int.le_antisymm h1 h2) ha hb
theorem ints_shaped (ns : List Int) : SeqAt.shaped (.tuple (ns.map PyData.int)) = true := by
  have e : ∀ l : List Int, PyData.canLayAll0 (l.map PyData.int) = true ∧ PyData.depthAll (l.map PyData.int) = 0 := by
    intro l
    induction l with
    | nil => exact ⟨by first | rfl | simp [PyData.canLayAll0], by simp [PyData.depthAll]⟩
    | cons x l ih =>
      refine ⟨?_, ?_⟩
      · rw [List.map_cons]
        simp only [PyData.canLayAll0, ih.1, Bool.and_true]
        first | rfl | simp [PyData.canLay0]
      · rw [List.map_cons]
        simp only [PyData.depthAll, ih.2, PyData.depth]
        rfl
  unfold SeqAt.shaped
  have h1 := e ns
  simp only [PyData.canLay0, PyData.depth, h1.1, h1.2, Bool.true_and]
  decide
theorem ints_shapedL (ns : List Int) : SeqAt.shaped (.list (ns.map PyData.int)) = true := by
  have h := ints_shaped ns
  unfold SeqAt.shaped at h ⊢
  simp only [PyData.canLay0, PyData.depth] at h ⊢
  exact h
def spNames : Sp := fun vs H Q _ => ∃ (p : Addr) (v : V) (g : G) (r : Addr) (ms : List Int), vs = [v, .ref r] ∧ Tg p H v g ∧ fewG g ∧ H r = some (.lst (ms.map V.int)) ∧ ms.Pairwise (· < ·) ∧ ms.length ≤ 900 ∧
  (namesG ms g → ∀ H', Same H H' → Q (.bl true) H') ∧ (¬ namesG ms g → ∀ H', Same H H' → Q (.bl false) H')
theorem sc_are_names : FnScope ["thing", "rooms", "room", "new", "one"] ["thing", "rooms"] (defScope s_are_names) := ⟨rfl, rfl, rfl, by decide +kernel, rfl, by decide +kernel, by decide +kernel⟩
section
variable {P : Program} {w : World} {K : PySem.W.Frag} {mg : Str → Option Value} {base : Heap}
theorem ok_names (T : At K mg "are_names" s_are_names ["thing", "rooms"]) (B : Bt mg) (c_is_room : Cal P w K mg base 2 "is_room" ["thing"] spRoom) :
    Cal P w K mg base 3 "are_names" ["thing", "rooms"] spNames := by
  refine cal_of T sc_are_names (fun vs H Q E h => ?_) (fun f cdv A outer s H vs Q E hr h => ?_)
  · obtain ⟨p, v, g, r, ms, rfl, _⟩ := h
    rfl
  · obtain ⟨p, v, g, r, ms, rfl, hv, few, hr0, pw, hm, qy, qn⟩ := h
    refine ⟨_, (pss_cons (ps_if (PW.pt (pw_or (pt_not (pt_val (pe_callB call_isi (by rfl) B.isinstance (by decide +kernel) (pa_cons (pv 0) (pa_cons (pe_bltn (v := .ty "list") (u := .type "list") (by rfl) B.list (by decide +kernel) rfl) pa_nil))))) (pw_or1 (pt_not (pt_val (pe_callB (cr_all rfl) (by rfl) B.all (by decide +kernel) (pa_cons (pe_lc (own := [("one", 4)]) (g := (gName 4)) (tt := tYes) (te := (tAndV (tCB (rIsi K) (tCons (tVar 4) (tCons (tC (.ty "tuple")) tNil))) (tOp rEq (tCB (rLenK K) (tCons (tVar 4) tNil)) (tC (.int 2))))) (by rfl) sc_are_names.nd (pi_list (pv 0)) (blkOk_by (own := [("one", 4)]) (N := ["thing", "rooms", "room", "new", "one"]) (sc := defScope s_are_names) (by decide +kernel)) (fun _ _ _ _ _ => (pg_name (i := 4) sc_are_names.nd rfl (Or.inl rfl))) (fun _ _ _ _ _ => pts_nil) (fun _ _ _ _ _ => (pe_and (pe_callB call_isi (by rfl) B.isinstance (by decide +kernel) (pa_cons (pv 4) (pa_cons (pe_bltn (v := .ty "tuple") (u := .type "tuple") (by rfl) B.tuple (by decide +kernel) rfl) pa_nil))) (pe_one (pe_cmpR op_eq (pe_callB call_len_seq (by rfl) B.len PySem.boot_len (pa_cons (pv 4) pa_nil)) pe_int (nomark _)))))) pa_nil))))))) (pss_one (ps_ret pe_bl)) pss_nil)
      (pss_cons (ps_if (pt_not (pt_val (pe_callB (cr_all rfl) (by rfl) B.all (by decide +kernel) (pa_cons (pe_lc (own := [("room", 2), ("new", 3)]) (g := (gTup K 2 (gCons (gName 2) (gCons (gName 3) gNil)))) (tt := tYes) (te := (tAndV (tCall spRoom [] E0 (tCons (tVar 2) tNil)) (tCall spRoom [] E0 (tCons (tVar 3) tNil)))) (by rfl) sc_are_names.nd (pi_list (pv 0)) (blkOk_by (own := [("room", 2), ("new", 3)]) (N := ["thing", "rooms", "room", "new", "one"]) (sc := defScope s_are_names) (by decide +kernel)) (fun _ _ _ _ _ => (pg_tup (by rfl) (pgs_cons (pg_name (i := 2) sc_are_names.nd rfl (Or.inl rfl)) (pgs_cons (pg_name (i := 3) sc_are_names.nd rfl (Or.inl rfl)) pgs_nil)))) (fun _ _ _ _ _ => pts_nil) (fun _ _ _ _ _ => (pe_and (pe_own c_is_room hr (by decide) (by rfl) (pa_cons (pv 2) pa_nil)) (pe_one (pe_own c_is_room hr (by decide) (by rfl) (pa_cons (pv 3) pa_nil)))))) pa_nil)))) (pss_one (ps_ret pe_bl)) pss_nil)
      (pss_one (ps_ret (pe_and (pe_cmpR (op_eqD hr.units) (pe_callB cr_sortedI (by rfl) B.sorted (by decide +kernel) (pa_cons (pe_lc (own := [("room", 2), ("new", 3)]) (g := (gTup K 2 (gCons (gName 2) (gCons (gName 3) gNil)))) (tt := tYes) (te := (tVar 2)) (by rfl) sc_are_names.nd (pi_list (pv 0)) (blkOk_by (own := [("room", 2), ("new", 3)]) (N := ["thing", "rooms", "room", "new", "one"]) (sc := defScope s_are_names) (by decide +kernel)) (fun _ _ _ _ _ => (pg_tup (by rfl) (pgs_cons (pg_name (i := 2) sc_are_names.nd rfl (Or.inl rfl)) (pgs_cons (pg_name (i := 3) sc_are_names.nd rfl (Or.inl rfl)) pgs_nil)))) (fun _ _ _ _ _ => pts_nil) (fun _ _ _ _ _ => (pv 2))) pa_nil)) (pv 1) (nomark _)) (pe_one (pe_cmpR op_eq (pe_callB cr_lenSO (by rfl) B.len PySem.boot_len (pa_cons (pe_sc1 (own := [("room", 2), ("new", 3)]) (go := (gTup K 2 (gCons (gName 2) (gCons (gName 3) gNil)))) (te := (tVar 3)) (by rfl) sc_are_names.nd (pi_list (pv 0)) (blkOk_by (own := [("room", 2), ("new", 3)]) (N := ["thing", "rooms", "room", "new", "one"]) (sc := defScope s_are_names) (by decide +kernel)) (fun _ _ _ _ _ => (pg_tup (by rfl) (pgs_cons (pg_name (i := 2) sc_are_names.nd rfl (Or.inl rfl)) (pgs_cons (pg_name (i := 3) sc_are_names.nd rfl (Or.inl rfl)) pgs_nil)))) (fun _ _ _ _ _ => (pv 3))) pa_nil)) (pe_callB call_len_seq (by rfl) B.len PySem.boot_len (pa_cons (pv 0) pa_nil)) (nomark _)))))))), ?_⟩
    refine ⟨_, rfl, v, .ty "list", _, _, _, rfl, .ty "list", hv.ty, kit_list g, _, rfl, iteB (fun e => ?_) (fun e => ?_)⟩
    · refine iteT ?_
      refine qn ?_ H (Same.refl H)
      rintro ⟨ps, rfl, _⟩
      cases e
    cases hv with
    | @lst a vs gs na ha t =>
      have hlen : vs.length = gs.length := t.len
      have few' : gs.length ≤ 900 := few
      have nG : ∀ {f : G → Bool}, (∀ p : Int × Int, f (pairT p) = true) → (gs.map f).all id = false → ¬ namesG ms (.lst gs) := by
        rintro f hf e1 ⟨ps, e2, _⟩
        injection e2 with e2
        subst e2
        rw [List.map_map, List.all_map] at e1
        have : (ps.all (id ∘ (f ∘ pairT))) = true := List.all_eq_true.mpr fun p _ => hf p
        rw [this] at e1
        cases e1
      refine ⟨_, rfl, a, rfl, ⟨_, SqL.of ha⟩, fun D nD => ?_⟩
      refine lc_list (K := K) (a := a) (xs := vs) (fun i H2 => Same H H2 ∧ H2 D = some (.lst (((gs.map twoG).take i).map V.bl))) ?_ ?_ ?_ ?_
      · exact ⟨same_upd nD, upd_same⟩
      · rintro i H2 _ ⟨s2, _⟩
        exact SqL.of (s2 _ _ ha)
      · rintro i x H2 hx ⟨s2, hD⟩
        obtain ⟨g1, e1, tg⟩ := t.get hx
        have tg2 := tg.keep (Keeps.same s2)
        have hi : i < gs.length := (List.getElem?_eq_some_iff.mp e1).1
        have fin : ∀ b : Bool, b = twoG g1 → ∃ acc, H2 D = some (.lst acc) ∧ acc.length < sizeLine ∧ (Same H (upd H2 D (.lst (acc ++ [V.bl b]))) ∧ (upd H2 D (.lst (acc ++ [V.bl b]))) D = some (.lst (((gs.map twoG).take (i + 1)).map V.bl))) := by
          rintro b rfl
          refine ⟨_, hD, (by rw [List.length_map, List.length_take, List.length_map]; exact small1000 (by omega)), fun c o ec => ?_, ?_⟩
          · rw [upd_ne (ne_of_none ec nD)]
            exact s2 _ _ ec
          · rw [upd_same, take_one (x := twoG g1) (by rw [List.getElem?_map, e1]; rfl), List.map_append]
            rfl
        refine ⟨rfl, tyes ?_⟩
        refine ⟨_, rfl, x, .ty "tuple", _, _, _, rfl, .ty "tuple", tg2.ty, kit_tuple g1, _, rfl, iteB (fun z => ?_) (fun z => ?_)⟩
        · cases tg2 with
          | tup et tt =>
            refine ⟨_, rfl, _, _, rfl, .inr et.sq, rfl, fin _ ?_⟩
            rw [tt.len, dec_int]
            rfl
          | _ => cases z
        · refine fin _ ?_
          cases g1 with
          | tup l => cases z
          | _ => rfl
      · rintro H2 ⟨s2, hD⟩
        rw [List.take_of_length_le (by rw [List.length_map]; omega)] at hD
        refine ⟨D, gs.map twoG, rfl, SqL.of hD, _, rfl, ?_⟩
        refine iteB (fun e5 => ?_) (fun e5 => ?_)
        · exact qn (nG (fun p => rfl) (by simpa using e5)) H2 s2
        have all2 : ∀ g1 ∈ gs, twoG g1 = true := fun g1 h1 => by
          have e6 : (gs.map twoG).all id = true := by simpa using e5
          exact (List.all_eq_true.mp e6) _ (List.mem_map.mpr ⟨g1, h1, rfl⟩)
        have t2 := TgL.keep (Keeps.same s2) t
        refine ⟨_, rfl, a, rfl, ⟨_, SqL.of (s2 _ _ ha)⟩, fun D1 nD1 => ?_⟩
        refine lc_list (K := K) (a := a) (xs := vs) (fun i H3 => Same H2 H3 ∧ H3 D1 = some (.lst (((gs.map rgG).take i).map V.bl))) ?_ ?_ ?_ ?_
        · exact ⟨same_upd nD1, upd_same⟩
        · rintro i H3 _ ⟨s3, _⟩
          exact SqL.of (s3 _ _ (s2 _ _ ha))
        · rintro i x H3 hx ⟨s3, hD3⟩
          obtain ⟨g1, e1, tg⟩ := t2.get hx
          have tg3 := tg.keep (Keeps.same s3)
          have hi : i < gs.length := (List.getElem?_eq_some_iff.mp e1).1
          have two := all2 g1 (List.mem_of_getElem? e1)
          have fin : ∀ b : Bool, b = rgG g1 → ∃ acc, H3 D1 = some (.lst acc) ∧ acc.length < sizeLine ∧ (Same H2 (upd H3 D1 (.lst (acc ++ [V.bl b]))) ∧ (upd H3 D1 (.lst (acc ++ [V.bl b]))) D1 = some (.lst (((gs.map rgG).take (i + 1)).map V.bl))) := by
            rintro b rfl
            refine ⟨_, hD3, (by rw [List.length_map, List.length_take, List.length_map]; exact small1000 (by omega)), fun c o ec => ?_, ?_⟩
            · rw [upd_ne (ne_of_none ec nD1)]
              exact s3 _ _ ec
            · rw [upd_same, take_one (x := rgG g1) (by rw [List.getElem?_map, e1]; rfl), List.map_append]
              rfl
          obtain ⟨y1, y2, rfl⟩ := twoG_shape two
          cases tg3 with
          | tup et tt =>
            cases tt with
            | cons h1 tt =>
              cases tt with
              | cons h2 tt =>
                cases tt
                refine ⟨_, _, rfl, et.sq, rfl, _, _, rfl, _, _, rfl, rfl, rfl, tyes ?_⟩
                refine ⟨_, rfl, _, _, y1, rfl, h1, _, rfl, iteB (fun z => ?_) (fun z => ?_)⟩
                · refine ⟨_, rfl, _, _, y2, rfl, h2, fin _ ?_⟩
                  show inG 100 y2 = (inG 100 y1 && inG 100 y2)
                  rw [z, Bool.true_and]
                · refine fin _ ?_
                  show false = (inG 100 y1 && inG 100 y2)
                  rw [z, Bool.false_and]
        · rintro H3 ⟨s3, hD3⟩
          rw [List.take_of_length_le (by rw [List.length_map]; omega)] at hD3
          refine ⟨D1, gs.map rgG, rfl, SqL.of hD3, _, rfl, ?_⟩
          refine iteB (fun e6 => ?_) (fun e6 => ?_)
          · refine qn ?_ H3 (s2.trans s3)
            rintro ⟨ps, e7, ok⟩
            injection e7 with e7
            subst e7
            have e8 : ((ps.map pairT).map rgG).all id = false := by simpa using e6
            rw [List.map_map, List.all_map] at e8
            have : (ps.all (id ∘ (rgG ∘ pairT))) = true := List.all_eq_true.mpr fun p hp => by
              have := ok.rg p hp
              show ((decide (0 ≤ p.1) && decide (p.1 < 100)) && (decide (0 ≤ p.2) && decide (p.2 < 100))) = true
              simp [this]
            rw [this] at e8
            cases e8
          have allr : ∀ g1 ∈ gs, rgG g1 = true := fun g1 h1 => by
            have e7 : (gs.map rgG).all id = true := by simpa using e6
            exact (List.all_eq_true.mp e7) _ (List.mem_map.mpr ⟨g1, h1, rfl⟩)
          obtain ⟨ps, eps, rgs⟩ := rgG_all gs allr
          subst eps
          have len2 : ps.length ≤ 900 := by
            rw [List.length_map] at few'
            exact few'
          rw [List.length_map] at hlen
          have t3 := TgL.keep (Keeps.same s3) t2
          have s13 := s2.trans s3
          have ha3 := s13 _ _ ha
          refine ⟨_, rfl, a, rfl, ⟨_, SqL.of ha3⟩, fun D2 nD2 => ?_⟩
          refine lc_list (K := K) (a := a) (xs := vs) (fun i H4 => Same H3 H4 ∧ H4 D2 = some (.lst (((ps.map (·.1)).take i).map V.int))) ?_ ?_ ?_ ?_
          · exact ⟨same_upd nD2, upd_same⟩
          · rintro i H4 _ ⟨s4, _⟩
            exact SqL.of (s4 _ _ ha3)
          · rintro i x H4 hx ⟨s4, hD4⟩
            obtain ⟨g1, e1, tg⟩ := t3.get hx
            rw [List.getElem?_map] at e1
            obtain ⟨q1, eq1, rfl⟩ := Option.map_eq_some_iff.mp e1
            have hi : i < ps.length := (List.getElem?_eq_some_iff.mp eq1).1
            obtain ⟨b1, rfl, eb⟩ := pair_at (tg.keep (Keeps.same s4))
            refine ⟨_, _, rfl, eb.sq, rfl, _, _, rfl, _, _, rfl, rfl, rfl, tyes ?_⟩
            refine ⟨_, rfl, _, hD4, (by rw [List.length_map, List.length_take, List.length_map]; exact small1000 (by omega)), fun c o ec => ?_, ?_⟩
            · rw [upd_ne (ne_of_none ec nD2)]
              exact s4 _ _ ec
            · rw [upd_same, take_one (x := q1.1) (by rw [List.getElem?_map, eq1]; rfl), List.map_append]
              rfl
          · rintro H4 ⟨s4, hD4⟩
            rw [List.take_of_length_le (by rw [List.length_map]; omega)] at hD4
            refine ⟨D2, ps.map (·.1), rfl, SqL.of hD4, fun us u pm so nu => ?_⟩
            have s5 : Same H4 (upd H4 u (.lst (us.map V.int))) := same_upd nu
            have hr5 := s5 _ _ (s4 _ _ (s13 _ _ hr0))
            have hu5 : (upd H4 u (.lst (us.map V.int))) u = some (.lst (us.map V.int)) := upd_same
            have ha5 := s5 _ _ (s4 _ _ ha3)
            have t5 := TgL.keep (Keeps.same (s4.trans s5)) t3
            have s05 := s13.trans (s4.trans s5)
            generalize upd H4 u (.lst (us.map V.int)) = H5 at *
            refine ⟨_, rfl, _, _, .lst (SqL.of hu5) (dp_intsS us), .lst (SqL.of hr5) (dp_intsS ms), ints_shapedL us, ints_shapedL ms, _, rfl, ?_⟩
            rw [show PyData.eqv (.list (us.map PyData.int)) (.list (ms.map PyData.int)) = decide (us = ms) from eqv_ints us ms]
            have fstOk : (ps.map (·.1)).Perm ms ↔ us = ms := by
              constructor
              · intro h
                exact perm_le_eq (pm.trans h) so (pw.imp fun z => Int.le_of_lt z)
              · rintro rfl
                exact pm.symm
            refine iteB (fun z1 => ?_) (fun z1 => ?_)
            · have eus : us = ms := of_decide_eq_true z1
              refine ⟨_, rfl, a, rfl, ⟨_, SqL.of ha5⟩, fun D3 nD3 => ?_⟩
              refine sc1_list (K := K) (w := w) (a := a) (xs := vs) (fun i H6 => Same H5 H6 ∧ SetIs w H6 D3 ((ps.map (·.2)).take i)) ?_ ?_ ?_ ?_
              · exact ⟨same_upd nD3, _, 0, [], upd_same, List.nodup_nil, rfl, fun k => ⟨fun h => (nomatch h), fun h => (nomatch h)⟩, fun k => Iff.rfl⟩
              · rintro i H6 _ ⟨s6, _⟩
                exact SqL.of (s6 _ _ ha5)
              · rintro i x H6 hx ⟨s6, hD6⟩
                obtain ⟨g1, e1, tg⟩ := t5.get hx
                rw [List.getElem?_map] at e1
                obtain ⟨q1, eq1, rfl⟩ := Option.map_eq_some_iff.mp e1
                obtain ⟨b1, rfl, eb⟩ := pair_at (tg.keep (Keeps.same s6))
                refine ⟨_, _, rfl, eb.sq, rfl, _, _, rfl, _, _, rfl, rfl, rfl, ?_⟩
                obtain ⟨S', n', eD', few2, nx⟩ := hD6.add (A := ps.map (·.2)) (by rw [List.length_map]; omega) (fun k hk => List.mem_of_mem_take hk) q1.2
                refine ⟨_, rfl, _, S', n', rfl, eD', few2, fun c o ec => ?_, ?_⟩
                · rw [upd_ne (ne_of_none ec nD3)]
                  exact s6 _ _ ec
                · rw [take_one (x := q1.2) (by rw [List.getElem?_map, eq1]; rfl)]
                  exact nx _ upd_same
              · rintro H6 ⟨s6, hD6⟩
                rw [List.take_of_length_le (by rw [List.length_map]; omega)] at hD6
                obtain ⟨S, n, d, eD, nd, dn, hS, hd⟩ := hD6
                refine ⟨D3, S, n, rfl, eD, _, rfl, a, _, rfl, .inl (SqL.of (s6 _ _ ha5)), rfl, ?_⟩
                have sndOk : (ps.map (·.2)).Nodup ↔ n = vs.length := by
                  rw [← dn, hlen, ← List.length_map (f := fun p : Int × Int => p.2) (as := ps)]
                  exact ⟨fun h => len_same nd h hd, fun h => nd_of_len nd hd h⟩
                by_cases c : n = vs.length
                · rw [show decide (V.int (n : Int) = V.int (vs.length : Int)) = true from decide_eq_true (by rw [c])]
                  exact qy ⟨ps, rfl, rgs, fstOk.mpr eus, sndOk.mpr c⟩ H6 (s05.trans s6)
                · rw [show decide (V.int (n : Int) = V.int (vs.length : Int)) = false from decide_eq_false (by intro h; injection h with h; omega)]
                  refine qn ?_ H6 (s05.trans s6)
                  rintro ⟨ps', e2, ok⟩
                  obtain rfl := pairs_inj e2
                  exact c (sndOk.mp ok.nd)
            · refine qn ?_ H5 s05
              rintro ⟨ps', e2, ok⟩
              obtain rfl := pairs_inj e2
              exact of_decide_eq_false z1 (fstOk.mp ok.all)
    | _ => cases e
end
end Su
/-! ### N2: webs called by new names -/
namespace Su
open PySem PySem.Spec PyProof.Rows L2
def srt (l : List Int) : List Int := l.mergeSort fun a b => decide (a ≤ b)
theorem srt_perm (l : List Int) : (srt l).Perm l := List.mergeSort_perm l _
theorem srt_le (l : List Int) : (srt l).Pairwise (· ≤ ·) := by
  have h := List.pairwise_mergeSort (le := fun a b : Int => decide (a ≤ b)) (fun a b c h1 h2 => decide_eq_true (Int.le_trans (of_decide_eq_true h1) (of_decide_eq_true h2))) (fun a b => by
    rcases Int.le_total a b with h | h
    · rw [decide_eq_true h, Bool.true_or]
    · rw [decide_eq_true h, Bool.or_true]) l
  exact h.imp fun h => of_decide_eq_true h
theorem srt_of {us l : List Int} (pm : us.Perm l) (so : us.Pairwise (· ≤ ·)) : us = srt l := perm_le_eq (pm.trans (srt_perm l).symm) so (srt_le l)
theorem srt_len (l : List Int) : (srt l).length = l.length := (srt_perm l).length_eq
def newAt (ps : List (Int × Int)) (k : Int) : Int := ((ps.find? fun q => decide (q.1 = k)).map (·.2)).getD 0
theorem newAt_of : ∀ {ps : List (Int × Int)} {q : Int × Int}, (ps.map (·.1)).Nodup → q ∈ ps → newAt ps q.1 = q.2
  | p :: ps, q, nd, h => by
    rw [List.map_cons, List.nodup_cons] at nd
    unfold newAt
    rw [List.find?_cons]
    rcases List.mem_cons.mp h with rfl | h
    · rw [decide_eq_true rfl]
      rfl
    · have ne : ¬ p.1 = q.1 := fun e => nd.1 (by rw [e]; exact List.mem_map.mpr ⟨q, h, rfl⟩)
      rw [decide_eq_false ne]
      exact newAt_of nd.2 h
def calR (ps : List (Int × Int)) (r : Rw) : Rw := (srt (r.1.map (newAt ps)), r.2)
def roomsR (rs : List Rw) : List Int := srt (oneEach (allRooms rs))
theorem rooms_is {rs : List Rw} {ms : List Int} (pw : ms.Pairwise (· < ·)) (h : ∀ k, k ∈ ms ↔ k ∈ allRooms rs) : ms = roomsR rs :=
  srt_of ((List.perm_ext_iff_of_nodup (pw.imp fun h => Int.ne_of_lt h) (oneEach_nodup _)).mpr fun k => (h k).trans (oneEach_mem k _).symm) (pw.imp fun h => Int.le_of_lt h)
def spCalled (C CN : Addr) : Sp := fun vs H Q E => ∃ v1 v2 : V, vs = [v1, v2] ∧
  ((∃ (a : Addr) (rs : List Rw) (p : Addr) (g : G), v1 = .ref a ∧ WebAt H a rs ∧ WebOk rs ∧ Tg p H v2 g ∧ fewG g ∧
      (∀ ps, g = .lst (ps.map pairT) → NamesOk ps (roomsR rs) → ∀ (u : Addr) (H' : Hp), H u = none → Same H H' → WebAt H' u (rs.map (calR ps)) → Q (.ref u) H') ∧
      (¬ namesG (roomsR rs) g → ∀ H', Same H H' → E (.ref CN) none H')) ∨
   (∃ (p : Addr) (g : G) (r : Option Nat), Tg p H v1 g ∧ lookG g = some r ∧ ∀ (H' : Hp) (d : Addr), Same H H' → H d = none → H' d = some (.xd [("row", rowV r)]) → E (.ref C) (some d) H'))
theorem sc_called : FnScope ["web", "names", "news", "room", "new", "rooms", "tos"] ["web", "names"] (defScope s_called) := ⟨rfl, rfl, rfl, by decide +kernel, rfl, by decide +kernel, by decide +kernel⟩
section
variable {P : Program} {w : World} {K : PySem.W.Frag} {mg : Str → Option Value} {base : Heap}
theorem ok_called {C CN : Addr} {newId initId : String} {bmB : List Value} (ON : Own0 K mg "NoNames" CN "ValueError" newId initId bmB) (T : At K mg "called" s_called ["web", "names"]) (B : Bt mg) (c_look_at_web : CalX P w K mg base 5 "look_at_web" ["thing"] (spLook C)) (c_rooms_in : Cal P w K mg base 1 "rooms_in" ["rows"] (spRoomsIn w)) (c_are_names : Cal P w K mg base 3 "are_names" ["thing", "rooms"] spNames) :
    CalX P w K mg base 6 "called" ["web", "names"] (spCalled C CN) := by
  refine cal_ofX T sc_called (fun vs H Q E h => ?_) (fun f cdv A outer s H vs Q E hr h => ?_)
  · obtain ⟨v1, v2, rfl, _⟩ := h
    rfl
  · obtain ⟨v1, v2, rfl, h⟩ := h
    refine ⟨_, (pss_cons (ps_expr (pe_ownX (takes_of rfl rfl rfl rfl) c_look_at_web hr (by decide) (by rfl) (pa_cons (pv 0) pa_nil)))
      (pss_cons (ps_if (pt_not (pt_val (pe_own c_are_names hr (by decide) (by rfl) (pa_cons (pv 1) (pa_cons (pe_own c_rooms_in hr (by decide) (by rfl) (pa_cons (pv 0) pa_nil)) pa_nil))))) (pss_one (ps_raiseT rfl ON (takes_of rfl rfl rfl rfl))) pss_nil)
      (pss_cons (ps_set (i := 2) sc_called.nd rfl (Or.inr rfl) (pe_dc (own := [("room", 3), ("new", 4)]) (g := (gTup K 2 (gCons (gName 3) (gCons (gName 4) gNil)))) (tt := tYes) (tk := (tVar 3)) (tv := (tVar 4)) (by rfl) sc_called.nd (pi_list (pv 1)) (blkOk_by (own := [("room", 3), ("new", 4)]) (N := ["web", "names", "news", "room", "new", "rooms", "tos"]) (sc := defScope s_called) (by decide +kernel)) (fun _ _ _ _ _ => (pg_tup (by rfl) (pgs_cons (pg_name (i := 3) sc_called.nd rfl (Or.inl rfl)) (pgs_cons (pg_name (i := 4) sc_called.nd rfl (Or.inl rfl)) pgs_nil)))) (fun _ _ _ _ _ => pts_nil) (fun _ _ _ _ _ => (pv 3)) (fun _ _ _ _ _ => (pv 4))))
      (pss_one (ps_ret (pe_lc (own := [("rooms", 5), ("tos", 6)]) (g := (gTup K 2 (gCons (gName 5) (gCons (gName 6) gNil)))) (tt := tYes) (te := (tTupF (tCons (tCB (rTupL K) (tCons (tCB (rSortedI K) (tCons (tLc (iTup K (tVar 5)) (gName 3) tYes (tDGet (tVar 2) (tVar 3)) [3]) tNil)) tNil)) (tCons (tVar 6) tNil)))) (by rfl) sc_called.nd (pi_list (pv 0)) (blkOk_by (own := [("rooms", 5), ("tos", 6)]) (N := ["web", "names", "news", "room", "new", "rooms", "tos"]) (sc := defScope s_called) (by decide +kernel)) (fun _ _ _ _ _ => (pg_tup (by rfl) (pgs_cons (pg_name (i := 5) sc_called.nd rfl (Or.inl rfl)) (pgs_cons (pg_name (i := 6) sc_called.nd rfl (Or.inl rfl)) pgs_nil)))) (fun _ _ _ _ _ => pts_nil) (fun _ _ _ _ _ => (pe_tupF (pa_cons (pe_callTy call_tupleF (by rfl) B.tuple (by decide +kernel) (pa_cons (pe_callB cr_sortedI (by rfl) B.sorted (by decide +kernel) (pa_cons (pe_lc (own := [("room", 3)]) (g := (gName 3)) (tt := tYes) (te := (tDGet (tVar 2) (tVar 3))) (by rfl) sc_called.nd (pi_tup (pv 5)) (blkOk_in (own := [("room", 3)]) (N := ["web", "names", "news", "room", "new", "rooms", "tos"]) ["news"] (by decide +kernel) (List.forall_mem_cons.mpr ⟨Or.inl rfl, (List.forall_mem_nil _)⟩)) (fun _ _ _ _ _ => (pg_name (i := 3) sc_called.nd rfl (Or.inl rfl))) (fun _ _ _ _ _ => pts_nil) (fun _ _ _ _ _ => (pe_dget (hu_of hr) (pv 2) (pv 3) (fun _ _ => rfl)))) pa_nil)) pa_nil)) (pa_cons (pv 6) pa_nil)))))))))), ?_⟩
    rcases h with ⟨a, rs, p, g, rfl, hA, okA, hg, few, qy, qn⟩ | ⟨p, g, r, tg, lk, qn⟩
    · have hlA := okA.few
      refine ⟨_, rfl, a + 1, .ref a, _, rfl, tg_web hA (Nat.ne_of_lt (Nat.lt_succ_self a)), fun _ H1 s1 => ?_, fun r' e => ?_⟩
      · obtain ⟨S, hS, hin⟩ := okA.all
        obtain ⟨wa, hwa, hra⟩ := hA
        refine ⟨_, rfl, _, rfl, a, rs, S, rfl, ⟨wa, s1 _ _ hwa, hra.keep (K2.same s1)⟩, by omega, hin, fun ms u H2 pw mem s2 nu hu => ?_⟩
        obtain rfl := rooms_is pw mem
        have s12 := s1.trans s2
        have few12 : (roomsR rs).length ≤ 12 := by
          have := nodup_few (S := S) (pw.imp fun h => Int.ne_of_lt h) fun k hk => hin k ((mem k).mp hk)
          omega
        refine ⟨p, v2, g, u, roomsR rs, rfl, hg.keep (Keeps.same s12), few, hu, pw, by omega, fun nm H3 s3 => ⟨_, rfl, iteF ?_⟩, fun nn H3 s3 => ⟨_, rfl, iteT (qn nn H3 (s12.trans s3))⟩⟩
        obtain ⟨ps, rfl, ok⟩ := nm
        have nd1 : (ps.map (·.1)).Nodup := ok.all.nodup_iff.mpr (pw.imp fun h => Int.ne_of_lt h)
        have lps : ps.length ≤ 12 := by
          have := ok.all.length_eq
          rw [List.length_map] at this
          omega
        have s03 := s12.trans s3
        cases hg with
        | @lst b us _ nb hb t =>
          have hul := t.len
          rw [List.length_map] at hul
          have hb3 := s03 _ _ hb
          have t3 := TgL.keep (Keeps.same s03) t
          refine ⟨_, rfl, b, rfl, ⟨_, SqL.of hb3⟩, fun D nD => ?_⟩
          refine dc_list (K := K) (a := b) (xs := us) (fun i H4 => Same H3 H4 ∧ ∃ kvs, H4 D = some (.dK kvs) ∧ kvs.length ≤ i ∧ ∀ j q, j < i → ps[j]? = some q → valV kvs (Sum.inl q.1) = some (.int q.2)) ?_ ?_ ?_ ?_
          · exact ⟨same_upd nD, [], upd_same, Nat.le_refl _, fun j q h => absurd h (Nat.not_lt_zero _)⟩
          · rintro i H4 _ ⟨s4, _⟩
            exact SqL.of (s4 _ _ hb3)
          · rintro i x H4 hx ⟨s4, kvs, hD4, hkl, hkv⟩
            obtain ⟨g1, e1, tg⟩ := t3.get hx
            rw [List.getElem?_map] at e1
            obtain ⟨q1, eq1, rfl⟩ := Option.map_eq_some_iff.mp e1
            have hi : i < ps.length := (List.getElem?_eq_some_iff.mp eq1).1
            obtain ⟨b1, rfl, eb⟩ := pair_at (tg.keep (Keeps.same s4))
            refine ⟨_, _, rfl, eb.sq, rfl, _, _, rfl, _, _, rfl, rfl, rfl, tyes ?_⟩
            refine ⟨_, rfl, _, rfl, kvs, Sum.inl q1.1, rfl, hD4, small1000 (by omega), fun c o ec => ?_, _, upd_same, ?_, fun j q hj ej => ?_⟩
            · rw [upd_ne (ne_of_none ec nD)]
              exact s4 _ _ ec
            · exact Nat.le_trans (length_putK _ _ _) (by omega)
            · rw [valV_put]
              by_cases c : j = i
              · subst c
                rw [eq1] at ej
                cases ej
                rw [if_pos rfl]
              · have ne : ¬ (Sum.inl q.1 : Key) = Sum.inl q1.1 := by
                  intro e
                  injection e with e
                  have e2 : (ps.map (·.1))[j]? = some q1.1 := by rw [List.getElem?_map, ej, ← e]; rfl
                  have e3 : (ps.map (·.1))[i]? = some q1.1 := by rw [List.getElem?_map, eq1]; rfl
                  exact c ((List.getElem?_inj (by rw [List.length_map]; omega) nd1).mp (e2.trans e3.symm))
                rw [if_neg ne]
                exact hkv j q (by omega) ej
          · rintro H4 ⟨s4, kvs, hD4, hkl, hkv⟩
            have val : ∀ k ∈ allRooms rs, valV kvs (Sum.inl k) = some (.int (newAt ps k)) := fun k hk => by
              have h1 : k ∈ ps.map (·.1) := ok.all.mem_iff.mpr ((mem k).mpr hk)
              obtain ⟨q, hq, rfl⟩ := List.mem_map.mp h1
              obtain ⟨j, hj, ej⟩ := List.mem_iff_getElem.mp hq
              rw [newAt_of nd1 hq]
              exact hkv j q (by omega) (by rw [List.getElem?_eq_getElem hj, ej])
            have s04 := s03.trans s4
            have hwa4 := s04 _ _ hwa
            have hra4 := hra.keep (K2.same s04)
            have hal := hra.len
            refine ⟨_, rfl, a, rfl, ⟨_, SqL.of hwa4⟩, fun L nL => ?_⟩
            refine lc_list (K := K) (a := a) (xs := wa) (fun j H5 => ∃ vs, H5 L = some (.lst vs) ∧ RowsAt H5 vs ((rs.take j).map (calR ps)) ∧ Same H4 H5) ?_ ?_ ?_ ?_
            · exact ⟨[], upd_same, trivial, same_upd nL⟩
            · rintro j H5 _ ⟨_, _, _, s5⟩
              exact SqL.of (s5 _ _ hwa4)
            · rintro j x H5 hx ⟨vs, hL, hvs, s5⟩
              obtain ⟨r, er, ra, rb, rc, rfl, ha, hb', hc⟩ := hra4.get hx
              have hjl : j < rs.length := (List.getElem?_eq_some_iff.mp er).1
              have rok := okA.row r (List.mem_of_getElem? er)
              have hvl := hvs.len
              rw [List.length_map, List.length_take] at hvl
              refine ⟨ra, _, rfl, (ha.same s5).sq, rfl, _, _, rfl, _, _, rfl, rfl, rfl, tyes ?_⟩
              refine ⟨_, rfl, rb, rfl, ⟨_, (hb'.same s5).sq⟩, fun D3 nD3 => ?_⟩
              have hD5 := s5 _ _ hD4
              refine lc_tup (K := K) (a := rb) (xs := r.1.map V.int) (fun i H6 => H6 D3 = some (.lst (((r.1.take i).map (newAt ps)).map V.int)) ∧ Same H5 H6) ?_ ?_ ?_ ?_
              · exact ⟨upd_same, same_upd nD3⟩
              · rintro i H6 _ ⟨_, s6⟩
                exact (hb'.same (s5.trans s6)).sq
              · rintro i y H6 hy ⟨hD6, s6⟩
                rw [List.getElem?_map] at hy
                obtain ⟨k, ek, rfl⟩ := Option.map_eq_some_iff.mp hy
                have hil : i < r.1.length := (List.getElem?_eq_some_iff.mp ek).1
                have hr6 := rok.few
                have inr : k ∈ allRooms rs := List.mem_flatten.mpr ⟨r.1, List.mem_map.mpr ⟨r, List.mem_of_getElem? er, rfl⟩, List.mem_of_getElem? ek⟩
                have dg := DGet.k (k := Sum.inl k) (s6 _ _ hD5)
                rw [val k inr] at dg
                refine ⟨rfl, tyes ?_⟩
                refine ⟨_, rfl, _, rfl, D, _, rfl, dg, _, hD6, ?_, ?_, fun c o ec => ?_⟩
                · rw [List.length_map, List.length_map, List.length_take]
                  exact small1000 (by omega)
                · rw [upd_same, List.take_add_one, ek, List.map_append, List.map_append]
                  rfl
                · rw [upd_ne (ne_of_none ec nD3)]
                  exact s6 _ _ ec
              · rintro H6 ⟨hD6, s6⟩
                rw [List.length_map, List.take_length] at hD6
                refine ⟨D3, _, rfl, SqL.of hD6, fun us2 u6 pm so nu6 => ?_⟩
                obtain rfl := srt_of pm so
                refine ⟨u6, _, rfl, SqL.of upd_same, fun t7 H7 s7 nt7 pt7 => ?_⟩
                refine ⟨_, rfl, (by show 2 ≤ sizeLine; decide), fun t8 H8 s8 nt8 pt8 => ?_⟩
                have s58 : Same H5 H8 := ((s6.trans (same_upd nu6)).trans s7).trans s8
                have hL8 := s58 _ _ hL
                refine ⟨vs, hL8, small1000 (by omega), vs ++ [.ref t8], upd_same, ?_, fun c o ec => ?_⟩
                · have kz : K2 H8 (upd H8 L (.lst (vs ++ [.ref t8]))) := K2.lst hL8
                  rw [List.take_add_one, er, List.map_append]
                  exact RowsAt.snoc (hvs.keep ((K2.same s58).trans kz)) ⟨t8, t7, rc, rfl, kz _ _ (.inl pt8), kz _ _ (T2.same (.inl pt7) s8), kz _ _ (hc.same (s5.trans s58))⟩
                · rw [upd_ne (ne_of_none ec nL)]
                  exact s58 _ _ (s5 _ _ ec)
            · rintro H5 ⟨vs, hL, hvs, s5⟩
              rw [hal, List.take_length] at hvs
              exact qy ps rfl ok L H5 (s04.free nL) (s04.trans s5) ⟨vs, hL, hvs⟩
      · rw [look_web okA] at e
        cases e
    · refine ⟨_, rfl, p, v1, g, rfl, tg, fun e => ?_, fun r' e H' d s1 nd hd => ?_⟩
      · rw [lk] at e
        cases e
      · rw [lk] at e
        cases e
        exact qn H' d s1 nd hd
end
end Su
/-! ### N3: webs whose rows are ordered otherwise -/
namespace Su
open PySem PySem.Spec PyProof.Rows L2
def rgI (n : Nat) : List Int := (List.range n).map fun k : Nat => (k : Int)
structure OrdOk (n : Nat) (os : List Int) : Prop where
  all : os.Perm (rgI n)
  zero : os[0]? = some 0
def orderG (n : Nat) (g : G) : Prop := ∃ os, g = .lst (os.map G.int) ∧ OrdOk n os
def placeAt (os : List Int) (k : Int) : Int := (os.idxOf k : Nat)
def rowAt (rs : List Rw) (k : Int) : Rw := rs.getD k.toNat ([], [])
def ordRow (rs : List Rw) (os : List Int) (k : Int) : Rw := ((rowAt rs k).1, srt ((rowAt rs k).2.map (placeAt os)))
def ordR (rs : List Rw) (os : List Int) : List Rw := os.map (ordRow rs os)
theorem rgI_nd (n : Nat) : (rgI n).Nodup := by
  unfold rgI List.Nodup
  rw [List.pairwise_map]
  exact List.pairwise_lt_range.imp fun h => by omega
theorem rgI_rg (n : Nat) : rgV 0 n = (rgI n).map V.int := by
  unfold rgV rgI
  rw [List.map_map, show ((n : Int) - 0).toNat = n by omega]
  refine List.map_congr_left fun i _ => ?_
  show V.int (0 + (i : Int)) = V.int (i : Int)
  rw [Int.zero_add]
theorem rgI_mem {n : Nat} {k : Int} : k ∈ rgI n ↔ 0 ≤ k ∧ k < n := by
  constructor
  · intro h
    obtain ⟨j, hj, rfl⟩ := List.mem_map.mp h
    have := List.mem_range.mp hj
    omega
  · intro h
    exact List.mem_map.mpr ⟨k.toNat, List.mem_range.mpr (by omega), by omega⟩
theorem rgI_len (n : Nat) : (rgI n).length = n := by
  unfold rgI
  rw [List.length_map, List.length_range]
theorem rgI_le (n : Nat) : (rgI n).Pairwise (· ≤ ·) := by
  unfold rgI
  rw [List.pairwise_map]
  exact List.pairwise_lt_range.imp fun h => by omega
theorem placeAt_of {os : List Int} {k : Int} {j : Nat} (nd : os.Nodup) (e : os[j]? = some k) : placeAt os k = j := by
  obtain ⟨hj, e⟩ := List.getElem?_eq_some_iff.mp e
  unfold placeAt
  rw [← e, nd.idxOf_getElem j hj]
def spIsOrder : Sp := fun vs H Q _ => ∃ (p : Addr) (v : V) (g : G) (n : Nat), vs = [v, .int n] ∧ Tg p H v g ∧ 1 ≤ n ∧ n ≤ 900 ∧
  (orderG n g → ∀ H', Same H H' → Q (.bl true) H') ∧ (¬ orderG n g → ∀ H', Same H H' → Q (.bl false) H')
def spOrdered (C CN : Addr) : Sp := fun vs H Q E => ∃ v1 v2 : V, vs = [v1, v2] ∧
  ((∃ (a : Addr) (rs : List Rw) (p : Addr) (g : G), v1 = .ref a ∧ WebAt H a rs ∧ WebOk rs ∧ Tg p H v2 g ∧
      (∀ os, g = .lst (os.map G.int) → OrdOk rs.length os → ∀ (u : Addr) (H' : Hp), H u = none → Same H H' → WebAt H' u (ordR rs os) → Q (.ref u) H') ∧
      (¬ orderG rs.length g → ∀ H', Same H H' → E (.ref CN) none H')) ∨
   (∃ (p : Addr) (g : G) (r : Option Nat), Tg p H v1 g ∧ lookG g = some r ∧ ∀ (H' : Hp) (d : Addr), Same H H' → H d = none → H' d = some (.xd [("row", rowV r)]) → E (.ref C) (some d) H'))
theorem whole_all : ∀ gs : List G, (∀ g ∈ gs, wholeG g = true) → ∃ os : List Int, gs = os.map G.int
  | [], _ => ⟨[], rfl⟩
  | g :: gs, h => by
    obtain ⟨os, e⟩ := whole_all gs fun x hx => h x (List.mem_cons_of_mem _ hx)
    have hg := h g List.mem_cons_self
    cases g with
    | int i => exact ⟨i :: os, by rw [e]; rfl⟩
    | _ => cases hg
theorem int_inj : ∀ {os ps : List Int}, os.map G.int = ps.map G.int → os = ps
  | [], [], _ => rfl
  | o :: os, p :: ps, h => by
    rw [List.map_cons, List.map_cons] at h
    injection h with h1 h2
    injection h1 with h1
    rw [h1, int_inj h2]
  | [], _ :: _, h => by cases h
  | _ :: _, [], h => by cases h
theorem ints_at {p : Addr} {H : Hp} : ∀ {vs : List V} {os : List Int}, TgL p H vs (os.map G.int) → vs = os.map V.int
  | _, [], .nil => rfl
  | _, o :: os, .cons h t => by
    cases h
    rw [ints_at t]
    rfl
theorem sc_is_order : FnScope ["thing", "many", "row"] ["thing", "many"] (defScope s_is_order) := ⟨rfl, rfl, rfl, by decide +kernel, rfl, by decide +kernel, by decide +kernel⟩
theorem sc_ordered : FnScope ["web", "order", "places", "place", "row", "to"] ["web", "order"] (defScope s_ordered) := ⟨rfl, rfl, rfl, by decide +kernel, rfl, by decide +kernel, by decide +kernel⟩
section
variable {P : Program} {w : World} {K : PySem.W.Frag} {mg : Str → Option Value} {base : Heap}
theorem ok_is_order (T : At K mg "is_order" s_is_order ["thing", "many"]) (B : Bt mg) (c_is_whole : Cal P w K mg base 1 "is_whole" ["thing"] spWhole) :
    Cal P w K mg base 2 "is_order" ["thing", "many"] spIsOrder := by
  refine cal_of T sc_is_order (fun vs H Q E h => ?_) (fun f cdv A outer s H vs Q E hr h => ?_)
  · obtain ⟨p, v, g, n, rfl, _⟩ := h
    rfl
  · obtain ⟨p, v, g, n, rfl, hv, n1, n9, qy, qn⟩ := h
    refine ⟨_, (pss_cons (ps_if (PW.pt (pw_or (pt_not (pt_val (pe_callB call_isi (by rfl) B.isinstance (by decide +kernel) (pa_cons (pv 0) (pa_cons (pe_bltn (v := .ty "list") (u := .type "list") (by rfl) B.list (by decide +kernel) rfl) pa_nil))))) (pw_or (pt_cmpR op_ne (pe_callB call_len_seq (by rfl) B.len PySem.boot_len (pa_cons (pv 0) pa_nil)) (pv 1) (nomark _)) (pw_or1 (pt_not (pt_val (pe_callB (cr_all rfl) (by rfl) B.all (by decide +kernel) (pa_cons (pe_lc (own := [("row", 2)]) (g := (gName 2)) (tt := tYes) (te := (tCall spWhole [] E0 (tCons (tVar 2) tNil))) (by rfl) sc_is_order.nd (pi_list (pv 0)) (blkOk_by (own := [("row", 2)]) (N := ["thing", "many", "row"]) (sc := defScope s_is_order) (by decide +kernel)) (fun _ _ _ _ _ => (pg_name (i := 2) sc_is_order.nd rfl (Or.inl rfl))) (fun _ _ _ _ _ => pts_nil) (fun _ _ _ _ _ => (pe_own c_is_whole hr (by decide) (by rfl) (pa_cons (pv 2) pa_nil)))) pa_nil)))))))) (pss_one (ps_ret pe_bl)) pss_nil)
      (pss_one (ps_ret (pe_and (pe_cmpR op_eq (pe_ix ix_list (pv 0) pe_int (fun _ _ => rfl)) pe_int (nomark _)) (pe_one (pe_cmpR (op_eqD hr.units) (pe_callB cr_sortedI (by rfl) B.sorted (by decide +kernel) (pa_cons (pv 0) pa_nil)) (pe_listRg rfl (by rfl) B.list (prg_1 (by rfl) B.range (pv 1))) (nomark _))))))), ?_⟩
    refine ⟨_, rfl, v, .ty "list", _, _, _, rfl, .ty "list", hv.ty, kit_list g, _, rfl, iteB (fun e => ?_) (fun e => ?_)⟩
    · refine iteT ?_
      refine qn ?_ H (Same.refl H)
      rintro ⟨ps, rfl, _⟩
      cases e
    cases hv with
    | @lst a vs gs na ha t =>
      have hlen : vs.length = gs.length := t.len
      refine ⟨_, rfl, a, _, rfl, .inl (SqL.of ha), _, rfl, rfl, _, rfl, iteB (fun e1 => ?_) (fun e1 => ?_)⟩
      · refine iteT (qn ?_ H (Same.refl H))
        rintro ⟨os, e2, ok⟩
        injection e2 with e2
        subst e2
        have l1 := ok.all.length_eq
        rw [rgI_len] at l1
        rw [List.length_map] at hlen
        rw [show vs.length = n by omega] at e1
        simp at e1
      have hn : vs.length = n := by
        by_cases c : vs.length = n
        · exact c
        · have ne : ¬ V.int (vs.length : Int) = V.int (n : Int) := by
            intro h
            injection h with h
            omega
          rw [decide_eq_false ne] at e1
          cases e1
      refine ⟨_, rfl, a, rfl, ⟨_, SqL.of ha⟩, fun D nD => ?_⟩
      refine lc_list (K := K) (a := a) (xs := vs) (fun i H2 => Same H H2 ∧ H2 D = some (.lst (((gs.map wholeG).take i).map V.bl))) ?_ ?_ ?_ ?_
      · exact ⟨same_upd nD, upd_same⟩
      · rintro i H2 _ ⟨s2, _⟩
        exact SqL.of (s2 _ _ ha)
      · rintro i x H2 hx ⟨s2, hD⟩
        obtain ⟨g1, e2, tg⟩ := t.get hx
        have hi : i < gs.length := (List.getElem?_eq_some_iff.mp e2).1
        refine ⟨rfl, tyes ?_⟩
        refine ⟨_, rfl, p, x, g1, rfl, tg.keep (Keeps.same s2), _, hD, (by rw [List.length_map, List.length_take, List.length_map]; exact small1000 (by omega)), fun c o ec => ?_, ?_⟩
        · rw [upd_ne (ne_of_none ec nD)]
          exact s2 _ _ ec
        · rw [upd_same, take_one (x := wholeG g1) (by rw [List.getElem?_map, e2]; rfl), List.map_append]
          rfl
      · rintro H2 ⟨s2, hD⟩
        rw [List.take_of_length_le (by rw [List.length_map]; omega)] at hD
        refine ⟨D, gs.map wholeG, rfl, SqL.of hD, _, rfl, ?_⟩
        refine iteB (fun e5 => ?_) (fun e5 => ?_)
        · refine qn ?_ H2 s2
          rintro ⟨os, e2, ok⟩
          injection e2 with e2
          subst e2
          have e6 : ((os.map G.int).map wholeG).all id = false := by simpa using e5
          rw [List.map_map, List.all_map] at e6
          have : (os.all (id ∘ (wholeG ∘ G.int))) = true := List.all_eq_true.mpr fun p _ => rfl
          rw [this] at e6
          cases e6
        obtain ⟨os, rfl⟩ := whole_all gs fun g1 h1 => by
          have e6 : (gs.map wholeG).all id = true := by simpa using e5
          exact (List.all_eq_true.mp e6) _ (List.mem_map.mpr ⟨g1, h1, rfl⟩)
        obtain rfl := ints_at t
        rw [List.length_map] at hlen hn
        cases os with
        | nil =>
          rw [List.length_nil] at hn
          omega
        | cons o os =>
          refine ⟨_, rfl, a, _, _, _, rfl, rfl, SqL.of (s2 _ _ ha), atI_nat (j := 0) rfl, rfl, _, rfl, ?_⟩
          refine iteB (fun z1 => ?_) (fun z1 => ?_)
          · have eo : o = 0 := by
              have := of_decide_eq_true z1
              injection this
            refine ⟨_, rfl, a, o :: os, rfl, SqL.of (s2 _ _ ha), fun us u pm so nu => ?_⟩
            refine ⟨_, rfl, _, rfl, RgOk.of_le (by omega) (by omega) (by omega) (by omega), fun b nb => ?_⟩
            rw [rgI_rg]
            have hu : (upd (upd H2 u (.lst (us.map V.int))) b (.lst ((rgI n).map V.int))) u = some (.lst (us.map V.int)) := by
              rw [upd_ne (ne_of_none upd_same nb)]
              exact upd_same
            have sb : Same H2 (upd (upd H2 u (.lst (us.map V.int))) b (.lst ((rgI n).map V.int))) := (same_upd nu).trans (same_upd nb)
            refine ⟨_, _, .lst (SqL.of hu) (dp_intsS us), .lst (SqL.of upd_same) (dp_intsS _), ints_shapedL us, ints_shapedL _, ?_⟩
            rw [show PyData.eqv (.list (us.map PyData.int)) (.list ((rgI n).map PyData.int)) = decide (us = rgI n) from eqv_ints us _]
            by_cases c : us = rgI n
            · rw [decide_eq_true c]
              exact qy ⟨_, rfl, c ▸ pm.symm, by rw [eo]; rfl⟩ _ (s2.trans sb)
            · rw [decide_eq_false c]
              refine qn ?_ _ (s2.trans sb)
              rintro ⟨os', e2, ok⟩
              injection e2 with e2
              obtain rfl := int_inj e2
              exact c (perm_le_eq (pm.trans ok.all) so (rgI_le n))
          · refine qn ?_ H2 s2
            rintro ⟨os', e2, ok⟩
            injection e2 with e2
            obtain rfl := int_inj e2
            have z := ok.zero
            injection z with z
            subst z
            simp at z1
    | _ => cases e
theorem ok_ordered {C CN : Addr} {newId initId : String} {bmB : List Value} (ON : Own0 K mg "NoNames" CN "ValueError" newId initId bmB) (T : At K mg "ordered" s_ordered ["web", "order"]) (B : Bt mg) (c_look_at_web : CalX P w K mg base 5 "look_at_web" ["thing"] (spLook C)) (c_is_order : Cal P w K mg base 2 "is_order" ["thing", "many"] spIsOrder) :
    CalX P w K mg base 6 "ordered" ["web", "order"] (spOrdered C CN) := by
  refine cal_ofX T sc_ordered (fun vs H Q E h => ?_) (fun f cdv A outer s H vs Q E hr h => ?_)
  · obtain ⟨v1, v2, rfl, _⟩ := h
    rfl
  · obtain ⟨v1, v2, rfl, h⟩ := h
    refine ⟨_, (pss_cons (ps_expr (pe_ownX (takes_of rfl rfl rfl rfl) c_look_at_web hr (by decide) (by rfl) (pa_cons (pv 0) pa_nil)))
      (pss_cons (ps_if (pt_not (pt_val (pe_own c_is_order hr (by decide) (by rfl) (pa_cons (pv 1) (pa_cons (pe_callB call_len_seq (by rfl) B.len PySem.boot_len (pa_cons (pv 0) pa_nil)) pa_nil))))) (pss_one (ps_raiseT rfl ON (takes_of rfl rfl rfl rfl))) pss_nil)
      (pss_cons (ps_set (i := 2) sc_ordered.nd rfl (Or.inr rfl) (pe_dc (own := [("place", 3), ("row", 4)]) (g := (gTup K 2 (gCons (gName 3) (gCons (gName 4) gNil)))) (tt := tYes) (tk := (tVar 4)) (tv := (tVar 3)) (by rfl) sc_ordered.nd (pi_enum (by rfl) B.enumerate (pa_cons (pv 1) pa_nil)) (blkOk_by (own := [("place", 3), ("row", 4)]) (N := ["web", "order", "places", "place", "row", "to"]) (sc := defScope s_ordered) (by decide +kernel)) (fun _ _ _ _ _ => (pg_tup (by rfl) (pgs_cons (pg_name (i := 3) sc_ordered.nd rfl (Or.inl rfl)) (pgs_cons (pg_name (i := 4) sc_ordered.nd rfl (Or.inl rfl)) pgs_nil)))) (fun _ _ _ _ _ => pts_nil) (fun _ _ _ _ _ => (pv 4)) (fun _ _ _ _ _ => (pv 3))))
      (pss_one (ps_ret (pe_lc (own := [("row", 4)]) (g := (gName 4)) (tt := tYes) (te := (tTupF (tCons (tOp (rIxT K) (tOp (rIxL K) (tVar 0) (tVar 4)) (tC (.int 0))) (tCons (tCB (rTupL K) (tCons (tCB (rSortedI K) (tCons (tLc (iTup K (tOp (rIxT K) (tOp (rIxL K) (tVar 0) (tVar 4)) (tC (.int 1)))) (gName 5) tYes (tDGet (tVar 2) (tVar 5)) [5]) tNil)) tNil)) tNil)))) (by rfl) sc_ordered.nd (pi_list (pv 1)) (blkOk_by (own := [("row", 4)]) (N := ["web", "order", "places", "place", "row", "to"]) (sc := defScope s_ordered) (by decide +kernel)) (fun _ _ _ _ _ => (pg_name (i := 4) sc_ordered.nd rfl (Or.inl rfl))) (fun _ _ _ _ _ => pts_nil) (fun _ _ _ _ _ => (pe_tupF (pa_cons (pe_ix ix_tup (pe_ix ix_list (pv 0) (pv 4) (fun _ _ => rfl)) pe_int (fun _ _ => rfl)) (pa_cons (pe_callTy call_tupleF (by rfl) B.tuple (by decide +kernel) (pa_cons (pe_callB cr_sortedI (by rfl) B.sorted (by decide +kernel) (pa_cons (pe_lc (own := [("to", 5)]) (g := (gName 5)) (tt := tYes) (te := (tDGet (tVar 2) (tVar 5))) (by rfl) sc_ordered.nd (pi_tup (pe_ix ix_tup (pe_ix ix_list (pv 0) (pv 4) (fun _ _ => rfl)) pe_int (fun _ _ => rfl))) (blkOk_in (own := [("to", 5)]) (N := ["web", "order", "places", "place", "row", "to"]) ["places"] (by decide +kernel) (List.forall_mem_cons.mpr ⟨Or.inl rfl, (List.forall_mem_nil _)⟩)) (fun _ _ _ _ _ => (pg_name (i := 5) sc_ordered.nd rfl (Or.inl rfl))) (fun _ _ _ _ _ => pts_nil) (fun _ _ _ _ _ => (pe_dget (hu_of hr) (pv 2) (pv 5) (fun _ _ => rfl)))) pa_nil)) pa_nil)) pa_nil)))))))))), ?_⟩
    rcases h with ⟨a, rs, p, g, rfl, hA, okA, hg, qy, qn⟩ | ⟨p, g, r, tg, lk, qn⟩
    · have hlA := okA.few
      refine ⟨_, rfl, a + 1, .ref a, _, rfl, tg_web hA (Nat.ne_of_lt (Nat.lt_succ_self a)), fun _ H1 s1 => ?_, fun r' e => ?_⟩
      · obtain ⟨wa, hwa, hra⟩ := hA
        have hal := hra.len
        have hwa1 := s1 _ _ hwa
        have pos := okA.pos
        refine ⟨_, rfl, _, rfl, a, _, rfl, .inl (SqL.of hwa1), ?_⟩
        rw [hal]
        refine ⟨p, v2, g, rs.length, rfl, hg.keep (Keeps.same s1), pos, by omega, fun nm H3 s3 => ⟨_, rfl, iteF ?_⟩, fun nn H3 s3 => ⟨_, rfl, iteT (qn nn H3 (s1.trans s3))⟩⟩
        obtain ⟨os, rfl, ok⟩ := nm
        have nd : os.Nodup := ok.all.nodup_iff.mpr (rgI_nd _)
        have los : os.length = rs.length := ok.all.length_eq.trans (rgI_len _)
        have s03 := s1.trans s3
        cases hg with
        | @lst b us _ nb hb t =>
          obtain rfl := ints_at t
          have hb3 := s03 _ _ hb
          refine ⟨_, rfl, b, _, rfl, SqL.of hb3, fun D nD => ?_⟩
          refine dc_enum (K := K) (a := b) (xs := os.map V.int) (fun i H4 => Same H3 H4 ∧ ∃ kvs, H4 D = some (.dK kvs) ∧ kvs.length ≤ i ∧ ∀ j k, j < i → os[j]? = some k → valV kvs (Sum.inl k) = some (.int (j : Nat))) ?_ ?_ ?_ ?_
          · exact ⟨same_upd nD, [], upd_same, Nat.le_refl _, fun j q h => absurd h (Nat.not_lt_zero _)⟩
          · rintro i H4 _ ⟨s4, _⟩
            exact SqL.of (s4 _ _ hb3)
          · rintro i x T H4 hx ⟨s4, kvs, hD4, hkl, hkv⟩ nT
            rw [List.getElem?_map] at hx
            obtain ⟨k, ek, rfl⟩ := Option.map_eq_some_iff.mp hx
            have hi : i < os.length := (List.getElem?_eq_some_iff.mp ek).1
            have hD5 : (upd H4 T (.tup [.int (i : Nat), .int k])) D = some (.dK kvs) := by
              rw [upd_ne (ne_of_none hD4 nT)]
              exact hD4
            refine ⟨T, _, rfl, SqT.of upd_same, rfl, _, _, rfl, _, _, rfl, rfl, rfl, tyes ?_⟩
            refine ⟨_, rfl, _, rfl, kvs, Sum.inl k, rfl, hD5, small1000 (by omega), fun c o ec => ?_, _, upd_same, ?_, fun j q hj ej => ?_⟩
            · rw [upd_ne (ne_of_none ec nD)]
              exact (same_upd nT) _ _ (s4 _ _ ec)
            · exact Nat.le_trans (length_putK _ _ _) (by omega)
            · rw [valV_put]
              by_cases c : j = i
              · subst c
                rw [ek] at ej
                cases ej
                rw [if_pos rfl]
              · have ne : ¬ (Sum.inl q : Key) = Sum.inl k := by
                  intro e
                  injection e with e
                  subst e
                  exact c ((List.getElem?_inj (by omega) nd).mp (ej.trans ek.symm))
                rw [if_neg ne]
                exact hkv j q (by omega) ej
          · rintro H4 ⟨s4, kvs, hD4, hkl, hkv⟩
            rw [List.length_map] at hkv
            have val : ∀ k : Int, 0 ≤ k → k < rs.length → valV kvs (Sum.inl k) = some (.int (placeAt os k)) := fun k h0 h1 => by
              have hk : k ∈ os := ok.all.mem_iff.mpr (rgI_mem.mpr ⟨h0, h1⟩)
              obtain ⟨j, hj, ej⟩ := List.mem_iff_getElem.mp hk
              have e2 : os[j]? = some k := by rw [List.getElem?_eq_getElem hj, ej]
              rw [placeAt_of nd e2]
              exact hkv j k hj e2
            have s04 := s03.trans s4
            have hwa4 := s04 _ _ hwa
            have hra4 := hra.keep (K2.same s04)
            have hb4 := s04 _ _ hb
            refine ⟨_, rfl, b, rfl, ⟨_, SqL.of hb4⟩, fun L nL => ?_⟩
            refine lc_list (K := K) (a := b) (xs := os.map V.int) (fun j H5 => ∃ vs, H5 L = some (.lst vs) ∧ RowsAt H5 vs ((os.take j).map (ordRow rs os)) ∧ Same H4 H5) ?_ ?_ ?_ ?_
            · exact ⟨[], upd_same, trivial, same_upd nL⟩
            · rintro j H5 _ ⟨_, _, _, s5⟩
              exact SqL.of (s5 _ _ hb4)
            · rintro j x H5 hx ⟨vs, hL, hvs, s5⟩
              rw [List.getElem?_map] at hx
              obtain ⟨k, ek, rfl⟩ := Option.map_eq_some_iff.mp hx
              have hjl : j < os.length := (List.getElem?_eq_some_iff.mp ek).1
              have hk := rgI_mem.mp (ok.all.mem_iff.mp (List.mem_of_getElem? ek))
              obtain ⟨kn, rfl⟩ : ∃ kn : Nat, k = (kn : Int) := ⟨k.toNat, by omega⟩
              have hkw : wa[kn]? = some wa[kn] := List.getElem?_eq_getElem (by omega)
              obtain ⟨r, er, ra, rb, rc, ew, ha, hb', hc⟩ := hra4.get hkw
              have rok := okA.row r (List.mem_of_getElem? er)
              have era : rowAt rs (kn : Int) = r := by
                unfold rowAt
                rw [Int.toNat_natCast, List.getD_eq_getElem?_getD, er]
                rfl
              have hvl := hvs.len
              rw [List.length_map, List.length_take] at hvl
              have hix : atI wa ((kn : Nat) : Int) = some (.ref ra) := atI_nat (by rw [hkw, ew])
              refine ⟨rfl, tyes ?_⟩
              refine ⟨_, rfl, _, rfl, a, _, _, _, rfl, rfl, SqL.of (s5 _ _ hwa4), hix, ra, _, _, _, rfl, rfl, (ha.same s5).sq, atI_nat (j := 0) rfl, ?_⟩
              refine ⟨_, rfl, _, rfl, a, _, _, _, rfl, rfl, SqL.of (s5 _ _ hwa4), hix, ra, _, _, _, rfl, rfl, (ha.same s5).sq, atI_nat (j := 1) rfl, ?_⟩
              refine ⟨rc, rfl, ⟨_, (hc.same s5).sq⟩, fun D3 nD3 => ?_⟩
              have hD5 := s5 _ _ hD4
              refine lc_tup (K := K) (a := rc) (xs := r.2.map V.int) (fun i H6 => H6 D3 = some (.lst (((r.2.take i).map (placeAt os)).map V.int)) ∧ Same H5 H6) ?_ ?_ ?_ ?_
              · exact ⟨upd_same, same_upd nD3⟩
              · rintro i H6 _ ⟨_, s6⟩
                exact (hc.same (s5.trans s6)).sq
              · rintro i y H6 hy ⟨hD6, s6⟩
                rw [List.getElem?_map] at hy
                obtain ⟨t', et, rfl⟩ := Option.map_eq_some_iff.mp hy
                have hil : i < r.2.length := (List.getElem?_eq_some_iff.mp et).1
                have hr2 := ris_len rok.tos
                have t0 := rok.tos.lo _ (List.mem_of_getElem? et)
                have t1 := rok.tos.hi _ (List.mem_of_getElem? et)
                have dg := DGet.k (k := Sum.inl t') (s6 _ _ hD5)
                rw [val t' t0 (by omega)] at dg
                refine ⟨rfl, tyes ?_⟩
                refine ⟨_, rfl, _, rfl, D, _, rfl, dg, _, hD6, ?_, ?_, fun c o ec => ?_⟩
                · rw [List.length_map, List.length_map, List.length_take]
                  exact small1000 (by omega)
                · rw [upd_same, List.take_add_one, et, List.map_append, List.map_append]
                  rfl
                · rw [upd_ne (ne_of_none ec nD3)]
                  exact s6 _ _ ec
              · rintro H6 ⟨hD6, s6⟩
                rw [List.length_map, List.take_length] at hD6
                refine ⟨D3, _, rfl, SqL.of hD6, fun us2 u6 pm so nu6 => ?_⟩
                obtain rfl := srt_of pm so
                refine ⟨u6, _, rfl, SqL.of upd_same, fun t7 H7 s7 nt7 pt7 => ?_⟩
                refine ⟨(by show 2 ≤ sizeLine; decide), fun t8 H8 s8 nt8 pt8 => ?_⟩
                have s58 : Same H5 H8 := ((s6.trans (same_upd nu6)).trans s7).trans s8
                have hL8 := s58 _ _ hL
                refine ⟨vs, hL8, small1000 (by omega), vs ++ [.ref t8], upd_same, ?_, fun c o ec => ?_⟩
                · have kz : K2 H8 (upd H8 L (.lst (vs ++ [.ref t8]))) := K2.lst hL8
                  rw [List.take_add_one, ek, List.map_append]
                  refine RowsAt.snoc (hvs.keep ((K2.same s58).trans kz)) ?_
                  unfold ordRow
                  rw [era]
                  exact ⟨t8, rb, t7, rfl, kz _ _ (.inl pt8), kz _ _ (hb'.same (s5.trans s58)), kz _ _ (T2.same (.inl pt7) s8)⟩
                · rw [upd_ne (ne_of_none ec nL)]
                  exact s58 _ _ (s5 _ _ ec)
            · rintro H5 ⟨vs, hL, hvs, s5⟩
              rw [List.length_map, List.take_length] at hvs
              exact qy os rfl ok L H5 (s04.free nL) (s04.trans s5) ⟨vs, hL, hvs⟩
      · rw [look_web okA] at e
        cases e
    · refine ⟨_, rfl, p, v1, g, rfl, tg, fun e => ?_, fun r' e H' d s1 nd hd => ?_⟩
      · rw [lk] at e
        cases e
      · rw [lk] at e
        cases e
        exact qn H' d s1 nd hd
end
end Su
namespace Su
open PySem PySem.Spec PyProof.Rows L2
theorem sc_law_take : FnScope ["_law_pool_here", "_law_many", "_law_found"] ["_law_pool_here", "_law_many"] (defScope s_law_take) := ⟨rfl, rfl, rfl, by decide +kernel, rfl, by decide +kernel, by decide +kernel⟩
theorem sc_law_pool : FnScope ["_law_script", "_law_k", "_law_cell", "_law_size", "_law_mixed"] ["_law_script", "_law_k"] (defScope s_law_pool) := ⟨rfl, rfl, rfl, by decide +kernel, rfl, by decide +kernel, by decide +kernel⟩
section
variable {P : Program} {w : World} {K : PySem.W.Frag} {mg : Str → Option Value} {base : Heap}
theorem ok_take (T : At K mg "_law_take" s_law_take ["_law_pool_here", "_law_many"]) : Cal P w K mg base 1 "_law_take" ["_law_pool_here", "_law_many"] spTake := by
  refine cal_of T sc_law_take (fun vs H Q E h => ?_) (fun f cdv A outer s H vs Q E hr h => ?_)
  · obtain ⟨p, many, rfl, _⟩ := h
    rfl
  · obtain ⟨p, many, rfl, ⟨o, hp, g, m, rfl, g0, m0, m1⟩, n1, n2, q⟩ := h
    refine ⟨_, (pss_cons (ps_if (pt_cmpR op_gt (pe_ix ix_list (pv 0) pe_int (fun _ _ => rfl)) pe_int (nomark _)) (pss_cons (ps_set (i := 2) sc_law_take.nd rfl (Or.inl rfl) (pe_op op_mod (pe_ix ix_list (pv 0) pe_int (fun _ _ => rfl)) (pv 1)))
      (pss_cons (ps_asg (pe_op op_fdiv (pe_ix ix_list (pv 0) pe_int (fun _ _ => rfl)) (pv 1)) (pg_sub (pv 0) pe_int set_list))
      (pss_one (ps_ret (pv 2))))) pss_nil)
      (pss_cons (ps_asg (pe_op op_mod (pe_op op_add (pe_op op_mul (pe_ix ix_list (pv 0) pe_int (fun _ _ => rfl)) pe_int) pe_int) pe_int) (pg_sub (pv 0) pe_int set_list))
      (pss_one (ps_ret (pe_op op_mod (pe_op op_fdiv (pe_op op_mod (pe_op op_mul (pe_ix ix_list (pv 0) pe_int (fun _ _ => rfl)) (pe_ix ix_list (pv 0) pe_int (fun _ _ => rfl))) pe_int) pe_int) (pv 1)))))), ?_⟩
    refine ⟨_, rfl, p, _, _, _, rfl, rfl, SqL.of hp, atI_nat (j := 0) rfl, _, _, rfl, rfl, _, rfl, ite2 (fun e => ?_) (fun e => ?_)⟩
    · refine ⟨_, rfl, p, _, _, _, rfl, rfl, SqL.of hp, atI_nat (j := 0) rfl, _, rfl, _, _, rfl, rfl, (by omega), ?_⟩
      refine ⟨_, rfl, p, _, _, _, rfl, rfl, SqL.of hp, atI_nat (j := 0) rfl, _, rfl, _, _, rfl, rfl, ⟨by omega, by omega⟩, ?_⟩
      refine ⟨_, rfl, p, _, _, 0, rfl, rfl, hp, rfl, ?_⟩
      refine ⟨_, rfl, q _ _ (Int.emod_nonneg _ (by omega)) (Int.emod_lt_of_pos _ (by omega)) ⟨_, _, rfl, Int.ediv_nonneg g0 (by omega), m0, m1⟩⟩
    · refine ⟨_, rfl, p, _, _, _, rfl, rfl, SqL.of hp, atI_nat (j := 1) rfl, _, _, rfl, rfl, .inl ⟨by omega, by omega⟩, _, _, rfl, rfl, _, _, rfl, rfl, (by show (0 : Int) < 2147483647; decide), ?_⟩
      refine ⟨_, rfl, p, _, _, 1, rfl, rfl, hp, rfl, ?_⟩
      have e0 : 0 ≤ (m * 48271 + 11) % 2147483647 := Int.emod_nonneg _ (by decide)
      have e1 : (m * 48271 + 11) % 2147483647 < 2147483647 := Int.emod_lt_of_pos _ (by decide)
      refine ⟨_, rfl, p, _, _, _, rfl, rfl, SqL.of upd_same, atI_nat (j := 1) rfl, _, rfl, p, _, _, _, rfl, rfl, SqL.of upd_same, atI_nat (j := 1) rfl, _, _, rfl, rfl, .inl ⟨by omega, by omega⟩, _, _, rfl, rfl, (by show (0 : Int) < 2147483629; decide), _, _, rfl, rfl, ⟨by decide, by decide⟩, _, rfl, _, _, rfl, rfl, (by omega), ?_⟩
      exact q _ _ (Int.emod_nonneg _ (by omega)) (Int.emod_lt_of_pos _ (by omega)) ⟨_, _, rfl, g0, e0, e1⟩
theorem ok_pool (T : At K mg "_law_pool" s_law_pool ["_law_script", "_law_k"]) (B : Bt mg) : Cal P w K mg base 1 "_law_pool" ["_law_script", "_law_k"] (spPool K) := by
  refine cal_of T sc_law_pool (fun vs H Q E h => ?_) (fun f cdv A outer s H vs Q E hr h => ?_)
  · obtain ⟨a, ns, k, rfl, _⟩ := h
    rfl
  · obtain ⟨a, ns, k, rfl, hS, k0, k1, q⟩ := h
    refine ⟨_, (pss_cons (ps_set (i := 2) sc_law_pool.nd rfl (Or.inl rfl) (pe_op op_add (pe_op op_mul pe_int (pe_callB (cr_sum rfl) (by rfl) B.sum (by decide +kernel) (pa_cons (pe_slice sl_list (pv 0) po_none (po_some pe_int)) pa_nil))) (pv 1)))
      (pss_cons (ps_if (pt_cmpR op_lt (pv 1) (pe_callB call_len_seq (by rfl) B.len PySem.boot_len (pa_cons (pv 0) pa_nil)) (nomark _)) (pss_one (ps_set (i := 2) sc_law_pool.nd rfl (Or.inl rfl) (pe_ix ix_list (pv 0) (pv 1) (fun _ _ => rfl)))) pss_nil)
      (pss_cons (ps_set (i := 3) sc_law_pool.nd rfl (Or.inl rfl) (pe_callB call_abs (by rfl) B.abs (by decide +kernel) (pa_cons (pv 2) pa_nil)))
      (pss_cons (ps_set (i := 4) sc_law_pool.nd rfl (Or.inl rfl) (pe_op op_mod (pe_op op_mul (pe_op op_add (pe_op op_add (pe_op op_add (pe_op op_mod (pv 3) pe_int) (pe_op op_mul (pe_op op_mul pe_int (pv 1)) (pv 1))) (pe_op op_mul pe_int (pv 1))) pe_int) pe_int) pe_int))
      (pss_one (ps_ret (pe_lst (pa_cons (pe_op op_mul (pv 3) (pe_callTy call_int1 (by rfl) B.int (by decide +kernel) (pa_cons (pe_cmpR op_ge (pv 3) (pe_op op_pow pe_int pe_int) (nomark _)) pa_nil))) (pa_cons (pe_op op_mod (pe_op op_mul (pv 4) (pv 4)) pe_int) pa_nil))))))))), ?_⟩
    obtain ⟨ms, ems⟩ := cutV_ints ns none (some 63)
    refine ⟨_, rfl, 63, rfl, a, _, rfl, hS, fun c nc => ?_⟩
    rw [ems]
    have s1 : Same H (upd H c (.lst (ms.map V.int))) := same_upd nc
    refine ⟨c, ms, rfl, SqL.of upd_same, _, _, rfl, rfl, .inl ⟨by decide, by decide⟩, _, rfl, _, _, rfl, rfl, ?_⟩
    refine ⟨_, rfl, _, rfl, a, _, rfl, .inl (s1.seq hS), _, _, rfl, rfl, _, rfl, ite2 (fun e => ?_) (fun e => ?_)⟩
    rw [decide_eq_true_eq, List.length_map] at e
    obtain ⟨z, g⟩ : ∃ z : Int, atI (ns.map V.int) k = some (V.int z) := by
      have hk : k.toNat < ns.length := by omega
      exact ⟨_, atI_int (v := V.int ns[k.toNat]) k0 (by rw [List.getElem?_map, List.getElem?_eq_getElem hk]; rfl)⟩
    refine ⟨_, rfl, _, rfl, a, _, k, .int z, rfl, rfl, s1.seq hS, g, ?_⟩
    all_goals
      refine ⟨_, rfl, _, rfl, ?_⟩
      refine ⟨_, rfl, _, _, rfl, rfl, (by show (0 : Int) < 2147483629; decide), _, rfl, _, _, rfl, rfl, .inl ⟨by decide, by decide⟩, _, rfl, _, _, rfl, rfl, .inr ⟨by omega, by omega⟩, _, _, rfl, rfl, _, rfl, _, _, rfl, rfl, .inl ⟨by decide, by decide⟩, _, _, rfl, rfl, _, _, rfl, rfl, _, _, rfl, rfl, .inr ⟨by decide, by decide⟩, _, _, rfl, rfl, (by show (0 : Int) < 2147483647; decide), ?_⟩
      refine ⟨_, rfl, _, rfl, _, _, rfl, rfl, ⟨by decide, by decide, by decide⟩, _, _, rfl, rfl, .inr ⟨_, rfl, _, _, rfl, rfl, .inr ?_, ?_⟩⟩
      · exact b01 _
      refine ⟨_, rfl, _, rfl, _, _, rfl, rfl, .inl ?_, _, _, rfl, rfl, (by show (0 : Int) < 2147483629; decide), (by show 2 ≤ sizeLine; decide), fun p np => ?_⟩
      · refine ⟨Int.lt_of_lt_of_le (by decide) (Int.emod_nonneg _ (by decide)), Int.lt_trans (Int.emod_lt_of_pos _ (by decide)) (by decide)⟩
      refine q p _ (s1.trans (same_upd np)) (s1.free np) ⟨_, upd_same, _, _, rfl, ?_, Int.emod_nonneg _ (by decide), Int.lt_trans (Int.emod_lt_of_pos _ (by decide)) (by decide)⟩
      refine Int.mul_nonneg ?_ ?_ <;> split <;> omega
end
theorem sc_law_picked : FnScope ["_law_pool_here", "_law_some", "_law_many", "_law_left", "_law_k"] ["_law_pool_here", "_law_some", "_law_many"] (defScope s_law_picked) := ⟨rfl, rfl, rfl, by decide +kernel, rfl, by decide +kernel, by decide +kernel⟩
section
variable {P : Program} {w : World} {K : PySem.W.Frag} {mg : Str → Option Value} {base : Heap}
theorem ok_picked (T : At K mg "_law_picked" s_law_picked ["_law_pool_here", "_law_some", "_law_many"]) (B : Bt mg) (c_take : Cal P w K mg base 1 "_law_take" ["_law_pool_here", "_law_many"] spTake) :
    Cal P w K mg base 2 "_law_picked" ["_law_pool_here", "_law_some", "_law_many"] (spPicked K) := by
  refine cal_of T sc_law_picked (fun vs H Q E h => ?_) (fun f cdv A outer s H vs Q E hr h => ?_)
  · obtain ⟨p, b, ns, many, rfl, _⟩ := h
    rfl
  · obtain ⟨p, b, ns, many, rfl, hp, hS, hbp, nd, hl, m0, q⟩ := h
    refine ⟨_, (pss_cons (ps_set (i := 3) sc_law_picked.nd rfl (Or.inr rfl) (pe_callTy call_list_of (by rfl) B.list (by decide +kernel) (pa_cons (pv 1) pa_nil)))
      (pss_one (ps_ret (pe_callB cr_sortedI (by rfl) B.sorted (by decide +kernel) (pa_cons (pe_lc (own := [("_law_k", 4)]) (g := (gName 4)) (tt := tYes) (te := (tBM K "list" rPopAt (tVar 3) (tCons (tCall spTake [] E0 (tCons (tVar 0) (tCons (tCB (rLenK K) (tCons (tVar 3) tNil)) tNil))) tNil))) (by rfl) sc_law_picked.nd (pi_range1 (by rfl) B.range (pa_cons (pe_callB (call_min2 rfl) (by rfl) B.min (by decide +kernel) (pa_cons (pv 2) (pa_cons (pe_callB call_len_seq (by rfl) B.len PySem.boot_len (pa_cons (pv 3) pa_nil)) pa_nil))) pa_nil)) (blkOk_by (own := [("_law_k", 4)]) (N := ["_law_pool_here", "_law_some", "_law_many", "_law_left", "_law_k"]) (sc := defScope s_law_picked) (by decide +kernel)) (fun _ _ _ _ _ => (pg_name (i := 4) sc_law_picked.nd rfl (Or.inl rfl))) (fun _ _ _ _ _ => pts_nil) (fun _ _ _ _ _ => (pe_bm PySem.F.plainAttrs_list PySem.F.slot_list_pop PySem.F.type_list_pop mt_popAt (pv 3) (pa_cons (pe_own c_take hr (by decide) (by rfl) (pa_cons (pv 0) (pa_cons (pe_callB call_len_seq (by rfl) B.len PySem.boot_len (pa_cons (pv 3) pa_nil)) pa_nil))) pa_nil)))) pa_nil))))), ?_⟩
    refine ⟨_, rfl, b, _, rfl, .inl hS, fun l nl => ?_⟩
    have elp : l ≠ p := pool_ne hp nl
    have hl0 : (if ((ns.map V.int).length : Int) < many then ((ns.map V.int).length : Int) else many) = ((min many.toNat ns.length : Nat) : Int) := by
      rw [List.length_map]
      split <;> omega
    refine ⟨_, rfl, _, rfl, l, _, rfl, .inl (SqL.of upd_same), _, _, rfl, _, rfl, (by omega), (by omega), fun D nD => ?_⟩
    rw [hl0]
    refine lc_range (lo := 0) (n := min many.toNat ns.length) (fun i H2 => ∃ lf acc : List Int, H2 l = some (.lst (lf.map V.int)) ∧ H2 D = some (.lst (acc.map V.int)) ∧ acc.length = i ∧ (acc ++ lf).Perm ns ∧ PoolAt H2 p ∧ Kept p H H2) ?_ ?_ ?_
    · obtain ⟨eDl, nD0⟩ := free_upd nD
      refine ⟨ns, [], (by rw [upd_ne eDl.symm, upd_same]), upd_same, rfl, List.Perm.refl _, (hp.upd elp.symm).upd (pool_ne hp nD0).symm, ((Kept.refl p H).set nl).set nD0⟩
    · rintro i H2 hi ⟨lf, acc, h1, h2, hlen, hpm, hpo, hk⟩
      obtain ⟨eDl, nD0⟩ := free_upd nD
      have eDp : D ≠ p := pool_ne hp nD0
      have hll : acc.length + lf.length = ns.length := by
        have := hpm.length_eq
        rw [List.length_append] at this
        exact this
      refine ⟨rfl, tyes ?_⟩
      refine ⟨_, rfl, .inl ⟨rfl, _, SqL.of h1⟩, _, rfl, _, rfl, l, _, rfl, .inl (SqL.of h1), p, _, rfl, hpo, ?_, ?_, fun r o r0 r1 po => ?_⟩
      · rw [List.length_map]
        omega
      · rw [List.length_map]
        omega
      · rw [List.length_map] at r1
        have hr1 : r.toNat < lf.length := by omega
        refine ⟨l, lf.map V.int, r, r.toNat, V.int lf[r.toNat], rfl, rfl, (by rw [upd_ne elp]; exact h1), by omega, by omega, seqIx r0 (by rw [List.length_map]; exact r1), (by rw [List.getElem?_map, List.getElem?_eq_getElem hr1]; rfl), ?_⟩
        have hg : lf[r.toNat]? = some lf[r.toNat] := List.getElem?_eq_getElem hr1
        generalize lf[r.toNat] = y at *
        refine ⟨acc.map V.int, (by rw [upd_ne eDl, upd_ne eDp]; exact h2), ?_, lf.eraseIdx r.toNat, acc ++ [y], ?_, ?_, ?_, ?_, ?_, ?_⟩
        · rw [List.length_map]
          exact small1000 (by omega)
        · rw [upd_ne eDl.symm, upd_same, erase_map]
        · rw [upd_same, List.map_append]
          rfl
        · rw [List.length_append, hlen]
          rfl
        · rw [List.append_assoc]
          exact ((erase_perm lf r.toNat y hg).append_left acc).trans hpm
        · refine PoolAt.upd (PoolAt.upd ⟨o, upd_same, po⟩ elp.symm) eDp.symm
        · exact (((hk.trans (Kept.upd p H2 o)).set nl).set nD0)
    · rintro H2 ⟨lf, acc, h1, h2, hlen, hpm, hpo, hk⟩
      obtain ⟨eDl, nD0⟩ := free_upd nD
      refine ⟨D, acc, rfl, SqL.of h2, fun ms c pm so nc => ?_⟩
      have ecp : c ≠ p := pool_ne hpo nc
      have hsub : ∀ x ∈ ms, x ∈ ns := fun x hx => hpm.subset (List.mem_append_left _ (pm.subset hx))
      have hnd : (acc ++ lf).Nodup := hpm.nodup_iff.mpr nd
      exact q c _ ms (hk.free ecp nc) (hk.trans (Kept.same (same_upd nc))) (hpo.upd ecp.symm) upd_same (pm.nodup_iff.mpr (List.nodup_append.mp hnd).1) hsub (by rw [pm.length_eq, hlen]) so
end
end Su
/-! ### J0: the law's webs -/
namespace Su
open PySem PySem.Spec PyProof.Rows L2
def spLTos : Sp := fun vs H Q _ => ∃ (p : Addr) (row many : Int), vs = [.ref p, .int row, .int many] ∧ PoolAt H p ∧ 0 ≤ row ∧ 1 ≤ many ∧ many < 1000 ∧
  ∀ (t : Addr) (H' : Hp) (ns : List Int), Kept p H H' → PoolAt H' p → T2 H' t (ns.map V.int) → Ris 0 (many - 1) ns → Q (.ref t) H'
def spLWeb : Sp := fun vs H Q _ => ∃ (p : Addr) (mr mo : Int), vs = [.ref p, .int mr, .int mo] ∧ PoolAt H p ∧ 1 ≤ mr ∧ mr ≤ 80 ∧ 1 ≤ mo ∧ mo ≤ 12 ∧
  ∀ (u : Addr) (H' : Hp) (rs : List Rw), H u = none → Kept p H H' → PoolAt H' p → WebAt H' u rs → WebOk rs → (rs.length : Int) ≤ mr → (∃ S : List Int, (S.length : Int) ≤ mo ∧ ∀ k ∈ allRooms rs, k ∈ S) → Q (.ref u) H'
theorem sc_law_tos : FnScope ["_law_pool_here", "_law_row", "_law_many", "_law_way", "_law_found", "_law_turn"] ["_law_pool_here", "_law_row", "_law_many"] (defScope s_law_tos) := ⟨rfl, rfl, rfl, by decide +kernel, rfl, by decide +kernel, by decide +kernel⟩
theorem sc_law_web : FnScope ["_law_pool_here", "_law_most_rows", "_law_most_rooms", "_law_many", "_law_rooms", "_law_web_here", "_law_row", "_law_asked_for"] ["_law_pool_here", "_law_most_rows", "_law_most_rooms"] (defScope s_law_web) := ⟨rfl, rfl, rfl, by decide +kernel, rfl, by decide +kernel, by decide +kernel⟩
section
variable {P : Program} {w : World} {K : PySem.W.Frag} {mg : Str → Option Value} {base : Heap}
theorem ok_ltos (T : At K mg "_law_tos" s_law_tos ["_law_pool_here", "_law_row", "_law_many"]) (B : Bt mg) (c_take : Cal P w K mg base 1 "_law_take" ["_law_pool_here", "_law_many"] spTake) : Cal P w K mg base 2 "_law_tos" ["_law_pool_here", "_law_row", "_law_many"] spLTos := by
  refine cal_of T sc_law_tos (fun vs H Q E h => ?_) (fun f cdv A outer s H vs Q E hr h => ?_)
  · obtain ⟨p, row, many, rfl, _⟩ := h
    rfl
  · obtain ⟨p, row, many, rfl, hp, r0, m1, m2, q⟩ := h
    refine ⟨_, (pss_cons (ps_set (i := 3) sc_law_tos.nd rfl (Or.inl rfl) (pe_own c_take hr (by decide) (by rfl) (pa_cons (pv 0) (pa_cons pe_int pa_nil))))
      (pss_cons (ps_set (i := 4) sc_law_tos.nd rfl (Or.inl rfl) pe_dnewK)
      (pss_cons (ps_if (PW.pt (pw_and (pt_cmpR op_gt (pv 3) pe_int (nomark _)) (pw_and1 (pt_cmpR op_lt (pe_op op_add (pv 1) pe_int) (pv 2) (nomark _))))) (pss_one (ps_dput (hu_of hr) (pv 4) (pe_op op_add (pv 1) pe_int) pe_bl rfl)) pss_nil)
      (pss_cons (ps_for PassesOwn.never rfl (pi_range1 (by rfl) B.range (pa_cons (pe_ix ix_list (pe_lst (pa_cons pe_int (pa_cons pe_int (pa_cons pe_int (pa_cons pe_int (pa_cons pe_int (pa_cons pe_int (pa_cons pe_int (pa_cons pe_int pa_nil))))))))) (pv 3) (fun _ _ => rfl)) pa_nil)) (pg_name (i := 5) sc_law_tos.nd rfl (Or.inl rfl)) (pss_one (ps_dput (hu_of hr) (pv 4) (pe_own c_take hr (by decide) (by rfl) (pa_cons (pv 0) (pa_cons (pv 2) pa_nil))) pe_bl rfl)))
      (pss_one (ps_ret (pe_callTy call_tupleF (by rfl) B.tuple (by decide +kernel) (pa_cons (pe_callB (cr_sortedDI rfl) (by rfl) B.sorted (by decide +kernel) (pa_cons (pv 4) pa_nil)) pa_nil)))))))), ?_⟩
    refine ⟨_, rfl, p, 8, rfl, hp, by decide, by decide, fun wy o w0 w1 po => ?_⟩
    have hp1 : PoolAt (upd H p o) p := ⟨o, upd_same, po⟩
    have hk1 : Kept p H (upd H p o) := Kept.upd p H o
    refine fun D nD => ?_
    have eDp : D ≠ p := pool_ne hp1 nD
    have nD0 : H D = none := hk1.free eDp nD
    -- the end, from any dict
    have fin : ∀ (H2 : Hp) (kvs : List (Key × V)) (ks : List Int), H2 D = some (.dK kvs) → KeysI kvs ks → ks.Nodup → ks.length ≤ 1 → (∀ k ∈ ks, 0 ≤ k ∧ k < many) → PoolAt H2 p → Kept p H H2 → ∀ y5 : Option V,
        tSeq (tFor (iRng1 (tCons (tOp (rIxL K) (tLst (tCons (tC (.int 0)) (tCons (tC (.int 0)) (tCons (tC (.int 0)) (tCons (tC (.int 1)) (tCons (tC (.int 1)) (tCons (tC (.int 1)) (tCons (tC (.int 2)) (tCons (tC (.int 2)) tNil))))))))) (tVar 3)) tNil)) (gName 5)
          (sDPut (tVar 4) (tCall spTake [] E0 (tCons (tVar 0) (tCons (tVar 2) tNil))) (tC (.bl true)))) (tRet (tCB (rTupL K) (tCons (tCB rSortedDI (tCons (tVar 4) tNil)) tNil))) { nx := fun _ H' => Q .non H', rt := Q } [some (.ref p), some (.int row), some (.int many), some (.int wy), some (.ref D), y5] H2 := by
      intro H2 kvs ks hD hks nd hl hb hp2 k2 y5
      refine ⟨(by show 8 ≤ sizeLine; decide), fun L nL => ?_⟩
      have eLp : L ≠ p := pool_ne hp2 nL
      have eLD : D ≠ L := ne_of_none hD nL
      obtain ⟨v, hv, ev⟩ := cons_nil_fin (xs := [V.int 0, .int 0, .int 0, .int 1, .int 1, .int 1, .int 2, .int 2]) 8 rfl w0 w1
      obtain ⟨n, en, hn⟩ : ∃ n : Nat, v = .int n ∧ n ≤ 2 := by
        simp only [List.mem_cons, List.not_mem_nil, or_false] at hv
        rcases hv with e | e | e | e | e | e | e | e
        all_goals first
          | exact ⟨0, e, by decide⟩
          | exact ⟨1, e, by decide⟩
          | exact ⟨2, e, by decide⟩
      subst en
      refine ⟨_, rfl, L, _, _, _, rfl, rfl, SqL.of upd_same, ev, ?_⟩
      refine ⟨(n : Int), rfl, by omega, by omega, ?_⟩
      rw [show ((n : Int)).toNat = n by omega]
      refine for_range (lo := 0) (n := n) (fun i σ H3 => ∃ (kvs : List (Key × V)) (ks : List Int) (y5 : Option V), σ = [some (.ref p), some (.int row), some (.int many), some (.int wy), some (.ref D), y5] ∧ H3 D = some (.dK kvs) ∧ KeysI kvs ks ∧ ks.Nodup ∧ kvs.length ≤ 1 + i ∧ (∀ k ∈ ks, 0 ≤ k ∧ k < many) ∧ PoolAt H3 p ∧ Kept p H H3) ?_ ?_ ?_
      · exact ⟨kvs, ks, y5, rfl, (by rw [upd_ne eLD]; exact hD), hks, nd, (by rw [hks.len]; exact hl), hb, hp2.upd eLp.symm, k2.trans (Kept.same (same_upd nL))⟩
      · rintro i σ H3 hi ⟨kvs, ks, y5, rfl, hD3, hks3, nd3, hl3, hb3, hp3, k3⟩
        refine ⟨_, rfl, _, rfl, _, rfl, p, many, rfl, hp3, m1, by omega, fun r o2 r0 r1 po2 => ?_⟩
        have hD4 : (upd H3 p o2) D = some (.dK kvs) := by
          rw [upd_ne eDp]
          exact hD3
        obtain ⟨ks', h1, h2, h3⟩ := hks3.put nd3 r (.bl true)
        refine ⟨D, _, rfl, DPut.k (k := Sum.inl r) hD4 (small1000 (by omega)), ?_⟩
        refine ⟨_, ks', _, rfl, upd_same, h1, h2, ?_, fun k hk => ?_, PoolAt.upd ⟨o2, upd_same, po2⟩ eDp.symm, (k3.trans (Kept.upd p H3 o2)).set nD0⟩
        · have := length_putK kvs (Sum.inl r) (.bl true)
          omega
        · rcases (h3 k).mp hk with z | z
          · exact hb3 k z
          · rw [z]
            exact ⟨r0, r1⟩
      · rintro σ H3 ⟨kvs, ks, y5, rfl, hD3, hks3, nd3, hl3, hb3, hp3, k3⟩
        refine ⟨_, rfl, D, kvs, ks, rfl, hD3, hks3, (by rw [← hks3.len]; omega), fun ys u pm so nu => ?_⟩
        refine ⟨u, _, rfl, SqL.of upd_same, fun t H4 s4 nt pt => ?_⟩
        have eup : u ≠ p := pool_ne hp3 nu
        refine q t H4 ys (k3.trans (Kept.same ((same_upd nu).trans s4))) ((hp3.upd eup.symm).same s4) (.inl pt) ⟨pw_lt so (pm.nodup_iff.mpr nd3), fun k hk => (hb3 k (pm.subset hk)).1, fun k hk => ?_⟩
        have := (hb3 k (pm.subset hk)).2
        omega
    have hk2 : Kept p H (upd (upd H p o) D (.dK [])) := hk1.set nD0
    have hp2 : PoolAt (upd (upd H p o) D (.dK [])) p := hp1.upd eDp.symm
    refine ⟨_, rfl, _, _, rfl, rfl, _, rfl, iteB (fun z1 => ?_) (fun z1 => iteF ?_)⟩
    · refine ⟨_, rfl, _, _, rfl, rfl, _, rfl, _, _, rfl, rfl, _, rfl, iteB (fun z2 => ?_) (fun z2 => ?_)⟩
      · have z3 : row + 1 < many := of_decide_eq_true z2
        refine ⟨_, rfl, _, rfl, _, _, rfl, rfl, D, _, rfl, DPut.k (k := Sum.inl (row + 1)) upd_same (small1000 (by decide)), ?_⟩
        refine fin _ [(Sum.inl (row + 1), .bl true)] [row + 1] upd_same rfl (by simp) (Nat.le_refl _) (fun k hk => ?_) (hp2.upd eDp.symm) (hk2.set nD0) none
        rw [List.mem_singleton.mp hk]
        omega
      · exact fin _ [] [] upd_same rfl (by simp) (by decide) (fun k hk => (List.not_mem_nil hk).elim) hp2 hk2 none
    · exact fin _ [] [] upd_same rfl (by simp) (by decide) (fun k hk => (List.not_mem_nil hk).elim) hp2 hk2 none
theorem ok_lweb (T : At K mg "_law_web" s_law_web ["_law_pool_here", "_law_most_rows", "_law_most_rooms"]) (B : Bt mg) (c_take : Cal P w K mg base 1 "_law_take" ["_law_pool_here", "_law_many"] spTake) (c_picked : Cal P w K mg base 2 "_law_picked" ["_law_pool_here", "_law_some", "_law_many"] (spPicked K))
    (c_tos : Cal P w K mg base 2 "_law_tos" ["_law_pool_here", "_law_row", "_law_many"] spLTos) : Cal P w K mg base 3 "_law_web" ["_law_pool_here", "_law_most_rows", "_law_most_rooms"] spLWeb := by
  refine cal_of T sc_law_web (fun vs H Q E h => ?_) (fun f cdv A outer s H vs Q E hr h => ?_)
  · obtain ⟨p, mr, mo, rfl, _⟩ := h
    rfl
  · obtain ⟨p, mr, mo, rfl, hp, r1, r80, o1, o12, q⟩ := h
    refine ⟨_, (pss_cons (ps_set (i := 3) sc_law_web.nd rfl (Or.inl rfl) (pe_op op_add pe_int (pe_own c_take hr (by decide) (by rfl) (pa_cons (pv 0) (pa_cons (pv 1) pa_nil)))))
      (pss_cons (ps_set (i := 4) sc_law_web.nd rfl (Or.inl rfl) (pe_own c_picked hr (by decide) (by rfl) (pa_cons (pv 0) (pa_cons (pe_listRg rfl (by rfl) B.list (prg_1 (by rfl) B.range pe_int)) (pa_cons (pe_op op_add pe_int (pe_own c_take hr (by decide) (by rfl) (pa_cons (pv 0) (pa_cons (pv 2) pa_nil)))) pa_nil)))))
      (pss_cons (ps_set (i := 5) sc_law_web.nd rfl (Or.inl rfl) (pe_lst pa_nil))
      (pss_cons (ps_for PassesOwn.never rfl (pi_range1 (by rfl) B.range (pa_cons (pv 3) pa_nil)) (pg_name (i := 6) sc_law_web.nd rfl (Or.inl rfl)) (pss_cons (ps_set (i := 7) sc_law_web.nd rfl (Or.inl rfl) (pe_own c_picked hr (by decide) (by rfl) (pa_cons (pv 0) (pa_cons (pv 4) (pa_cons (pe_ix ix_list (pe_lst (pa_cons pe_int (pa_cons pe_int (pa_cons pe_int (pa_cons pe_int (pa_cons pe_int (pa_cons pe_int (pa_cons pe_int pa_nil)))))))) (pe_own c_take hr (by decide) (by rfl) (pa_cons (pv 0) (pa_cons pe_int pa_nil))) (fun _ _ => rfl)) pa_nil)))))
      (pss_one (ps_expr (pe_bm PySem.F.plainAttrs_list PySem.F.slot_list_append PySem.F.type_list_append mt_append (pv 5) (pa_cons (pe_tupF (pa_cons (pe_callTy call_tupleF (by rfl) B.tuple (by decide +kernel) (pa_cons (pv 7) pa_nil)) (pa_cons (pe_own c_tos hr (by decide) (by rfl) (pa_cons (pv 0) (pa_cons (pv 6) (pa_cons (pv 3) pa_nil)))) pa_nil))) pa_nil))))))
      (pss_one (ps_ret (pv 5))))))), ?_⟩
    refine ⟨_, rfl, _, rfl, p, mr, rfl, hp, r1, by omega, fun rr o rr0 rr1 po => ?_⟩
    have hp1 : PoolAt (upd H p o) p := ⟨o, upd_same, po⟩
    obtain ⟨n, hn⟩ : ∃ n : Nat, 1 + rr = (n : Int) := ⟨(1 + rr).toNat, by omega⟩
    refine ⟨_, _, rfl, rfl, ?_⟩
    refine ⟨_, rfl, 100, rfl, ⟨by decide, by decide, by decide, by decide, by decide⟩, fun b nb => ?_⟩
    rw [hundred_rg]
    have ebp : b ≠ p := pool_ne hp1 nb
    refine ⟨_, rfl, _, rfl, p, mo, rfl, hp1.upd ebp.symm, o1, by omega, fun ro o2 ro0 ro1 po2 => ?_⟩
    refine ⟨_, _, rfl, rfl, p, b, hundred, _, rfl, ⟨o2, upd_same, po2⟩, SqL.of (by rw [upd_ne ebp, upd_same]), ebp, hundred_nd, (by rw [hundred_len]; decide), (by omega), fun ra H2 ms nra k2 hp2 hra nd hsub hml hle => ?_⟩
    have kk2 : Kept p H H2 := ((Kept.upd p H o).trans ((Kept.same (same_upd nb)).trans (Kept.upd p _ o2))).trans k2
    have erp : ra ≠ p := (free_upd nra).1
    have hml12 : ms.length ≤ 12 := by
      rw [hml]
      omega
    have hr99 : ∀ k ∈ ms, 0 ≤ k ∧ k ≤ 99 := fun k hk => by
      have := hundred_mem (hsub k hk)
      omega
    have hall : ∀ rs : List Rw, (∀ r ∈ rs, RowOk n r ∧ ∀ k ∈ r.1, k ∈ ms) → ∀ k ∈ allRooms rs, k ∈ ms := by
      intro rs hrow k hk
      obtain ⟨l, hl, hk⟩ := List.mem_flatten.mp hk
      obtain ⟨r, hr, rfl⟩ := List.mem_map.mp hl
      exact (hrow r hr).2 k hk
    refine ⟨(by show 0 ≤ sizeLine; decide), fun wa nwa => ?_⟩
    have ewp : wa ≠ p := pool_ne hp2 nwa
    have ewr : ra ≠ wa := ne_of_none hra nwa
    have nwa0 : H wa = none := kk2.free ewp nwa
    refine ⟨_, rfl, _, congrArg (fun z => [V.int z]) hn, by omega, by omega, ?_⟩
    rw [show ((n : Int)).toNat = n by omega]
    refine for_range (lo := 0) (n := n) (fun i σ H3 => ∃ (y6 y7 : Option V) (ws : List V) (rs : List Rw), σ = [some (.ref p), some (.int mr), some (.int mo), some (.int n), some (.ref ra), some (.ref wa), y6, y7] ∧ H3 wa = some (.lst ws) ∧ RowsAt H3 ws rs ∧ rs.length = i ∧ (∀ r ∈ rs, RowOk n r ∧ ∀ k ∈ r.1, k ∈ ms) ∧ H3 ra = some (.lst (ms.map V.int)) ∧ PoolAt H3 p ∧ Kept p H H3) ?_ ?_ ?_
    · refine ⟨none, none, [], [], ?_, upd_same, trivial, rfl, fun r hr => (List.not_mem_nil hr).elim, (by rw [upd_ne ewr]; exact hra), hp2.upd ewp.symm, kk2.set nwa0⟩
      rw [← hn]
      rfl
    · rintro i σ H3 hi ⟨y6, y7, ws, rs, rfl, hwa, hrs, hlen, hrow, hra3, hp3, k3⟩
      have hwl := hrs.len
      refine ⟨_, rfl, _, rfl, (by show 7 ≤ sizeLine; decide), fun L nL => ?_⟩
      have eLp : L ≠ p := pool_ne hp3 nL
      refine ⟨_, rfl, p, 7, rfl, hp3.upd eLp.symm, by decide, by decide, fun r3 o3 r30 r31 po3 => ?_⟩
      obtain ⟨v, hv, ev⟩ := cons_nil_fin (xs := [V.int 1, .int 1, .int 1, .int 1, .int 0, .int 2, .int 3]) 7 rfl r30 r31
      obtain ⟨m, em, hm⟩ : ∃ m : Nat, v = .int m ∧ m ≤ 3 := by
        simp only [List.mem_cons, List.not_mem_nil, or_false] at hv
        rcases hv with e | e | e | e | e | e | e
        all_goals first
          | exact ⟨0, e, by decide⟩
          | exact ⟨1, e, by decide⟩
          | exact ⟨2, e, by decide⟩
          | exact ⟨3, e, by decide⟩
      subst em
      have eLra : ra ≠ L := ne_of_none hra3 nL
      refine ⟨L, _, _, _, rfl, rfl, SqL.of (by rw [upd_ne eLp, upd_same]), ev, ?_⟩
      refine ⟨p, ra, ms, _, rfl, ⟨o3, upd_same, po3⟩, SqL.of (by rw [upd_ne erp, upd_ne eLra]; exact hra3), erp, nd, by omega, by omega, fun q1 H4 m1 nq1 k4 hp4 hq1 nd1 sub1 len1 le1 => ?_⟩
      have kk4 : Kept p H3 H4 := ((Kept.same (same_upd nL)).trans (Kept.upd p _ o3)).trans k4
      have hwa4 : H4 wa = some (.lst ws) := kk4 _ _ hwa ewp
      refine ⟨_, rfl, .inl ⟨rfl, _, SqL.of hwa4⟩, _, rfl, q1, _, rfl, SqL.of hq1, fun u5 H5 s5 nu5 pu5 => ?_⟩
      refine ⟨_, rfl, _, rfl, _, rfl, p, 0 + (i : Int), (n : Int), rfl, hp4.same s5, by omega, by omega, by omega, fun u6 H6 tos k6 hp6 hu6 ris6 => ?_⟩
      refine ⟨(by show 2 ≤ sizeLine; decide), fun t3 H7 s7 nt3 pt3 => ?_⟩
      have kk7 : Kept p H3 H7 := ((kk4.trans (Kept.same s5)).trans k6).trans (Kept.same s7)
      have hwa7 : H7 wa = some (.lst ws) := kk7 _ _ hwa ewp
      refine ⟨wa, _, _, rfl, rfl, hwa7, small1000 (by omega), ?_⟩
      refine ⟨_, _, ws ++ [.ref t3], rs ++ [(m1, tos)], rfl, upd_same, ?_, (by rw [List.length_append, hlen]; rfl), fun r hr => ?_, ?_, ?_, ?_⟩
      · have kz : K2 H7 (upd H7 wa (.lst (ws ++ [.ref t3]))) := K2.lst hwa7
        refine RowsAt.snoc (hrs.keep ((K2.of kk7 hp3).trans kz)) ⟨t3, u5, u6, rfl, kz _ _ (.inl pt3), kz _ _ ((K2.of k6 (hp4.same s5) _ _ (.inl pu5)).same s7), kz _ _ (hu6.same s7)⟩
      · rcases List.mem_append.mp hr with z | z
        · exact hrow r z
        · rw [List.mem_singleton.mp z]
          refine ⟨⟨⟨pw_lt le1 nd1, fun k hk => (hr99 k (sub1 k hk)).1, fun k hk => (hr99 k (sub1 k hk)).2⟩, ?_, ris6⟩, sub1⟩
          show m1.length ≤ 6
          omega
      · rw [upd_ne ewr]
        exact kk7 _ _ hra3 erp
      · exact (hp6.same s7).upd ewp.symm
      · exact (k3.trans kk7).set nwa0
    · rintro σ H3 ⟨y6, y7, ws, rs, rfl, hwa, hrs, hlen, hrow, hra3, hp3, k3⟩
      refine ⟨_, rfl, q wa H3 rs nwa0 k3 hp3 ⟨ws, hwa, hrs⟩ ⟨by omega, by omega, fun r hr => (by rw [hlen]; exact (hrow r hr).1), ms, hml12, hall rs hrow⟩ (by omega) ⟨ms, by rw [hml]; omega, hall rs hrow⟩⟩
end
end Su
/-! ### Q1: the law's rooms, shuffled lists, new names -/
namespace Su
open PySem PySem.Spec PyProof.Rows L2
def spLRooms : Sp := fun vs H Q _ => ∃ (p : Addr) (rs : List Rw), vs = [.ref p] ∧ WebAt H p rs ∧ WebOk rs ∧
  ∀ (ms : List Int) (u : Addr) (H' : Hp), ms.Pairwise (· < ·) → (∀ k : Int, k ∈ ms ↔ k ∈ allRooms rs) → Same H H' → H u = none → H' u = some (.lst (ms.map V.int)) → Q (.ref u) H'
def spShuf : Sp := fun vs H Q _ => ∃ (p b : Addr) (xs : List V), vs = [.ref p, .ref b] ∧ PoolAt H p ∧ H b = some (.lst xs) ∧ b ≠ p ∧ xs.length ≤ 900 ∧
  ∀ (q : Addr) (H' : Hp) (us : List V), H q = none → Kept p H H' → PoolAt H' p → H' q = some (.lst us) → us.Perm xs → Q (.ref q) H'
/-- pairs of ints, as they lie -/
def PsAt (H : Hp) : List V → List (Int × Int) → Prop
  | [], [] => True
  | v :: vs, q :: qs => (∃ T, v = .ref T ∧ T2 H T [.int q.1, .int q.2]) ∧ PsAt H vs qs
  | _, _ => False
def NamesAt (H : Hp) (u : Addr) (ps : List (Int × Int)) : Prop := ∃ vs, H u = some (.lst vs) ∧ PsAt H vs ps
theorem PsAt.tg {p : Addr} {H : Hp} : ∀ {vs : List V} {ps : List (Int × Int)}, PsAt H vs ps → TgL p H vs (ps.map pairT)
  | [], [], _ => .nil
  | _ :: _, _ :: _, ⟨⟨T, e, h⟩, t⟩ => by
    subst e
    exact .cons (.tup h (.cons (.int _) (.cons (.int _) .nil))) t.tg
  | [], _ :: _, h => h.elim
  | _ :: _, [], h => h.elim
theorem PsAt.keep {H H' : Hp} (k : K2 H H') : ∀ {vs : List V} {ps : List (Int × Int)}, PsAt H vs ps → PsAt H' vs ps
  | [], [], _ => trivial
  | _ :: _, _ :: _, ⟨⟨T, e, h⟩, t⟩ => ⟨⟨T, e, k _ _ h⟩, t.keep k⟩
  | [], _ :: _, h => h.elim
  | _ :: _, [], h => h.elim
theorem PsAt.len {H : Hp} : ∀ {vs : List V} {ps : List (Int × Int)}, PsAt H vs ps → vs.length = ps.length
  | [], [], _ => rfl
  | _ :: _, _ :: _, ⟨_, t⟩ => by rw [List.length_cons, List.length_cons, t.len]
  | [], _ :: _, h => h.elim
  | _ :: _, [], h => h.elim
theorem PsAt.get {H : Hp} : ∀ {vs : List V} {ps : List (Int × Int)}, PsAt H vs ps → ∀ {i : Nat} {v : V}, vs[i]? = some v → ∃ q T, ps[i]? = some q ∧ v = .ref T ∧ T2 H T [.int q.1, .int q.2]
  | [], [], _, i, v, e => by simp at e
  | x :: _, q :: _, ⟨⟨T, e0, h⟩, t⟩, 0, v, e => by
    obtain rfl := (by simpa using e : x = v)
    exact ⟨q, T, rfl, e0, h⟩
  | _ :: _, _ :: _, ⟨_, t⟩, i + 1, v, e => t.get (i := i) (by simpa using e)
  | [], _ :: _, h, _, _, _ => h.elim
  | _ :: _, [], h, _, _, _ => h.elim
theorem PsAt.of {H : Hp} : ∀ {Ts : List Addr} {ps : List (Int × Int)}, Ts.length = ps.length → (∀ (i : Nat) (T : Addr) (q : Int × Int), Ts[i]? = some T → ps[i]? = some q → H T = some (.tup [.int q.1, .int q.2])) → PsAt H (Ts.map V.ref) ps
  | [], [], _, _ => trivial
  | T :: Ts, q :: ps, l, h => ⟨⟨T, rfl, .inr (h 0 T q rfl rfl)⟩, PsAt.of (by simpa using l) fun i T' q' e1 e2 => h (i + 1) T' q' (by simpa using e1) (by simpa using e2)⟩
  | [], _ :: _, l, _ => by cases l
  | _ :: _, [], l, _ => by cases l
theorem PsAt.perm {H : Hp} {us vs : List V} (h : us.Perm vs) : ∀ {ps : List (Int × Int)}, PsAt H vs ps → ∃ qs, qs.Perm ps ∧ PsAt H us qs := by
  induction h with
  | nil => exact fun {ps} z => ⟨ps, List.Perm.refl _, z⟩
  | cons x h ih =>
    intro ps z
    cases ps with
    | nil => exact z.elim
    | cons q ps =>
      obtain ⟨qs, h1, h2⟩ := ih z.2
      exact ⟨q :: qs, h1.cons q, z.1, h2⟩
  | swap x y l =>
    intro ps z
    cases ps with
    | nil => exact z.elim
    | cons q ps =>
      cases ps with
      | nil => exact z.2.elim
      | cons q2 ps => exact ⟨q2 :: q :: ps, List.Perm.swap _ _ _, z.2.1, z.1, z.2.2⟩
  | trans h1 h2 i1 i2 =>
    intro ps z
    obtain ⟨qs, a1, a2⟩ := i2 z
    obtain ⟨qs2, b1, b2⟩ := i1 a2
    exact ⟨qs2, b1.trans a1, b2⟩
theorem erase_permV {α : Type} : ∀ (l : List α) (j : Nat) (y : α), l[j]? = some y → (y :: l.eraseIdx j).Perm l
  | [], j, y, h => by simp at h
  | x :: l, 0, y, h => by
    obtain rfl := (by simpa using h : x = y)
    exact List.Perm.refl _
  | x :: l, j + 1, y, h => by
    rw [List.eraseIdx_cons_succ]
    exact (List.Perm.swap x y _).trans ((erase_permV l j y (by simpa using h)).cons x)
theorem perm_ints : ∀ {us : List V} {ms : List Int}, us.Perm (ms.map V.int) → ∃ ns : List Int, us = ns.map V.int ∧ ns.Perm ms := by
  intro us ms h
  have all : ∀ v ∈ us, ∃ i, v = V.int i := fun v hv => by
    obtain ⟨i, _, e⟩ := List.mem_map.mp (h.mem_iff.mp hv)
    exact ⟨i, e.symm⟩
  have out : ∀ l : List V, (∀ v ∈ l, ∃ i, v = V.int i) → ∃ ns : List Int, l = ns.map V.int := by
    intro l
    induction l with
    | nil => exact fun _ => ⟨[], rfl⟩
    | cons v l ih =>
      intro h
      obtain ⟨i, rfl⟩ := h v List.mem_cons_self
      obtain ⟨ns, e⟩ := ih fun x hx => h x (List.mem_cons_of_mem _ hx)
      exact ⟨i :: ns, by rw [e]; rfl⟩
  obtain ⟨ns, rfl⟩ := out us all
  refine ⟨ns, rfl, ?_⟩
  have z := h.map fun v => match v with
    | V.int i => i
    | _ => 0
  rw [List.map_map, List.map_map] at z
  have e : ∀ l : List Int, l.map ((fun v => match v with
    | V.int i => i
    | _ => (0 : Int)) ∘ V.int) = l := fun l => List.map_id' l
  rwa [e, e] at z
theorem mid {R M : L2.St → Hp → Prop} {G : Prop} (hR : ∀ σ H, M σ H → R σ H) (h : (∀ σ H, M σ H → R σ H) → G) : G := h hR
def spLNames : Sp := fun vs H Q _ => ∃ (p b : Addr) (ms : List Int), vs = [.ref p, .ref b] ∧ PoolAt H p ∧ H b = some (.lst (ms.map V.int)) ∧ b ≠ p ∧ ms.Pairwise (· < ·) ∧ (∀ k ∈ ms, 0 ≤ k ∧ k < 100) ∧ ms.length ≤ 100 ∧
  ∀ (u : Addr) (H' : Hp) (ps : List (Int × Int)), H u = none → Kept p H H' → PoolAt H' p → NamesAt H' u ps → NamesOk ps ms → Q (.ref u) H'
theorem sc_law_web_rooms : FnScope ["_law_web_here", "_law_found", "_law_rooms", "_law_tos_here", "_law_room"] ["_law_web_here"] (defScope s_law_web_rooms) := ⟨rfl, rfl, rfl, by decide +kernel, rfl, by decide +kernel, by decide +kernel⟩
theorem sc_law_shuffled : FnScope ["_law_pool_here", "_law_some", "_law_left", "_law_k"] ["_law_pool_here", "_law_some"] (defScope s_law_shuffled) := ⟨rfl, rfl, rfl, by decide +kernel, rfl, by decide +kernel, by decide +kernel⟩
theorem sc_law_names : FnScope ["_law_pool_here", "_law_rooms", "_law_new"] ["_law_pool_here", "_law_rooms"] (defScope s_law_names) := ⟨rfl, rfl, rfl, by decide +kernel, rfl, by decide +kernel, by decide +kernel⟩
section
variable {P : Program} {w : World} {K : PySem.W.Frag} {mg : Str → Option Value} {base : Heap}
theorem ok_lrooms (T : At K mg "_law_web_rooms" s_law_web_rooms ["_law_web_here"]) (B : Bt mg) : Cal P w K mg base 1 "_law_web_rooms" ["_law_web_here"] spLRooms := by
  refine cal_of T sc_law_web_rooms (fun vs H Q E h => ?_) (fun f cdv A outer s H vs Q E hr h => ?_)
  · obtain ⟨p, rs, rfl, _⟩ := h
    rfl
  · obtain ⟨p, rs, rfl, ⟨ws, hp, hrs⟩, ok, q⟩ := h
    have hwl := hrs.len
    have h80 := ok.few
    obtain ⟨S, hS, hin⟩ := ok.all
    refine ⟨_, (pss_cons (ps_set (i := 1) sc_law_web_rooms.nd rfl (Or.inl rfl) pe_dnewK)
      (pss_cons (ps_for PassesOwn.never rfl (pi_list (pv 0)) (pg_tup (by rfl) (pgs_cons (pg_name (i := 2) sc_law_web_rooms.nd rfl (Or.inl rfl)) (pgs_cons (pg_name (i := 3) sc_law_web_rooms.nd rfl (Or.inl rfl)) pgs_nil))) (pss_one (ps_for PassesOwn.never rfl (pi_tup (pv 2)) (pg_name (i := 4) sc_law_web_rooms.nd rfl (Or.inl rfl)) (pss_one (ps_dput (hu_of hr) (pv 1) (pv 4) pe_bl rfl)))))
      (pss_one (ps_ret (pe_callB (cr_sortedDI rfl) (by rfl) B.sorted (by decide +kernel) (pa_cons (pv 1) pa_nil)))))), ?_⟩
    refine fun D nD => ?_
    have good : ∀ {kvs : List (Key × V)} {ks : List Int} {l : List Int}, KeysI kvs ks → ks.Nodup → (∀ k, k ∈ ks ↔ k ∈ l) → (∀ k ∈ l, k ∈ S) → kvs.length ≤ 12 := by
      intro kvs ks l h nd mem hl
      rw [h.len]
      exact Nat.le_trans (nodup_few nd fun k hk => hl k ((mem k).mp hk)) hS
    refine ⟨_, rfl, p, rfl, ⟨_, SqL.of (same_upd nD _ _ hp)⟩, ?_⟩
    refine for_list (K := K) (a := p) (xs := ws) (fun j σ H2 => ∃ (y2 y3 y4 : Option V) (kvs : List (Key × V)) (ks : List Int), σ = [some (.ref p), some (.ref D), y2, y3, y4] ∧ H2 D = some (.dK kvs) ∧ KeysI kvs ks ∧ ks.Nodup ∧ (∀ k, k ∈ ks ↔ k ∈ allRooms (rs.take j)) ∧ Same H H2) ?_ ?_ ?_ ?_
    · exact ⟨none, none, none, [], [], rfl, upd_same, rfl, List.nodup_nil, fun k => by simp [allRooms], same_upd nD⟩
    · rintro j σ H2 _ ⟨_, _, _, _, _, _, _, _, _, _, s2⟩
      exact SqL.of (s2 _ _ hp)
    · rintro j x σ H2 hx ⟨y2, y3, y4, kvs, ks, rfl, hD, hks, nd, mem, s2⟩
      obtain ⟨r, er, ra, rb, rc, rfl, ha, hb, hc⟩ := hrs.get hx
      refine ⟨ra, _, rfl, (ha.same s2).sq, rfl, _, _, rfl, _, _, rfl, rfl, ?_⟩
      refine ⟨_, rfl, rb, rfl, ⟨_, (hb.same s2).sq⟩, ?_⟩
      refine for_tup (K := K) (a := rb) (xs := r.1.map V.int) (fun i σ H3 => ∃ (y4 : Option V) (kvs : List (Key × V)) (ks : List Int), σ = [some (.ref p), some (.ref D), some (.ref rb), some (.ref rc), y4] ∧ H3 D = some (.dK kvs) ∧ KeysI kvs ks ∧ ks.Nodup ∧ (∀ k, k ∈ ks ↔ k ∈ allRooms (rs.take j) ++ r.1.take i) ∧ Same H H3) ?_ ?_ ?_ ?_
      · exact ⟨_, kvs, ks, rfl, hD, hks, nd, fun k => by rw [List.take_zero, List.append_nil]; exact mem k, s2⟩
      · rintro i σ H3 _ ⟨_, _, _, _, _, _, _, _, s3⟩
        exact (hb.same s3).sq
      · rintro i y σ H3 hy ⟨y4, kvs, ks, rfl, hD3, hks3, nd3, mem3, s3⟩
        rw [List.getElem?_map] at hy
        obtain ⟨t, et, rfl⟩ := Option.map_eq_some_iff.mp hy
        have sub3 : ∀ k ∈ allRooms (rs.take j) ++ r.1.take i, k ∈ S := by
          intro k hk
          rcases List.mem_append.mp hk with z | z
          · exact hin k (allRooms_sub z)
          · refine hin k (allRooms_sub (i := j + 1) ?_)
            rw [allRooms_take er]
            exact List.mem_append_right _ (List.mem_of_mem_take z)
        have few := good hks3 nd3 mem3 sub3
        obtain ⟨ks', h1, h2, h3⟩ := hks3.put nd3 t (.bl true)
        refine ⟨_, rfl, _, rfl, D, _, rfl, DPut.k (k := Sum.inl t) hD3 (small1000 (by omega)), ?_⟩
        refine ⟨_, _, ks', rfl, upd_same, h1, h2, fun k => ?_, fun c o ec => ?_⟩
        · rw [h3 k, mem3 k, List.take_add_one, et, ← List.append_assoc]
          constructor
          · rintro (z | z)
            · exact List.mem_append_left _ z
            · exact List.mem_append_right _ (List.mem_singleton.mpr z)
          · intro z
            rcases List.mem_append.mp z with y | y
            · exact .inl y
            · exact .inr (List.mem_singleton.mp y)
        · rw [upd_ne (ne_of_none ec nD)]
          exact s3 _ _ ec
      · rintro σ H3 ⟨y4, kvs, ks, rfl, hD3, hks3, nd3, mem3, s3⟩
        refine ⟨_, _, _, kvs, ks, rfl, hD3, hks3, nd3, fun k => ?_, s3⟩
        rw [mem3 k, List.length_map, List.take_length, allRooms_take er]
    · rintro σ H2 ⟨y2, y3, y4, kvs, ks, rfl, hD, hks, nd, mem, s2⟩
      rw [hwl, List.take_length] at mem
      have few := good hks nd mem hin
      refine ⟨_, rfl, D, kvs, ks, rfl, hD, hks, (by rw [← hks.len]; omega), fun ys u pm so nu => ?_⟩
      exact q ys u _ (pw_lt so (pm.nodup_iff.mpr nd)) (fun k => (pm.mem_iff).trans (mem k)) (s2.trans (same_upd nu)) (s2.free nu) upd_same
theorem ok_shuffled (T : At K mg "_law_shuffled" s_law_shuffled ["_law_pool_here", "_law_some"]) (B : Bt mg) (c_take : Cal P w K mg base 1 "_law_take" ["_law_pool_here", "_law_many"] spTake) :
    Cal P w K mg base 2 "_law_shuffled" ["_law_pool_here", "_law_some"] spShuf := by
  refine cal_of T sc_law_shuffled (fun vs H Q E h => ?_) (fun f cdv A outer s H vs Q E hr h => ?_)
  · obtain ⟨p, b, xs, rfl, _⟩ := h
    rfl
  · obtain ⟨p, b, xs, rfl, hp, hS, hbp, hl, q⟩ := h
    refine ⟨_, (pss_cons (ps_set (i := 2) sc_law_shuffled.nd rfl (Or.inr rfl) (pe_callTy call_list_of (by rfl) B.list (by decide +kernel) (pa_cons (pv 1) pa_nil)))
      (pss_one (ps_ret (pe_lc (own := [("_law_k", 3)]) (g := (gName 3)) (tt := tYes) (te := (tBM K "list" rPopAt (tVar 2) (tCons (tCall spTake [] E0 (tCons (tVar 0) (tCons (tCB (rLenK K) (tCons (tVar 2) tNil)) tNil))) tNil))) (by rfl) sc_law_shuffled.nd (pi_range1 (by rfl) B.range (pa_cons (pe_callB call_len_seq (by rfl) B.len PySem.boot_len (pa_cons (pv 2) pa_nil)) pa_nil)) (blkOk_by (own := [("_law_k", 3)]) (N := ["_law_pool_here", "_law_some", "_law_left", "_law_k"]) (sc := defScope s_law_shuffled) (by decide +kernel)) (fun _ _ _ _ _ => (pg_name (i := 3) sc_law_shuffled.nd rfl (Or.inl rfl))) (fun _ _ _ _ _ => pts_nil) (fun _ _ _ _ _ => (pe_bm PySem.F.plainAttrs_list PySem.F.slot_list_pop PySem.F.type_list_pop mt_popAt (pv 2) (pa_cons (pe_own c_take hr (by decide) (by rfl) (pa_cons (pv 0) (pa_cons (pe_callB call_len_seq (by rfl) B.len PySem.boot_len (pa_cons (pv 2) pa_nil)) pa_nil))) pa_nil))))))), ?_⟩
    refine ⟨_, rfl, b, _, rfl, .inl (SqL.of hS), fun l nl => ?_⟩
    have elp : l ≠ p := pool_ne hp nl
    refine ⟨_, rfl, l, _, rfl, .inl (SqL.of upd_same), _, rfl, (by omega), (by omega), fun D nD => ?_⟩
    rw [show ((xs.length : Int)).toNat = xs.length by omega]
    refine lc_range (lo := 0) (n := xs.length) (fun i H2 => ∃ lf acc : List V, H2 l = some (.lst lf) ∧ H2 D = some (.lst acc) ∧ acc.length = i ∧ (acc ++ lf).Perm xs ∧ PoolAt H2 p ∧ Kept p H H2) ?_ ?_ ?_
    · obtain ⟨eDl, nD0⟩ := free_upd nD
      exact ⟨xs, [], (by rw [upd_ne eDl.symm, upd_same]), upd_same, rfl, List.Perm.refl _, (hp.upd elp.symm).upd (pool_ne hp nD0).symm, ((Kept.refl p H).set nl).set nD0⟩
    · rintro i H2 hi ⟨lf, acc, h1, h2, hlen, hpm, hpo, hk⟩
      obtain ⟨eDl, nD0⟩ := free_upd nD
      have eDp : D ≠ p := pool_ne hp nD0
      have hll : acc.length + lf.length = xs.length := by
        have := hpm.length_eq
        rw [List.length_append] at this
        exact this
      refine ⟨rfl, tyes ?_⟩
      refine ⟨_, rfl, .inl ⟨rfl, _, SqL.of h1⟩, _, rfl, _, rfl, l, _, rfl, .inl (SqL.of h1), p, _, rfl, hpo, ?_, ?_, fun r o r0 r1 po => ?_⟩
      · omega
      · omega
      · have hr1 : r.toNat < lf.length := by omega
        refine ⟨l, lf, r, r.toNat, lf[r.toNat], rfl, rfl, (by rw [upd_ne elp]; exact h1), by omega, by omega, seqIx r0 r1, List.getElem?_eq_getElem hr1, ?_⟩
        have hg : lf[r.toNat]? = some lf[r.toNat] := List.getElem?_eq_getElem hr1
        generalize lf[r.toNat] = y at *
        refine ⟨acc, (by rw [upd_ne eDl, upd_ne eDp]; exact h2), small1000 (by omega), lf.eraseIdx r.toNat, acc ++ [y], ?_, upd_same, ?_, ?_, ?_, ?_⟩
        · rw [upd_ne eDl.symm, upd_same]
        · rw [List.length_append, hlen]
          rfl
        · rw [List.append_assoc]
          exact ((erase_permV lf r.toNat y hg).append_left acc).trans hpm
        · exact PoolAt.upd (PoolAt.upd ⟨o, upd_same, po⟩ elp.symm) eDp.symm
        · exact (((hk.trans (Kept.upd p H2 o)).set nl).set nD0)
    · rintro H2 ⟨lf, acc, h1, h2, hlen, hpm, hpo, hk⟩
      obtain ⟨eDl, nD0⟩ := free_upd nD
      have hlf : lf = [] := by
        have := hpm.length_eq
        rw [List.length_append] at this
        exact List.eq_nil_of_length_eq_zero (by omega)
      subst hlf
      rw [List.append_nil] at hpm
      exact q D H2 acc nD0 hk hpo h2 hpm
theorem ok_lnames (T : At K mg "_law_names" s_law_names ["_law_pool_here", "_law_rooms"]) (B : Bt mg) (c_take : Cal P w K mg base 1 "_law_take" ["_law_pool_here", "_law_many"] spTake) (c_picked : Cal P w K mg base 2 "_law_picked" ["_law_pool_here", "_law_some", "_law_many"] (spPicked K)) (c_shuffled : Cal P w K mg base 2 "_law_shuffled" ["_law_pool_here", "_law_some"] spShuf) :
    Cal P w K mg base 3 "_law_names" ["_law_pool_here", "_law_rooms"] spLNames := by
  refine cal_of T sc_law_names (fun vs H Q E h => ?_) (fun f cdv A outer s H vs Q E hr h => ?_)
  · obtain ⟨p, b, ms, rfl, _⟩ := h
    rfl
  · obtain ⟨p, b, ms, rfl, hp, hb, hbp, pw, rg, hl, q⟩ := h
    refine ⟨_, (pss_cons (ps_set (i := 2) sc_law_names.nd rfl (Or.inl rfl) (pe_own c_shuffled hr (by decide) (by rfl) (pa_cons (pv 0) (pa_cons (pv 1) pa_nil))))
      (pss_cons (ps_if (pt_cmpR op_eq (pe_own c_take hr (by decide) (by rfl) (pa_cons (pv 0) (pa_cons pe_int pa_nil))) pe_int (nomark _)) (pss_one (ps_set (i := 2) sc_law_names.nd rfl (Or.inl rfl) (pe_own c_picked hr (by decide) (by rfl) (pa_cons (pv 0) (pa_cons (pe_listRg rfl (by rfl) B.list (prg_1 (by rfl) B.range pe_int)) (pa_cons (pe_callB call_len_seq (by rfl) B.len PySem.boot_len (pa_cons (pv 1) pa_nil)) pa_nil)))))) pss_nil)
      (pss_one (ps_ret (pe_own c_shuffled hr (by decide) (by rfl) (pa_cons (pv 0) (pa_cons (pe_listZip (by rfl) B.list (by rfl) B.zip (pa_cons (pv 1) (pa_cons (pv 2) pa_nil))) pa_nil))))))), ?_⟩
    refine ⟨_, rfl, _, rfl, p, b, _, rfl, hp, hb, hbp, by rw [List.length_map]; omega, fun n1 H1 us nn1 k1 hp1 hn1 pm1 => ?_⟩
    obtain ⟨ns, rfl, pmn⟩ := perm_ints pm1
    have hb1 : H1 b = some (.lst (ms.map V.int)) := k1 _ _ hb hbp
    have e1p : n1 ≠ p := pool_ne hp nn1
    have ndm : ms.Nodup := pw.imp fun h => Int.ne_of_lt h
    apply mid (M := fun σ H2 => ∃ (n : Addr) (ns : List Int), σ = [some (.ref p), some (.ref b), some (.ref n)] ∧ H2 n = some (.lst (ns.map V.int)) ∧ n ≠ p ∧ ns.Nodup ∧ (∀ k ∈ ns, 0 ≤ k ∧ k < 100) ∧ ns.length = ms.length ∧ H2 b = some (.lst (ms.map V.int)) ∧ Kept p H H2 ∧ PoolAt H2 p)
    case h =>
      intro rest
      refine ⟨_, rfl, p, 2, rfl, hp1, by decide, by decide, fun r o r0 r1 po => ?_⟩
      have hp2 : PoolAt (upd H1 p o) p := ⟨o, upd_same, po⟩
      have k2 : Kept p H (upd H1 p o) := k1.trans (Kept.upd p H1 o)
      have hb2 : (upd H1 p o) b = some (.lst (ms.map V.int)) := k2 _ _ hb hbp
      refine ⟨rfl, _, rfl, iteB (fun z => ?_) (fun z => ?_)⟩
      · refine ⟨_, rfl, 100, rfl, ⟨by decide, by decide, by decide, by decide, by decide⟩, fun c nc => ?_⟩
        rw [hundred_rg]
        have ecp : c ≠ p := pool_ne hp2 nc
        have sc := same_upd (o := .lst (hundred.map V.int)) nc
        refine ⟨_, rfl, b, _, rfl, .inl (SqL.of (sc _ _ hb2)), p, c, hundred, _, rfl, hp2.same sc, SqL.of upd_same, ecp, hundred_nd, (by rw [hundred_len]; decide), (by omega), fun n H3 ns2 nn k3 hp3 hn nd2 sub2 len2 le2 => ?_⟩
        have k23 := (Kept.same (p := p) sc).trans k3
        dsimp only [gName]
        refine rest _ _ ⟨n, ns2, rfl, hn, pool_ne (hp2.same sc) nn, nd2, fun k hk => hundred_mem (sub2 k hk), ?_, k23 _ _ hb2 hbp, k2.trans k23, hp3⟩
        rw [len2, List.length_map, hundred_len]
        omega
      · dsimp only [tNext]
        refine rest _ _ ⟨n1, ns, rfl, (Kept.upd p H1 o) _ _ hn1 e1p, e1p, pmn.nodup_iff.mpr ndm, fun k hk => rg k (pmn.mem_iff.mp hk), pmn.length_eq, hb2, k2, hp2⟩
    case hR =>
      rintro σ H2 ⟨n, ns, rfl, hn, enp, nd, rgn, len, hb2, k2, hp2⟩
      refine ⟨_, rfl, _, rfl, _, rfl, b, n, _, _, rfl, SqL.of hb2, SqL.of hn, fun L Ts H3 s3 nL hL lT pr => ?_⟩
      rw [List.length_map, List.length_map] at lT
      have hp3 := hp2.same s3
      have eLp : L ≠ p := pool_ne hp2 nL
      refine ⟨p, L, _, rfl, hp3, hL, eLp, (by rw [List.length_map]; omega), fun u H4 us nu k4 hp4 hu pm => ?_⟩
      have ps0 : PsAt H3 (Ts.map V.ref) (ms.zip ns) := PsAt.of (by rw [List.length_zip]; exact lT) fun i T q e1 e2 => by
        obtain ⟨z1, z2⟩ := List.getElem?_zip_eq_some.mp e2
        exact pr i T (.int q.1) (.int q.2) e1 (by rw [List.getElem?_map, z1]; rfl) (by rw [List.getElem?_map, z2]; rfl)
      obtain ⟨qs, pq, hq⟩ := PsAt.perm pm (ps0.keep (K2.of k4 hp3))
      have k23 : Kept p H2 H4 := (Kept.same s3).trans k4
      have e1 : (ms.zip ns).map (·.1) = ms := List.map_fst_zip (by omega)
      have e2 : (ms.zip ns).map (·.2) = ns := List.map_snd_zip (by omega)
      have eup : u ≠ p := pool_ne hp3 nu
      refine q u H4 qs (k2.free eup (s3.free nu)) (k2.trans k23) hp4 ⟨us, hu, hq⟩ ⟨fun q1 h1 => ?_, ?_, ?_⟩
      · have h2 := pq.mem_iff.mp h1
        refine ⟨rg q1.1 ?_, rgn q1.2 ?_⟩
        · rw [← e1]
          exact List.mem_map.mpr ⟨q1, h2, rfl⟩
        · rw [← e2]
          exact List.mem_map.mpr ⟨q1, h2, rfl⟩
      · have := pq.map (·.1)
        rw [e1] at this
        exact this
      · have := pq.map (·.2)
        rw [e2] at this
        exact this.nodup_iff.mpr nd
end
end Su
/-! ### Q2: what is due: the law's own called and ordered -/
namespace Su
open PySem PySem.Spec PyProof.Rows L2
def spLCalled : Sp := fun vs H Q _ => ∃ (a b : Addr) (rs : List Rw) (ps : List (Int × Int)), vs = [.ref a, .ref b] ∧ WebAt H a rs ∧ WebOk rs ∧ NamesAt H b ps ∧ NamesOk ps (roomsR rs) ∧ ps.length ≤ 900 ∧
  ∀ (u : Addr) (H' : Hp), H u = none → Same H H' → WebAt H' u (rs.map (calR ps)) → Q (.ref u) H'
def spLOrdered : Sp := fun vs H Q _ => ∃ (a b : Addr) (rs : List Rw) (os : List Int), vs = [.ref a, .ref b] ∧ WebAt H a rs ∧ WebOk rs ∧ H b = some (.lst (os.map V.int)) ∧ OrdOk rs.length os ∧
  ∀ (u : Addr) (H' : Hp), H u = none → Same H H' → WebAt H' u (ordR rs os) → Q (.ref u) H'
theorem head_new {ps : List (Int × Int)} {k : Int} (h : k ∈ ps.map (·.1)) : ∃ l, (ps.filter fun q => decide (q.1 = k)).map (·.2) = newAt ps k :: l := by
  have z : (ps.filter fun q => decide (q.1 = k)).head? = ps.find? fun q => decide (q.1 = k) := List.head?_filter ..
  obtain ⟨q, hq, e⟩ := List.mem_map.mp h
  cases f : ps.filter fun q => decide (q.1 = k) with
  | nil =>
    have : q ∈ ps.filter fun q => decide (q.1 = k) := List.mem_filter.mpr ⟨hq, decide_eq_true e⟩
    rw [f] at this
    cases this
  | cons x l =>
    rw [f] at z
    refine ⟨l.map (·.2), ?_⟩
    unfold newAt
    rw [← z]
    rfl
theorem flat_ints (os : List Int) : (os.map V.int).all flatV = true := by
  rw [List.all_map]
  exact List.all_eq_true.mpr fun _ _ => rfl
theorem sc_law_called : FnScope ["_law_web_here", "_law_names_here", "_law_found", "_law_rooms", "_law_tos_here", "_law_room", "_law_old", "_law_new"] ["_law_web_here", "_law_names_here"] (defScope s_law_called) := ⟨rfl, rfl, rfl, by decide +kernel, rfl, by decide +kernel, by decide +kernel⟩
theorem sc_law_ordered : FnScope ["_law_web_here", "_law_order", "_law_found", "_law_row", "_law_rooms", "_law_tos_here", "_law_to"] ["_law_web_here", "_law_order"] (defScope s_law_ordered) := ⟨rfl, rfl, rfl, by decide +kernel, rfl, by decide +kernel, by decide +kernel⟩
section
variable {P : Program} {w : World} {K : PySem.W.Frag} {mg : Str → Option Value} {base : Heap}
theorem ok_lcalled (T : At K mg "_law_called" s_law_called ["_law_web_here", "_law_names_here"]) (B : Bt mg) :
    Cal P w K mg base 1 "_law_called" ["_law_web_here", "_law_names_here"] spLCalled := by
  refine cal_of T sc_law_called (fun vs H Q E h => ?_) (fun f cdv A outer s H vs Q E hr h => ?_)
  · obtain ⟨a, b, rs, ps, rfl, _⟩ := h
    rfl
  · obtain ⟨a, b, rs, ps, rfl, ⟨wa, hwa, hra⟩, okA, ⟨us, hb, hps⟩, ok, lps, q⟩ := h
    have hal := hra.len
    have hlA := okA.few
    have hul := hps.len
    refine ⟨_, (pss_cons (ps_set (i := 2) sc_law_called.nd rfl (Or.inl rfl) (pe_lst pa_nil))
      (pss_cons (ps_for PassesOwn.never rfl (pi_list (pv 0)) (pg_tup (by rfl) (pgs_cons (pg_name (i := 3) sc_law_called.nd rfl (Or.inl rfl)) (pgs_cons (pg_name (i := 4) sc_law_called.nd rfl (Or.inl rfl)) pgs_nil))) (pss_one (ps_expr (pe_bm PySem.F.plainAttrs_list PySem.F.slot_list_append PySem.F.type_list_append mt_append (pv 2) (pa_cons (pe_tupF (pa_cons (pe_callTy call_tupleF (by rfl) B.tuple (by decide +kernel) (pa_cons (pe_callB cr_sortedI (by rfl) B.sorted (by decide +kernel) (pa_cons (pe_lc (own := [("_law_room", 5)]) (g := (gName 5)) (tt := tYes) (te := (tOp (rIxL K) (tLc (iList K (tVar 1)) (gTup K 2 (gCons (gName 6) (gCons (gName 7) gNil))) (tTest (tOp rEq (tVar 6) (tVar 5))) (tVar 7) [6, 7]) (tC (.int 0)))) (by rfl) sc_law_called.nd (pi_tup (pv 3)) (blkOk_by (own := [("_law_room", 5)]) (N := ["_law_web_here", "_law_names_here", "_law_found", "_law_rooms", "_law_tos_here", "_law_room", "_law_old", "_law_new"]) (sc := defScope s_law_called) (by decide +kernel)) (fun _ _ _ _ _ => (pg_name (i := 5) sc_law_called.nd rfl (Or.inr rfl))) (fun _ _ _ _ _ => pts_nil) (fun _ _ _ _ _ => (pe_ix ix_list (pe_lc (own := [("_law_old", 6), ("_law_new", 7)]) (g := (gTup K 2 (gCons (gName 6) (gCons (gName 7) gNil)))) (tt := (tTest (tOp rEq (tVar 6) (tVar 5)))) (te := (tVar 7)) (by rfl) sc_law_called.nd (pi_list (pv 1)) (blkOk_in (own := [("_law_old", 6), ("_law_new", 7)]) (N := ["_law_web_here", "_law_names_here", "_law_found", "_law_rooms", "_law_tos_here", "_law_room", "_law_old", "_law_new"]) ["_law_room"] (by decide +kernel) (List.forall_mem_cons.mpr ⟨Or.inl rfl, (List.forall_mem_nil _)⟩)) (fun _ _ _ _ _ => (pg_tup (by rfl) (pgs_cons (pg_name (i := 6) sc_law_called.nd rfl (Or.inl rfl)) (pgs_cons (pg_name (i := 7) sc_law_called.nd rfl (Or.inl rfl)) pgs_nil)))) (fun _ _ _ _ _ => pts_one (pt_cmpR op_eq (pv 6) (pv 5) (nomark _))) (fun _ _ _ _ _ => (pv 7))) pe_int (fun _ _ => rfl)))) pa_nil)) pa_nil)) (pa_cons (pv 4) pa_nil))) pa_nil)))))
      (pss_one (ps_ret (pv 2))))), ?_⟩
    refine ⟨(by show 0 ≤ sizeLine; decide), fun L nL => ?_⟩
    refine ⟨_, rfl, a, rfl, ⟨_, SqL.of (same_upd nL _ _ hwa)⟩, ?_⟩
    refine for_list (K := K) (a := a) (xs := wa) (fun j σ H2 => ∃ (y3 y4 y5 y6 y7 : Option V) (vs : List V), σ = [some (.ref a), some (.ref b), some (.ref L), y3, y4, y5, y6, y7] ∧ H2 L = some (.lst vs) ∧ RowsAt H2 vs ((rs.take j).map (calR ps)) ∧ Same H H2) ?_ ?_ ?_ ?_
    · exact ⟨none, none, none, none, none, [], rfl, upd_same, trivial, same_upd nL⟩
    · rintro j σ H2 _ ⟨_, _, _, _, _, _, _, _, _, s2⟩
      exact SqL.of (s2 _ _ hwa)
    · rintro j x σ H2 hx ⟨y3, y4, y5, y6, y7, vs, rfl, hL, hvs, s2⟩
      obtain ⟨r, er, ra, rb, rc, rfl, ha, hb', hc⟩ := hra.get hx
      have hjl : j < rs.length := (List.getElem?_eq_some_iff.mp er).1
      have rok := okA.row r (List.mem_of_getElem? er)
      have hvl := hvs.len
      rw [List.length_map, List.length_take] at hvl
      refine ⟨ra, _, rfl, (ha.same s2).sq, rfl, _, _, rfl, _, _, rfl, rfl, ?_⟩
      refine ⟨_, rfl, .inl ⟨rfl, _, SqL.of hL⟩, ?_⟩
      refine ⟨_, rfl, rb, rfl, ⟨_, (hb'.same s2).sq⟩, fun D3 nD3 => ?_⟩
      refine lc_tup (K := K) (a := rb) (xs := r.1.map V.int) (fun i H6 => H6 D3 = some (.lst (((r.1.take i).map (newAt ps)).map V.int)) ∧ Same H2 H6) ?_ ?_ ?_ ?_
      · exact ⟨upd_same, same_upd nD3⟩
      · rintro i H6 _ ⟨_, s6⟩
        exact (hb'.same (s2.trans s6)).sq
      · rintro i y H6 hy ⟨hD6, s6⟩
        rw [List.getElem?_map] at hy
        obtain ⟨k, ek, rfl⟩ := Option.map_eq_some_iff.mp hy
        have hil : i < r.1.length := (List.getElem?_eq_some_iff.mp ek).1
        have hr6 := rok.few
        have inr : k ∈ allRooms rs := List.mem_flatten.mpr ⟨r.1, List.mem_map.mpr ⟨r, List.mem_of_getElem? er, rfl⟩, List.mem_of_getElem? ek⟩
        have inp : k ∈ ps.map (·.1) := ok.all.mem_iff.mpr ((srt_perm _).mem_iff.mpr ((oneEach_mem k _).mpr inr))
        have s06 := s2.trans s6
        have hb6 := s06 _ _ hb
        have hps6 := hps.keep (K2.same s06)
        refine ⟨rfl, tyes ?_⟩
        refine ⟨_, rfl, b, rfl, ⟨_, SqL.of hb6⟩, fun D4 nD4 => ?_⟩
        refine lc_list (K := K) (a := b) (xs := us) (fun m H7 => Same H6 H7 ∧ H7 D4 = some (.lst ((((ps.take m).filter fun q => decide (q.1 = k)).map (·.2)).map V.int))) ?_ ?_ ?_ ?_
        · exact ⟨same_upd nD4, upd_same⟩
        · rintro m H7 _ ⟨s7, _⟩
          exact SqL.of (s7 _ _ hb6)
        · rintro m x H7 hx ⟨s7, hD7⟩
          obtain ⟨q1, T1, eq1, rfl, eb⟩ := hps6.get hx
          have hm : m < ps.length := (List.getElem?_eq_some_iff.mp eq1).1
          refine ⟨T1, _, rfl, (eb.same s7).sq, rfl, _, _, rfl, _, _, rfl, rfl, rfl, ?_⟩
          refine ⟨_, rfl, _, rfl, rfl, _, rfl, iteB (fun z => ?_) (fun z => ?_)⟩
          · have e1 : q1.1 = k := by
              have := of_decide_eq_true z
              injection this
            refine ⟨_, rfl, _, hD7, ?_, fun c o ec => ?_, ?_⟩
            · rw [List.length_map, List.length_map]
              have h1 := List.length_filter_le (fun q : Int × Int => decide (q.1 = k)) (ps.take m)
              rw [List.length_take] at h1
              exact small1000 (by omega)
            · rw [upd_ne (ne_of_none ec nD4)]
              exact s7 _ _ ec
            · rw [upd_same, take_one eq1, List.filter_append, List.map_append, List.map_append, show (([q1] : List (Int × Int)).filter fun q => decide (q.1 = k)) = [q1] by simp [e1]]
              rfl
          · have e1 : ¬ q1.1 = k := by
              intro h
              rw [h] at z
              exact of_decide_eq_false z rfl
            refine ⟨s7, ?_⟩
            rw [take_one eq1, List.filter_append, show (([q1] : List (Int × Int)).filter fun q => decide (q.1 = k)) = [] by simp [e1], List.append_nil]
            exact hD7
        · rintro H7 ⟨s7, hD7⟩
          rw [hul, List.take_length] at hD7
          obtain ⟨l, el⟩ := head_new inp
          rw [el] at hD7
          refine ⟨D4, _, _, _, rfl, rfl, SqL.of hD7, atI_nat (j := 0) rfl, ?_⟩
          refine ⟨_, s7 _ _ hD6, ?_, ?_, fun c o ec => ?_⟩
          · rw [List.length_map, List.length_map, List.length_take]
            exact small1000 (by omega)
          · rw [upd_same, List.take_add_one, ek, List.map_append, List.map_append]
            rfl
          · rw [upd_ne (ne_of_none ec nD3)]
            exact s7 _ _ (s6 _ _ ec)
      · rintro H6 ⟨hD6, s6⟩
        rw [List.length_map, List.take_length] at hD6
        refine ⟨D3, _, rfl, SqL.of hD6, fun us2 u6 pm so nu6 => ?_⟩
        obtain rfl := srt_of pm so
        refine ⟨u6, _, rfl, SqL.of upd_same, fun t7 H7 s7 nt7 pt7 => ?_⟩
        refine ⟨_, rfl, (by show 2 ≤ sizeLine; decide), fun t8 H8 s8 nt8 pt8 => ?_⟩
        have s58 : Same H2 H8 := ((s6.trans (same_upd nu6)).trans s7).trans s8
        have hL8 := s58 _ _ hL
        refine ⟨L, _, _, rfl, rfl, hL8, small1000 (by omega), ?_⟩
        refine ⟨_, _, _, _, _, vs ++ [.ref t8], rfl, upd_same, ?_, fun c o ec => ?_⟩
        · have kz : K2 H8 (upd H8 L (.lst (vs ++ [.ref t8]))) := K2.lst hL8
          rw [List.take_add_one, er, List.map_append]
          exact RowsAt.snoc (hvs.keep ((K2.same s58).trans kz)) ⟨t8, t7, rc, rfl, kz _ _ (.inl pt8), kz _ _ (T2.same (.inl pt7) s8), kz _ _ (hc.same (s2.trans s58))⟩
        · rw [upd_ne (ne_of_none ec nL)]
          exact s58 _ _ (s2 _ _ ec)
    · rintro σ H2 ⟨y3, y4, y5, y6, y7, vs, rfl, hL, hvs, s2⟩
      rw [hal, List.take_length] at hvs
      exact ⟨_, rfl, q L H2 nL s2 ⟨vs, hL, hvs⟩⟩
theorem ok_lordered (T : At K mg "_law_ordered" s_law_ordered ["_law_web_here", "_law_order"]) (B : Bt mg) :
    Cal P w K mg base 1 "_law_ordered" ["_law_web_here", "_law_order"] spLOrdered := by
  refine cal_of T sc_law_ordered (fun vs H Q E h => ?_) (fun f cdv A outer s H vs Q E hr h => ?_)
  · obtain ⟨a, b, rs, os, rfl, _⟩ := h
    rfl
  · obtain ⟨a, b, rs, os, rfl, ⟨wa, hwa, hra⟩, okA, hb, ok, q⟩ := h
    have hal := hra.len
    have hlA := okA.few
    have nd : os.Nodup := ok.all.nodup_iff.mpr (rgI_nd _)
    have los : os.length = rs.length := ok.all.length_eq.trans (rgI_len _)
    refine ⟨_, (pss_cons (ps_set (i := 2) sc_law_ordered.nd rfl (Or.inl rfl) (pe_lst pa_nil))
      (pss_cons (ps_for PassesOwn.never rfl (pi_list (pv 1)) (pg_name (i := 3) sc_law_ordered.nd rfl (Or.inl rfl)) (pss_cons (ps_asg (pe_ix ix_list (pv 0) (pv 3) (fun _ _ => rfl)) (pg_tup (by rfl) (pgs_cons (pg_name (i := 4) sc_law_ordered.nd rfl (Or.inl rfl)) (pgs_cons (pg_name (i := 5) sc_law_ordered.nd rfl (Or.inl rfl)) pgs_nil))))
      (pss_one (ps_expr (pe_bm PySem.F.plainAttrs_list PySem.F.slot_list_append PySem.F.type_list_append mt_append (pv 2) (pa_cons (pe_tupF (pa_cons (pv 4) (pa_cons (pe_callTy call_tupleF (by rfl) B.tuple (by decide +kernel) (pa_cons (pe_callB cr_sortedI (by rfl) B.sorted (by decide +kernel) (pa_cons (pe_lc (own := [("_law_to", 6)]) (g := (gName 6)) (tt := tYes) (te := (tBM K "list" (rIndex K) (tVar 1) (tCons (tVar 6) tNil))) (by rfl) sc_law_ordered.nd (pi_tup (pv 5)) (blkOk_by (own := [("_law_to", 6)]) (N := ["_law_web_here", "_law_order", "_law_found", "_law_row", "_law_rooms", "_law_tos_here", "_law_to"]) (sc := defScope s_law_ordered) (by decide +kernel)) (fun _ _ _ _ _ => (pg_name (i := 6) sc_law_ordered.nd rfl (Or.inl rfl))) (fun _ _ _ _ _ => pts_nil) (fun _ _ _ _ _ => (pe_bm PySem.F.plainAttrs_list PySem.F.slot_list_index PySem.F.type_list_index mt_index (pv 1) (pa_cons (pv 6) pa_nil)))) pa_nil)) pa_nil)) pa_nil))) pa_nil))))))
      (pss_one (ps_ret (pv 2))))), ?_⟩
    refine ⟨(by show 0 ≤ sizeLine; decide), fun L nL => ?_⟩
    refine ⟨_, rfl, b, rfl, ⟨_, SqL.of (same_upd nL _ _ hb)⟩, ?_⟩
    refine for_list (K := K) (a := b) (xs := os.map V.int) (fun j σ H2 => ∃ (y3 y4 y5 y6 : Option V) (vs : List V), σ = [some (.ref a), some (.ref b), some (.ref L), y3, y4, y5, y6] ∧ H2 L = some (.lst vs) ∧ RowsAt H2 vs ((os.take j).map (ordRow rs os)) ∧ Same H H2) ?_ ?_ ?_ ?_
    · exact ⟨none, none, none, none, [], rfl, upd_same, trivial, same_upd nL⟩
    · rintro j σ H2 _ ⟨_, _, _, _, _, _, _, _, s2⟩
      exact SqL.of (s2 _ _ hb)
    · rintro j x σ H2 hx ⟨y3, y4, y5, y6, vs, rfl, hL, hvs, s2⟩
      rw [List.getElem?_map] at hx
      obtain ⟨k, ek, rfl⟩ := Option.map_eq_some_iff.mp hx
      have hjl : j < os.length := (List.getElem?_eq_some_iff.mp ek).1
      have hk := rgI_mem.mp (ok.all.mem_iff.mp (List.mem_of_getElem? ek))
      obtain ⟨kn, rfl⟩ : ∃ kn : Nat, k = (kn : Int) := ⟨k.toNat, by omega⟩
      have hkw : wa[kn]? = some wa[kn] := List.getElem?_eq_getElem (by omega)
      obtain ⟨r, er, ra, rb, rc, ew, ha, hb', hc⟩ := hra.get hkw
      have rok := okA.row r (List.mem_of_getElem? er)
      have era : rowAt rs (kn : Int) = r := by
        unfold rowAt
        rw [Int.toNat_natCast, List.getD_eq_getElem?_getD, er]
        rfl
      have hvl := hvs.len
      rw [List.length_map, List.length_take] at hvl
      have hix : atI wa ((kn : Nat) : Int) = some (.ref ra) := atI_nat (by rw [hkw, ew])
      refine ⟨_, rfl, _, rfl, a, _, _, _, rfl, rfl, SqL.of (s2 _ _ hwa), hix, ?_⟩
      refine ⟨ra, _, rfl, (ha.same s2).sq, rfl, _, _, rfl, _, _, rfl, rfl, ?_⟩
      refine ⟨_, rfl, .inl ⟨rfl, _, SqL.of hL⟩, ?_⟩
      refine ⟨_, rfl, _, rfl, rc, rfl, ⟨_, (hc.same s2).sq⟩, fun D3 nD3 => ?_⟩
      refine lc_tup (K := K) (a := rc) (xs := r.2.map V.int) (fun i H6 => H6 D3 = some (.lst (((r.2.take i).map (placeAt os)).map V.int)) ∧ Same H2 H6) ?_ ?_ ?_ ?_
      · exact ⟨upd_same, same_upd nD3⟩
      · rintro i H6 _ ⟨_, s6⟩
        exact (hc.same (s2.trans s6)).sq
      · rintro i y H6 hy ⟨hD6, s6⟩
        rw [List.getElem?_map] at hy
        obtain ⟨t', et, rfl⟩ := Option.map_eq_some_iff.mp hy
        have hil : i < r.2.length := (List.getElem?_eq_some_iff.mp et).1
        have hr2 := ris_len rok.tos
        have t0 := rok.tos.lo _ (List.mem_of_getElem? et)
        have t1 := rok.tos.hi _ (List.mem_of_getElem? et)
        have hb6 := s6 _ _ (s2 _ _ hb)
        have hk : t' ∈ os := ok.all.mem_iff.mpr (rgI_mem.mpr ⟨t0, by omega⟩)
        obtain ⟨j', hj, ej⟩ := List.mem_iff_getElem.mp hk
        have e2 : os[j']? = some t' := by rw [List.getElem?_eq_getElem hj, ej]
        refine ⟨rfl, tyes ?_⟩
        refine ⟨_, rfl, .inl ⟨rfl, _, SqL.of hb6⟩, _, rfl, b, _, V.int t', j', V.int t', rfl, rfl, SqL.of hb6, rfl, flat_ints os, by rw [List.getElem?_map, e2]; rfl, by simp [eqV], fun m z' hm ez => ?_, ?_⟩
        · rw [List.getElem?_map] at ez
          obtain ⟨k', ek', rfl⟩ := Option.map_eq_some_iff.mp ez
          have ne : k' ≠ t' := by
            rintro rfl
            have := (List.getElem?_inj hj nd).mp (e2.trans ek'.symm)
            omega
          simp [eqV, ne]
        refine ⟨_, hD6, ?_, ?_, fun c o ec => ?_⟩
        · rw [List.length_map, List.length_map, List.length_take]
          exact small1000 (by omega)
        · rw [upd_same, List.take_add_one, et, List.map_append, List.map_append, ← placeAt_of nd e2]
          rfl
        · rw [upd_ne (ne_of_none ec nD3)]
          exact s6 _ _ ec
      · rintro H6 ⟨hD6, s6⟩
        rw [List.length_map, List.take_length] at hD6
        refine ⟨D3, _, rfl, SqL.of hD6, fun us2 u6 pm so nu6 => ?_⟩
        obtain rfl := srt_of pm so
        refine ⟨u6, _, rfl, SqL.of upd_same, fun t7 H7 s7 nt7 pt7 => ?_⟩
        refine ⟨(by show 2 ≤ sizeLine; decide), fun t8 H8 s8 nt8 pt8 => ?_⟩
        have s58 : Same H2 H8 := ((s6.trans (same_upd nu6)).trans s7).trans s8
        have hL8 := s58 _ _ hL
        refine ⟨L, _, _, rfl, rfl, hL8, small1000 (by omega), ?_⟩
        refine ⟨_, _, _, _, vs ++ [.ref t8], rfl, upd_same, ?_, fun c o ec => ?_⟩
        · have kz : K2 H8 (upd H8 L (.lst (vs ++ [.ref t8]))) := K2.lst hL8
          rw [List.take_add_one, ek, List.map_append]
          refine RowsAt.snoc (hvs.keep ((K2.same s58).trans kz)) ?_
          unfold ordRow
          rw [era]
          exact ⟨t8, rb, t7, rfl, kz _ _ (.inl pt8), kz _ _ (hb'.same (s2.trans s58)), kz _ _ (T2.same (.inl pt7) s8)⟩
        · rw [upd_ne (ne_of_none ec nL)]
          exact s58 _ _ (s2 _ _ ec)
    · rintro σ H2 ⟨y3, y4, y5, y6, vs, rfl, hL, hvs, s2⟩
      rw [List.length_map, List.take_length] at hvs
      exact ⟨_, rfl, q L H2 nL s2 ⟨vs, hL, hvs⟩⟩
end
end Su
/-! ### PM: terms of programs -/
namespace Su
open PySem PySem.Spec PyProof.Rows L2
inductive Tm where
  | ask (rs : List Int)
  | rest
  | thn (ts : List Tm)
  | frk (ts : List Tm)
  | rnd (least : Int) (most : Option Int) (t : Tm)
  | call (nm : Str)
def mostV : Option Int → V
  | none => .non
  | some k => .int k
mutual
inductive TmAt (H : Hp) : V → Tm → Prop
  | ask {a b : Addr} {rs : List Int} (e : PTup H a [.str "ask", .ref b]) (r : PTup H b (rs.map V.int)) : TmAt H (.ref a) (.ask rs)
  | rest {a : Addr} (e : PTup H a [.str "rest"]) : TmAt H (.ref a) .rest
  | thn {a b : Addr} {vs : List V} {ts : List Tm} (e : PTup H a [.str "then", .ref b]) (r : PTup H b vs) (t : TmL H vs ts) : TmAt H (.ref a) (.thn ts)
  | frk {a b : Addr} {vs : List V} {ts : List Tm} (e : PTup H a [.str "fork", .ref b]) (r : PTup H b vs) (t : TmL H vs ts) : TmAt H (.ref a) (.frk ts)
  | rnd {a : Addr} {v : V} {l : Int} {m : Option Int} {t : Tm} (e : PTup H a [.str "round", .int l, mostV m, v]) (r : TmAt H v t) : TmAt H (.ref a) (.rnd l m t)
  | call {a : Addr} {nm : Str} (e : PTup H a [.str "call", .str nm]) : TmAt H (.ref a) (.call nm)
inductive TmL (H : Hp) : List V → List Tm → Prop
  | nil : TmL H [] []
  | cons {v : V} {vs : List V} {t : Tm} {ts : List Tm} (h : TmAt H v t) (r : TmL H vs ts) : TmL H (v :: vs) (t :: ts)
end
/-- tuples are kept -/
def KT (H H' : Hp) : Prop := ∀ a vs, PTup H a vs → PTup H' a vs
theorem KT.same {H H' : Hp} (s : Same H H') : KT H H' := fun _ _ h => h.same s
theorem KT.of {p : Addr} {H H' : Hp} (k : Kept p H H') (hp : PoolAt H p) : KT H H' := fun _ _ h => h.kept k hp
theorem KT.trans {H H1 H2 : Hp} (a : KT H H1) (b : KT H1 H2) : KT H H2 := fun x vs h => b x vs (a x vs h)
mutual
theorem TmAt.keep {H H' : Hp} (k : KT H H') : ∀ {v : V} {t : Tm}, TmAt H v t → TmAt H' v t
  | _, _, .ask e r => .ask (k _ _ e) (k _ _ r)
  | _, _, .rest e => .rest (k _ _ e)
  | _, _, .thn e r t => .thn (k _ _ e) (k _ _ r) (TmL.keep k t)
  | _, _, .frk e r t => .frk (k _ _ e) (k _ _ r) (TmL.keep k t)
  | _, _, .rnd e r => .rnd (k _ _ e) (TmAt.keep k r)
  | _, _, .call e => .call (k _ _ e)
theorem TmL.keep {H H' : Hp} (k : KT H H') : ∀ {vs : List V} {ts : List Tm}, TmL H vs ts → TmL H' vs ts
  | _, _, .nil => .nil
  | _, _, .cons h t => .cons (TmAt.keep k h) (TmL.keep k t)
end
theorem TmL.len {H : Hp} : ∀ {vs : List V} {ts : List Tm}, TmL H vs ts → vs.length = ts.length
  | _, _, .nil => rfl
  | _, _, .cons _ t => by
    rw [List.length_cons, List.length_cons, TmL.len t]
theorem TmL.get {H : Hp} : ∀ {vs : List V} {ts : List Tm}, TmL H vs ts → ∀ {i : Nat} {v : V}, vs[i]? = some v → ∃ t, ts[i]? = some t ∧ TmAt H v t
  | _, _, .nil, i, v, e => by simp at e
  | _, _, .cons h t, 0, v, e => by
    obtain rfl := (by simpa using e : _ = v)
    exact ⟨_, rfl, h⟩
  | _, _, .cons h t, i + 1, v, e => TmL.get t (i := i) (by simpa using e)
theorem TmL.app {H : Hp} : ∀ {vs ws : List V} {ts us : List Tm}, TmL H vs ts → TmL H ws us → TmL H (vs ++ ws) (ts ++ us)
  | _, _, _, _, .nil, h => h
  | _, _, _, _, .cons x t, h => .cons x (TmL.app t h)
/-- at most so deep; what holds of every call, of every ask -/
def Lv (C : Str → Prop) (R : List Int → Prop) : Nat → Tm → Prop
  | 0, _ => False
  | _ + 1, .ask rs => R rs
  | _ + 1, .rest => True
  | d + 1, .thn ts => ts.length ≤ 3 ∧ ∀ t ∈ ts, Lv C R d t
  | d + 1, .frk ts => ts.length ≤ 3 ∧ ∀ t ∈ ts, Lv C R d t
  | d + 1, .rnd l m t => (0 ≤ l ∧ l ≤ 100 ∧ ∀ k, m = some k → 0 ≤ k ∧ k ≤ 100) ∧ Lv C R d t
  | _ + 1, .call nm => C nm
theorem Lv.imp {C C' : Str → Prop} {R R' : List Int → Prop} (hc : ∀ n, C n → C' n) (hR : ∀ r, R r → R' r) : ∀ {d : Nat} {t : Tm}, Lv C R d t → Lv C' R' d t
  | 0, _, h => h.elim
  | d + 1, .ask rs, h => hR rs h
  | d + 1, .rest, _ => trivial
  | d + 1, .thn ts, h => ⟨h.1, fun t ht => Lv.imp hc hR (h.2 t ht)⟩
  | d + 1, .frk ts, h => ⟨h.1, fun t ht => Lv.imp hc hR (h.2 t ht)⟩
  | d + 1, .rnd l m t, h => ⟨h.1, Lv.imp hc hR h.2⟩
  | d + 1, .call nm, h => hc nm h
theorem Lv.up {C : Str → Prop} {R : List Int → Prop} : ∀ {d : Nat} {t : Tm}, Lv C R d t → Lv C R (d + 1) t
  | 0, _, h => h.elim
  | d + 1, .ask rs, h => h
  | d + 1, .rest, _ => trivial
  | d + 1, .thn ts, h => ⟨h.1, fun t ht => Lv.up (h.2 t ht)⟩
  | d + 1, .frk ts, h => ⟨h.1, fun t ht => Lv.up (h.2 t ht)⟩
  | d + 1, .rnd l m t, h => ⟨h.1, Lv.up h.2⟩
  | d + 1, .call nm, h => h
/-! the reach and the rooms, in numbers -/
def reachF (env : Str → Int) : Nat → Tm → Int
  | 0, _ => 0
  | _ + 1, .ask _ => 1
  | _ + 1, .rest => 1
  | d + 1, .thn ts => (ts.map (reachF env d)).sum
  | d + 1, .frk ts => (ts.map (reachF env d)).sum + 1
  | d + 1, .rnd l none t => reachF env d t * (l + 1) + 1
  | d + 1, .rnd l (some k) t => reachF env d t * k + k - l
  | _ + 1, .call nm => env nm
def roomsF : Nat → Tm → List Int
  | 0, _ => []
  | _ + 1, .ask rs => rs
  | _ + 1, .rest => []
  | d + 1, .thn ts => (ts.map (roomsF d)).flatten
  | d + 1, .frk ts => (ts.map (roomsF d)).flatten
  | d + 1, .rnd _ _ t => roomsF d t
  | _ + 1, .call _ => []
end Su
/-! ### PS: a list comprehension over a text; one sign in a text; a text times a number -/
namespace Su
open PySem PySem.Spec PyProof.Rows L2
abbrev lett : Str := "abcdefghijklmnopqrstuvwxyz"
def rSign : R2 := fun x y H Q => ∃ (c : Nat) (z : Str), x = .str ⟨#[c]⟩ ∧ y = .str z ∧ Q (.bl (decide (c ∈ z.cps.toList))) H
theorem op_sign {X : Cx} : OpR X (compareOp .In) rSign := op_in_sign
theorem lc_str {x : Str} {g : TG} {tt : TT} {te : TE} {vs : List Nat} {σ : L2.St} {H1 : Hp} {D : Addr} {Qd : Hp → Prop} (Pv : Nat → Hp → Prop) (h0 : Pv 0 (upd H1 D (.lst [])))
    (hs : ∀ i c H, x.cps[i]? = some c → Pv i H → g (.str ⟨#[c]⟩) (wipe σ vs) H fun σ2 H2 => wipe σ2 vs = wipe σ vs ∧ tt σ2 H2 fun b H3 =>
      if b = true then te σ2 H3 fun y H4 => ∃ acc, H4 D = some (.lst acc) ∧ acc.length < sizeLine ∧ Pv (i + 1) (upd H4 D (.lst (acc ++ [y]))) else Pv (i + 1) H3) (hd : ∀ H, Pv x.cps.size H → Qd H) :
    ∃ W : Nat → Nat → Hp → Prop, (∃ m, W 0 m (upd H1 D (.lst []))) ∧ ∀ i m H, W i m H →
      ((Its x).stop i H ∧ Qd H) ∨ ((Its x).go i H ∧ ∃ Nx : Hp → Prop, (∀ H', Nx H' → ∃ m', m' < m ∧ W (i + 1) m' H') ∧ ∀ y H', (Its x).yld i H y H' → g y (wipe σ vs) H' fun σ2 H2 => wipe σ2 vs = wipe σ vs ∧ tt σ2 H2 fun b H3 =>
        if b = true then te σ2 H3 fun y H4 => ∃ acc, H4 D = some (.lst acc) ∧ acc.length < sizeLine ∧ Nx (upd H4 D (.lst (acc ++ [y]))) else Nx H3) := by
  refine ⟨fun i m H => m = x.cps.size - i ∧ i ≤ x.cps.size ∧ Pv i H, ⟨x.cps.size, by simp, Nat.zero_le _, h0⟩, ?_⟩
  rintro i m H ⟨rfl, hi, p⟩
  by_cases hlt : i < x.cps.size
  · refine .inr ⟨hlt, Pv (i + 1), fun H' p' => ⟨x.cps.size - (i + 1), by omega, rfl, hlt, p'⟩, fun y H' yy => ?_⟩
    obtain ⟨e, c, ec, rfl⟩ := yy
    subst e
    exact hs i c _ ec p
  · have e : i = x.cps.size := by omega
    subst e
    exact .inl ⟨Nat.le_refl _, hd H p⟩
theorem fold_size (xs : Array Nat) : ∀ (n : Nat) (acc : Array Nat), ((List.replicate n xs).foldl (· ++ ·) acc).size = acc.size + n * xs.size
  | 0, acc => by simp
  | n + 1, acc => by
    rw [List.replicate_succ, List.foldl_cons, fold_size xs n, Array.size_append, Nat.succ_mul]
    omega
/-- a short text some times -/
def rMulS : R2 := fun x y H Q => ∃ (a : Str) (n : Nat), x = .str a ∧ y = .int (n : Int) ∧ 1 ≤ n ∧ n ≤ 1000 ∧ 1 ≤ a.length ∧ a.length ≤ 1000 ∧ Q (.str ⟨(List.replicate n a.cps).foldl (· ++ ·) #[]⟩) H
theorem op_mulS {X : Cx} : OpR X (binaryOp .Mult) rMulS := by
  intro pins s σ H x y v u Q I rx ry h
  obtain ⟨a, n, rfl, rfl, h1, h2, h3, h4, q⟩ := h
  obtain ⟨t, rfl⟩ := rx
  obtain ⟨t', rfl⟩ := ry
  refine PySem.P.mul_str ?_ ?_ ?_ ?_
  · rw [decide_eq_false (by omega), decide_eq_false (by omega)]
    rfl
  · intro _ _ z
    have z2 : (a.length : Int) * n ≤ 1000 * 1000 := by
      have : a.length * n ≤ 1000 * 1000 := Nat.mul_le_mul h4 h2
      omega
    have z3 : (1000 * 1000 : Int) ≤ 2 ^ 63 - 1 := by decide
    have z4 : (a.length : Int) ≤ (2 ^ 63 - 1) / (n : Int) := Int.le_ediv_of_mul_le (by omega) (Int.le_trans z2 z3)
    omega
  · intro _ _
    have z2 : a.length * n ≤ 1000 * 1000 := Nat.mul_le_mul h4 h2
    unfold Builtin.Str.tooLong
    rw [Int.toNat_natCast]
    have hb : sizeLine = 16777216 := rfl
    exact decide_eq_false (by omega)
  · rw [if_neg (by omega)]
    by_cases e : n = 1
    · subst e
      rw [if_pos (by simp)]
      have e2 : (⟨(List.replicate 1 a.cps).foldl (· ++ ·) #[]⟩ : Str) = a := by
        show (⟨#[] ++ a.cps⟩ : Str) = a
        rw [Array.empty_append]
      rw [e2] at q
      exact ⟨.str a, _, I, ⟨t, rfl⟩, q⟩
    · rw [if_neg (by simp; omega)]
      rw [Int.toNat_natCast]
      refine ⟨?_, .str _, _, I.tok _, ⟨_, rfl⟩, q⟩
      have z2 : n * a.length ≤ 1000 * 1000 := Nat.mul_le_mul h2 h4
      have hb : sizeLine = 16777216 := rfl
      show ((List.replicate n a.cps).foldl (· ++ ·) #[]).size ≤ sizeLine
      rw [fold_size]
      have z3 : a.length = a.cps.size := rfl
      rw [← z3, Array.size_empty]
      omega
end Su
/-! ### Q3: how a list that is none is refused -/
namespace Su
open PySem PySem.Spec PyProof.Rows L2
/-- what the written part says of the errors -/
structure ErrN (K : PySem.W.Frag) (mg : Str → Option Value) (C CH CN : Addr) : Prop where
  he : mg "HandError" = some (.ref CH)
  exW : PySem.W.exmOne K (.ref C) (.ref CH) = some true
  exN : PySem.W.exmOne K (.ref CN) (.ref CH) = some true
  nw : mg "NoWeb" = some (.ref C)
  nn : mg "NoNames" = some (.ref CN)
  xC : ExcT K C
  xN : ExcT K CN
  iww : PySem.W.kitOne K (.ref C) (.ref C) = some true
  iwn : PySem.W.kitOne K (.ref C) (.ref CN) = some false
  inn : PySem.W.kitOne K (.ref CN) (.ref CN) = some true
def spKind : Sp := fun vs H Q _ => ∃ (way : Int) (v1 v2 : V), vs = [.int way, v1, v2] ∧ (way = 0 ∨ way = 1) ∧
  ((∃ (p : Addr) (g : G) (r : Option Nat), Tg p H v1 g ∧ lookG g = some r ∧ ∀ H', Same H H' → Q (.str "web") H') ∨
   (∃ (a : Addr) (rs : List Rw) (p : Addr) (g : G), v1 = .ref a ∧ WebAt H a rs ∧ WebOk rs ∧ Tg p H v2 g ∧ ((way = 0 ∧ fewG g ∧ ¬ namesG (roomsR rs) g) ∨ (way = 1 ∧ ¬ orderG rs.length g)) ∧ ∀ H', Same H H' → Q (.str "names") H'))
theorem web_once : (⟨(List.replicate 1 ("web" : Str).cps).foldl (· ++ ·) #[]⟩ : Str) = "web" := by decide +kernel
theorem sc_law_kind : FnScope ["_law_way", "_law_web_here", "_law_thing", "_law_kept", "e"] ["_law_way", "_law_web_here", "_law_thing"] (defScope s_law_kind) := ⟨rfl, rfl, rfl, by decide +kernel, rfl, by decide +kernel, by decide +kernel⟩
section
variable {P : Program} {w : World} {K : PySem.W.Frag} {mg : Str → Option Value} {base : Heap}
theorem ok_kind {C CH CN : Addr} (EJ : ErrN K mg C CH CN) (T : At K mg "_law_kind" s_law_kind ["_law_way", "_law_web_here", "_law_thing"]) (B : Bt mg) (c_called : CalX P w K mg base 6 "called" ["web", "names"] (spCalled C CN)) (c_ordered : CalX P w K mg base 6 "ordered" ["web", "order"] (spOrdered C CN)) :
    Cal P w K mg base 7 "_law_kind" ["_law_way", "_law_web_here", "_law_thing"] spKind := by
  refine cal_of T sc_law_kind (fun vs H Q E h => ?_) (fun f cdv A outer s H vs Q E hr h => ?_)
  · obtain ⟨way, v1, v2, rfl, _⟩ := h
    rfl
  · obtain ⟨way, v1, v2, rfl, hw, h⟩ := h
    have hHE := EJ.he
    refine ⟨_, (pss_cons (ps_set (i := 3) sc_law_kind.nd rfl (Or.inl rfl) pe_non)
      (pss_cons (ps_try_keep (i := 4) (Wo := fun _ _ _ _ => False) rfl rfl rfl sc_law_kind.nd rfl rfl ⟨rfl, by decide, Or.inl hHE⟩ takes0 (fun W pn xe tk _ => (pss_one (ps_if (pt_cmpR op_eq (pv 0) pe_int (nomark _)) (pss_one (ps_expr (pe_ownX tk c_called hr (by decide) (by rfl) (pa_cons (pv 1) (pa_cons (pv 2) pa_nil))))) (pss_one (ps_expr (pe_ownX tk c_ordered hr (by decide) (by rfl) (pa_cons (pv 1) (pa_cons (pv 2) pa_nil)))))))) (fun a oe pn => (pss_one (ps_set (i := 3) sc_law_kind.nd rfl (Or.inl rfl) (pv 4)))))
      (pss_cons (ps_if (pt_val (pe_callB call_isiE (by rfl) B.isinstance (by decide +kernel) (pa_cons (pv 3) (pa_cons (pe_glob (v := .ref CN) (by rfl) EJ.nn rfl) pa_nil)))) (pss_one (ps_ret pe_str)) pss_nil)
      (pss_one (ps_ret (pe_op op_mulS pe_str (pe_callTy call_int1 (by rfl) B.int (by decide +kernel) (pa_cons (pe_callB call_isiE (by rfl) B.isinstance (by decide +kernel) (pa_cons (pv 3) (pa_cons (pe_glob (v := .ref C) (by rfl) EJ.nw rfl) pa_nil))) pa_nil)))))))), ?_⟩
    rcases h with ⟨p, g, r, tg, lk, q⟩ | ⟨a, rs, p, g, rfl, hA, okA, hg, hn, q⟩
    · rcases hw with rfl | rfl
      · refine ⟨_, rfl, rfl, _, rfl, iteT ⟨_, rfl, _, rfl, _, _, rfl, .inr ⟨p, g, r, tg, lk, fun H1 d s1 nd hd => ?_⟩⟩⟩
        refine ⟨true, EJ.exW, fun _ x nx => ?_, fun z => by cases z⟩
        have hx : (upd H1 x (exK x (.ref C) (some d))) x = some (exK x (.ref C) (some d)) := upd_same
        have sx : Same H1 (upd H1 x (exK x (.ref C) (some d))) := same_upd nx
        have xd : XdAt (upd H1 x (exK x (.ref C) (some d))) (some d) := fun dd ed => by
          cases ed
          exact ⟨_, sx _ _ hd⟩
        refine ⟨_, rfl, ?_⟩
        refine ⟨_, rfl, x, C, some d, .ref CN, .ref CN, false, rfl, .own CN, EJ.xC, hx, xd, EJ.iwn, _, rfl, iteF ?_⟩
        refine ⟨_, rfl, x, C, some d, .ref C, .ref C, true, rfl, .own C, EJ.xC, hx, xd, EJ.iww, .inr ⟨_, rfl, ?_⟩⟩
        refine ⟨_, 1, rfl, rfl, by decide, by decide, by decide +kernel, by decide +kernel, ?_⟩
        rw [web_once]
        exact q _ (s1.trans sx)
      · refine ⟨_, rfl, rfl, _, rfl, iteF ⟨_, rfl, _, rfl, _, _, rfl, .inr ⟨p, g, r, tg, lk, fun H1 d s1 nd hd => ?_⟩⟩⟩
        refine ⟨true, EJ.exW, fun _ x nx => ?_, fun z => by cases z⟩
        have hx : (upd H1 x (exK x (.ref C) (some d))) x = some (exK x (.ref C) (some d)) := upd_same
        have sx : Same H1 (upd H1 x (exK x (.ref C) (some d))) := same_upd nx
        have xd : XdAt (upd H1 x (exK x (.ref C) (some d))) (some d) := fun dd ed => by
          cases ed
          exact ⟨_, sx _ _ hd⟩
        refine ⟨_, rfl, ?_⟩
        refine ⟨_, rfl, x, C, some d, .ref CN, .ref CN, false, rfl, .own CN, EJ.xC, hx, xd, EJ.iwn, _, rfl, iteF ?_⟩
        refine ⟨_, rfl, x, C, some d, .ref C, .ref C, true, rfl, .own C, EJ.xC, hx, xd, EJ.iww, .inr ⟨_, rfl, ?_⟩⟩
        refine ⟨_, 1, rfl, rfl, by decide, by decide, by decide +kernel, by decide +kernel, ?_⟩
        rw [web_once]
        exact q _ (s1.trans sx)
    · rcases hn with ⟨rfl, few, hn⟩ | ⟨rfl, hn⟩
      · refine ⟨_, rfl, rfl, _, rfl, iteT ⟨_, rfl, _, rfl, _, _, rfl, .inl ⟨a, rs, p, g, rfl, hA, okA, hg, few, fun ps e ok => absurd ⟨ps, e, ok⟩ hn, fun _ H1 s1 => ?_⟩⟩⟩
        refine ⟨true, EJ.exN, fun _ x nx => ?_, fun z => by cases z⟩
        have hx : (upd H1 x (exK x (.ref CN) none)) x = some (exK x (.ref CN) none) := upd_same
        have sx : Same H1 (upd H1 x (exK x (.ref CN) none)) := same_upd nx
        have xd : XdAt (upd H1 x (exK x (.ref CN) none)) none := fun dd ed => by cases ed
        refine ⟨_, rfl, ?_⟩
        refine ⟨_, rfl, x, CN, none, .ref CN, .ref CN, true, rfl, .own CN, EJ.xN, hx, xd, EJ.inn, _, rfl, iteT ?_⟩
        exact q _ (s1.trans sx)
      · refine ⟨_, rfl, rfl, _, rfl, iteF ⟨_, rfl, _, rfl, _, _, rfl, .inl ⟨a, rs, p, g, rfl, hA, okA, hg, fun os e ok => absurd ⟨os, e, ok⟩ hn, fun _ H1 s1 => ?_⟩⟩⟩
        refine ⟨true, EJ.exN, fun _ x nx => ?_, fun z => by cases z⟩
        have hx : (upd H1 x (exK x (.ref CN) none)) x = some (exK x (.ref CN) none) := upd_same
        have sx : Same H1 (upd H1 x (exK x (.ref CN) none)) := same_upd nx
        have xd : XdAt (upd H1 x (exK x (.ref CN) none)) none := fun dd ed => by cases ed
        refine ⟨_, rfl, ?_⟩
        refine ⟨_, rfl, x, CN, none, .ref CN, .ref CN, true, rfl, .own CN, EJ.xN, hx, xd, EJ.inn, _, rfl, iteT ?_⟩
        exact q _ (s1.trans sx)
end
end Su
/-! ### EO: written things, piece by piece: what an expression gives, as a thing -/
namespace Su
open PySem PySem.Spec PyProof.Rows L2
/-- whatever else was made since H0, te gives the thing g -/
def EOk (p : Addr) (H0 : Hp) (σ : L2.St) (te : TE) (g : G) : Prop := ∀ (H : Hp) (Q : VK), PoolAt H p → Same H0 H → (∀ v H', PoolAt H' p → Same H H' → Tg p H' v g → Q v H') → te σ H Q
def EsOk (p : Addr) (H0 : Hp) (σ : L2.St) (ta : TA) (gs : List G) : Prop := ∀ (H : Hp) (Q : List V → Hp → Prop), PoolAt H p → Same H0 H → (∀ vs H', PoolAt H' p → Same H H' → TgL p H' vs gs → Q vs H') → ta σ H Q
theorem TgL.drop {p : Addr} {H : Hp} : ∀ (n : Nat) {vs : List V} {gs : List G}, TgL p H vs gs → TgL p H (vs.drop n) (gs.drop n)
  | 0, _, _, h => h
  | _ + 1, _, _, .nil => .nil
  | n + 1, _, _, .cons _ t => t.drop n
theorem TgL.take {p : Addr} {H : Hp} : ∀ (n : Nat) {vs : List V} {gs : List G}, TgL p H vs gs → TgL p H (vs.take n) (gs.take n)
  | 0, _, _, _ => .nil
  | _ + 1, _, _, .nil => .nil
  | n + 1, _, _, .cons h t => .cons h (t.take n)
theorem TgL.rev {p : Addr} {H : Hp} : ∀ {vs : List V} {gs : List G}, TgL p H vs gs → TgL p H vs.reverse gs.reverse
  | _, _, .nil => .nil
  | _, _, .cons h t => by
    rw [List.reverse_cons, List.reverse_cons]
    exact t.rev.app (.cons h .nil)
theorem TgL.at {p : Addr} {H : Hp} : ∀ {vs : List V} {gs : List G}, TgL p H vs gs → ∀ {i : Nat} {g : G}, gs[i]? = some g → ∃ v, vs[i]? = some v ∧ Tg p H v g
  | _, _, .nil, i, g, e => by simp at e
  | _, _, .cons h t, 0, g, e => by
    obtain rfl := (by simpa using e : _ = g)
    exact ⟨_, rfl, h⟩
  | _, _, .cons h t, i + 1, g, e => t.at (i := i) (by simpa using e)
mutual
/-- no list, no dict in it -/
def noL : G → Bool
  | .tup l => noLs l
  | .lst _ => false
  | .dct => false
  | _ => true
def noLs : List G → Bool
  | [] => true
  | g :: gs => noL g && noLs gs
end
mutual
theorem Tg.keep2 {p : Addr} {H H' : Hp} (k : K2 H H') : ∀ {v : V} {g : G}, Tg p H v g → noL g = true → Tg p H' v g
  | _, _, .non, _ => .non
  | _, _, .bl b, _ => .bl b
  | _, _, .int i, _ => .int i
  | _, _, .str s, _ => .str s
  | _, _, .lst n e t, h => by simp [noL] at h
  | _, _, .tup e t, h => .tup (k _ _ e) (TgL.keep2 k t (by simpa [noL] using h))
  | _, _, .dct e, h => by simp [noL] at h
theorem TgL.keep2 {p : Addr} {H H' : Hp} (k : K2 H H') : ∀ {vs : List V} {gs : List G}, TgL p H vs gs → noLs gs = true → TgL p H' vs gs
  | _, _, .nil, _ => .nil
  | _, _, .cons h t, z => by
    simp only [noLs, Bool.and_eq_true] at z
    exact .cons (Tg.keep2 k h z.1) (TgL.keep2 k t z.2)
end
theorem noLs_all {gs : List G} (h : ∀ g ∈ gs, noL g = true) : noLs gs = true := by
  induction gs with
  | nil => simp [noLs]
  | cons g gs ih =>
    simp only [noLs, Bool.and_eq_true]
    exact ⟨h g List.mem_cons_self, ih fun x hx => h x (List.mem_cons_of_mem _ hx)⟩
theorem cut_toN {xs : List V} (k : Nat) : cutV xs none (some (k : Int)) = xs.take k := by
  have e0 : HT.sIx xs.length 0 (none : Option Int) = 0 := rfl
  have e1 : HT.sIx xs.length xs.length (some (k : Int)) = min k xs.length := HT.sIx_nat xs.length xs.length k
  unfold cutV
  rw [e0, e1, List.drop_zero, Nat.sub_zero]
  rcases Nat.le_total k xs.length with h | h
  · rw [Nat.min_eq_left h]
  · rw [Nat.min_eq_right h, List.take_of_length_le (Nat.le_refl _), List.take_of_length_le h]
section
variable {p : Addr} {H0 : Hp} {σ : L2.St} {K : PySem.W.Frag}
theorem EsOk.nil : EsOk p H0 σ tNil [] := fun H Q hp s q => q [] H hp (Same.refl H) .nil
theorem EsOk.cons {te : TE} {ta : TA} {g : G} {gs : List G} (h : EOk p H0 σ te g) (t : EsOk p H0 σ ta gs) : EsOk p H0 σ (tCons te ta) (g :: gs) :=
  fun H Q hp s q => h H _ hp s fun v H1 hp1 s1 tg => t H1 _ hp1 (s.trans s1) fun vs H2 hp2 s2 tgs => q (v :: vs) H2 hp2 (s1.trans s2) (.cons (tg.keep (Keeps.same s2)) tgs)
theorem EOk.const {v : V} {g : G} (h : ∀ H, Tg p H v g) : EOk p H0 σ (tC v) g := fun H Q hp s q => q v H hp (Same.refl H) (h H)
theorem EOk.int (i : Int) : EOk p H0 σ (tC (.int i)) (.int i) := EOk.const fun _ => .int i
theorem EOk.bl (b : Bool) : EOk p H0 σ (tC (.bl b)) (.bl b) := EOk.const fun _ => .bl b
theorem EOk.str (x : Str) : EOk p H0 σ (tC (.str x)) (.str x) := EOk.const fun _ => .str x
theorem EOk.non : EOk p H0 σ (tC .non) .non := EOk.const fun _ => .non
theorem EOk.neg (i : Int) : EOk p H0 σ (tUn (rU fun i => .int (-i)) (tC (.int i))) (.int (-i)) := fun H Q hp s q => ⟨i, rfl, q _ H hp (Same.refl H) (.int _)⟩
theorem EOk.var {i : Nat} {v : V} {g : G} (e : σ[i]? = some (some v)) (h : Tg p H0 v g) : EOk p H0 σ (tVar i) g := fun H Q hp s q => ⟨v, e, q v H hp (Same.refl H) (h.keep (Keeps.same s))⟩
theorem EOk.tup {ta : TA} {gs : List G} (h : EsOk p H0 σ ta gs) (l : gs.length ≤ 1000) : EOk p H0 σ (tTupF ta) (.tup gs) :=
  fun H Q hp s q => h H _ hp s fun vs H1 hp1 s1 t => ⟨by rw [t.len]; exact Nat.le_trans l (by decide), fun v H2 s2 nv pv => q _ H2 (hp1.same s2) (s1.trans s2) (.tup (.inl pv) (t.keep (Keeps.same s2)))⟩
theorem EOk.lst {ta : TA} {gs : List G} (h : EsOk p H0 σ ta gs) (l : gs.length ≤ 1000) : EOk p H0 σ (tLst ta) (.lst gs) :=
  fun H Q hp s q => h H _ hp s fun vs H1 hp1 s1 t => ⟨by rw [t.len]; exact Nat.le_trans l (by decide), fun a na => q _ _ (hp1.same (same_upd na)) (s1.trans (same_upd na)) (.lst (pool_ne hp1 na) upd_same (t.keep (Keeps.same (same_upd na))))⟩
theorem EOk.dct : EOk p H0 σ tDNewK .dct := fun H Q hp s q a na => q _ _ (hp.same (same_upd na)) (same_upd na) (.dct upd_same)
theorem lst_at {H : Hp} {v : V} {gs : List G} (h : Tg p H v (.lst gs)) : ∃ a vs, v = .ref a ∧ a ≠ p ∧ H a = some (.lst vs) ∧ TgL p H vs gs := by
  cases h with
  | lst n e t => exact ⟨_, _, rfl, n, e, t⟩
theorem tupG_at {H : Hp} {v : V} {gs : List G} (h : Tg p H v (.tup gs)) : ∃ a vs, v = .ref a ∧ T2 H a vs ∧ TgL p H vs gs := by
  cases h with
  | tup e t => exact ⟨_, _, rfl, e, t⟩
theorem EOk.cat {ta tb : TE} {gs hs : List G} (ha : EOk p H0 σ ta (.lst gs)) (hb : EOk p H0 σ tb (.lst hs)) (l : gs.length + hs.length ≤ 1000) : EOk p H0 σ (tOp rCat ta tb) (.lst (gs ++ hs)) :=
  fun H Q hp s q => ha H _ hp s fun v H1 hp1 s1 t1 => hb H1 _ hp1 (s.trans s1) fun u H2 hp2 s2 t2 => by
    obtain ⟨a, vs, rfl, na, ea, ta⟩ := lst_at (t1.keep (Keeps.same s2))
    obtain ⟨b, us, rfl, nb, eb, tb⟩ := lst_at t2
    refine ⟨a, b, vs, us, rfl, rfl, ea, eb, ?_, fun c nc => ?_⟩
    · rw [ta.len, tb.len]
      exact Nat.le_trans l (by decide)
    · exact q _ _ (hp2.same (same_upd nc)) ((s1.trans s2).trans (same_upd nc)) (.lst (pool_ne hp2 nc) upd_same ((ta.app tb).keep (Keeps.same (same_upd nc))))
/-- the same, with the list's own place told -/
theorem EOk.catN {ta tb : TE} {gs hs : List G} (ha : EOk p H0 σ ta (.lst gs)) (hb : EOk p H0 σ tb (.lst hs)) (l : gs.length + hs.length ≤ 1000) {H : Hp} {Q : VK} (hp : PoolAt H p) (s : Same H0 H)
    (q : ∀ c vs H2, PoolAt H2 p → Same H H2 → H2 c = none → c ≠ p → TgL p H2 vs (gs ++ hs) → Q (.ref c) (upd H2 c (.lst vs))) : tOp rCat ta tb σ H Q :=
  ha H _ hp s fun v H1 hp1 s1 t1 => hb H1 _ hp1 (s.trans s1) fun u H2 hp2 s2 t2 => by
    obtain ⟨a, vs, rfl, na, ea, ta⟩ := lst_at (t1.keep (Keeps.same s2))
    obtain ⟨b, us, rfl, nb, eb, tb⟩ := lst_at t2
    refine ⟨a, b, vs, us, rfl, rfl, ea, eb, ?_, fun c nc => ?_⟩
    · rw [ta.len, tb.len]
      exact Nat.le_trans l (by decide)
    · exact q c _ H2 hp2 (s1.trans s2) nc (pool_ne hp2 nc) (ta.app tb)
theorem EOk.from1 {te : TE} {gs : List G} (h : EOk p H0 σ te (.lst gs)) : EOk p H0 σ (tSl (rSlL K) te (tPart (tC (.int 1))) tNoPart) (.lst (gs.drop 1)) :=
  fun H Q hp s q => h H _ hp s fun v H1 hp1 s1 t1 => by
    obtain ⟨a, vs, rfl, na, ea, ta⟩ := lst_at t1
    refine ⟨1, rfl, a, vs, rfl, SqL.of ea, fun c nc => ?_⟩
    rw [cut_tail]
    exact q _ _ (hp1.same (same_upd nc)) (s1.trans (same_upd nc)) (.lst (pool_ne hp1 nc) upd_same ((ta.drop 1).keep (Keeps.same (same_upd nc))))
theorem EOk.to1 {te : TE} {gs : List G} (h : EOk p H0 σ te (.lst gs)) : EOk p H0 σ (tSl (rSlL K) te tNoPart (tPart (tC (.int 1)))) (.lst (gs.take 1)) :=
  fun H Q hp s q => h H _ hp s fun v H1 hp1 s1 t1 => by
    obtain ⟨a, vs, rfl, na, ea, ta⟩ := lst_at t1
    refine ⟨1, rfl, a, vs, rfl, SqL.of ea, fun c nc => ?_⟩
    rw [show cutV vs none (some (1 : Int)) = vs.take 1 from cut_toN 1]
    exact q _ _ (hp1.same (same_upd nc)) (s1.trans (same_upd nc)) (.lst (pool_ne hp1 nc) upd_same ((ta.take 1).keep (Keeps.same (same_upd nc))))
theorem EOk.toEnd {te : TE} {gs : List G} (h : EOk p H0 σ te (.lst gs)) : EOk p H0 σ (tSl (rSlL K) te tNoPart (tPart (tUn (rU fun i => .int (-i)) (tC (.int 1))))) (.lst (gs.take (gs.length - 1))) :=
  fun H Q hp s q => h H _ hp s fun v H1 hp1 s1 t1 => by
    obtain ⟨a, vs, rfl, na, ea, ta⟩ := lst_at t1
    refine ⟨1, rfl, -1, rfl, a, vs, rfl, SqL.of ea, fun c nc => ?_⟩
    have e0 : HT.sIx vs.length 0 (none : Option Int) = 0 := rfl
    have e1 : HT.sIx vs.length vs.length (some (-1 : Int)) = gs.length - 1 := by
      show (if (-1 : Int) < 0 then ((-1 : Int) + (vs.length : Int)).toNat else min (-1 : Int).toNat vs.length) = _
      rw [if_pos (by decide), ta.len]
      omega
    have e2 : cutV vs none (some (-1 : Int)) = vs.take (gs.length - 1) := by
      unfold cutV
      rw [e0, e1, List.drop_zero, Nat.sub_zero]
    rw [e2]
    exact q _ _ (hp1.same (same_upd nc)) (s1.trans (same_upd nc)) (.lst (pool_ne hp1 nc) upd_same ((ta.take _).keep (Keeps.same (same_upd nc))))
theorem EOk.rev {te : TE} {gs : List G} (h : EOk p H0 σ te (.lst gs)) : EOk p H0 σ (tRevL K te) (.lst gs.reverse) :=
  fun H Q hp s q => h H _ hp s fun v H1 hp1 s1 t1 => by
    obtain ⟨a, vs, rfl, na, ea, ta⟩ := lst_at t1
    exact ⟨a, vs, rfl, SqL.of ea, fun c nc => q _ _ (hp1.same (same_upd nc)) (s1.trans (same_upd nc)) (.lst (pool_ne hp1 nc) upd_same (ta.rev.keep (Keeps.same (same_upd nc))))⟩
theorem EOk.tupOf {te : TE} {gs : List G} (h : EOk p H0 σ te (.lst gs)) : EOk p H0 σ (tCB (rTupL K) (tCons te tNil)) (.tup gs) :=
  fun H Q hp s q => h H _ hp s fun v H1 hp1 s1 t1 => by
    obtain ⟨a, vs, rfl, na, ea, ta⟩ := lst_at t1
    exact ⟨a, vs, rfl, SqL.of ea, fun c H2 s2 nc pc => q _ H2 (hp1.same s2) (s1.trans s2) (.tup (.inl pc) (ta.keep (Keeps.same s2)))⟩
theorem EOk.ixL {te : TE} {gs : List G} {i : Nat} {g : G} (h : EOk p H0 σ te (.lst gs)) (e : gs[i]? = some g) : EOk p H0 σ (tOp (rIxL K) te (tC (.int (i : Nat)))) g :=
  fun H Q hp s q => h H _ hp s fun v H1 hp1 s1 t1 => by
    obtain ⟨a, vs, rfl, na, ea, ta⟩ := lst_at t1
    obtain ⟨v, ev, tv⟩ := ta.at e
    exact ⟨a, vs, _, v, rfl, rfl, SqL.of ea, atI_nat ev, q _ H1 hp1 s1 tv⟩
theorem EOk.ixT {te : TE} {gs : List G} {i : Nat} {g : G} (h : EOk p H0 σ te (.tup gs)) (e : gs[i]? = some g) : EOk p H0 σ (tOp (rIxT K) te (tC (.int (i : Nat)))) g :=
  fun H Q hp s q => h H _ hp s fun v H1 hp1 s1 t1 => by
    obtain ⟨a, vs, rfl, ea, ta⟩ := tupG_at t1
    obtain ⟨v, ev, tv⟩ := ta.at e
    exact ⟨a, vs, _, v, rfl, rfl, ea.sq, atI_nat ev, q _ H1 hp1 s1 tv⟩
end
end Su
/-! ### Q4: lists that are none are refused -/
namespace Su
open PySem PySem.Spec PyProof.Rows L2
/-- none of these is a list of new names -/
def badN (ms : List Int) (g : G) : Prop := fewG g ∧ ¬ namesG ms g
theorem badN_no {ms : List Int} {g : G} (f : fewG g) (h : ∀ l, g ≠ .lst l) : badN ms g := ⟨f, fun ⟨ps, e, _⟩ => h _ e⟩
theorem badN_mem {ms : List Int} {l : List G} {x : G} (f : l.length ≤ 900) (hx : x ∈ l) (h : ∀ q : Int × Int, (0 ≤ q.1 ∧ q.1 < 100) ∧ 0 ≤ q.2 ∧ q.2 < 100 → x ≠ pairT q) : badN ms (.lst l) := by
  refine ⟨f, fun ⟨ps, e, ok⟩ => ?_⟩
  injection e with e
  rw [e] at hx
  obtain ⟨q, hq, e2⟩ := List.mem_map.mp hx
  exact h q (ok.rg q hq) e2.symm
theorem badN_len {ms : List Int} {l : List G} (f : l.length ≤ 900) (h : l.length ≠ ms.length) : badN ms (.lst l) := by
  refine ⟨f, fun ⟨ps, e, ok⟩ => ?_⟩
  injection e with e
  have := ok.all.length_eq
  rw [e, List.length_map] at h
  rw [List.length_map] at this
  exact h this
theorem badN_snd {ms : List Int} {ps : List (Int × Int)} (f : ps.length ≤ 900) (h : ¬ (ps.map (·.2)).Nodup) : badN ms (.lst (ps.map pairT)) := by
  refine ⟨by show (ps.map pairT).length ≤ 900; rw [List.length_map]; exact f, fun ⟨qs, e, ok⟩ => ?_⟩
  obtain rfl := pairs_inj e
  exact h ok.nd
theorem badN_fst {ms : List Int} {ps : List (Int × Int)} (nd : ms.Nodup) (f : ps.length ≤ 900) (h : ¬ (ps.map (·.1)).Nodup) : badN ms (.lst (ps.map pairT)) := by
  refine ⟨by show (ps.map pairT).length ≤ 900; rw [List.length_map]; exact f, fun ⟨qs, e, ok⟩ => ?_⟩
  obtain rfl := pairs_inj e
  exact h (ok.all.nodup_iff.mpr nd)
theorem roomsR_nd (rs : List Rw) : (roomsR rs).Nodup := (srt_perm _).nodup_iff.mpr (oneEach_nodup _)
theorem EOk.add1 {p : Addr} {H0 : Hp} {σ : L2.St} {te : TE} {gs : List G} {x : G} (vb : EOk p H0 σ (tVar 2) (.lst gs)) (l : gs.length ≤ 100) (h : EOk p H0 σ te x) : EOk p H0 σ (tOp rCat (tVar 2) (tLst (tCons te tNil))) (.lst (gs ++ [x])) :=
  EOk.cat vb (EOk.lst (EsOk.cons h EsOk.nil) (Nat.le_of_ble_eq_true rfl)) (by rw [List.length_singleton]; omega)
theorem EOk.two {p : Addr} {H0 : Hp} {σ : L2.St} {t1 t2 : TE} {x y : G} (h1 : EOk p H0 σ t1 x) (h2 : EOk p H0 σ t2 y) : EOk p H0 σ (tTupF (tCons t1 (tCons t2 tNil))) (.tup [x, y]) := EOk.tup (EsOk.cons h1 (EsOk.cons h2 EsOk.nil)) (Nat.le_of_ble_eq_true rfl)
def pairD (q : Int × Int) : PyData := .tuple [.int q.1, .int q.2]
theorem PsAt.dp {K : PySem.W.Frag} {H : Hp} : ∀ {vs : List V} {ps : List (Int × Int)}, PsAt H vs ps → DpAll K H vs (ps.map pairD)
  | [], [], _ => .nil
  | _ :: _, _ :: _, ⟨⟨T, e, h⟩, t⟩ => by
    subst e
    exact .cons (.tup h.sq (.cons (.int _) (.cons (.int _) .nil))) t.dp
  | [], _ :: _, h => h.elim
  | _ :: _, [], h => h.elim
theorem ps_fine : ∀ {ps : List (Int × Int)}, (∀ p ∈ ps, (0 ≤ p.1 ∧ p.1 < 100) ∧ 0 ≤ p.2 ∧ p.2 < 100) → FineL (ps.map pairD) 1 (83 * ps.length)
  | [], _ => FineL.nil
  | q :: ps, h => by
    obtain ⟨⟨a1, a2⟩, b1, b2⟩ := h q List.mem_cons_self
    have f : Fine (pairD q) 1 82 := Fine.tuple (FineL.cons (Fine.int (by omega) (by omega)) (FineL.cons (Fine.int (by omega) (by omega)) FineL.nil))
    exact (FineL.cons f (ps_fine fun x hx => h x (List.mem_cons_of_mem _ hx))).up (Nat.le_refl _) (by rw [List.length_cons]; omega)
theorem names_fine {ps : List (Int × Int)} {ms : List Int} (ok : NamesOk ps ms) (l : ps.length ≤ 100) : Fine (.list (ps.map pairD)) 2 8300 := (Fine.list (ps_fine ok.rg)).up (Nat.le_refl _) (by omega)
theorem eqv_nilL (ds : List PyData) : PyData.eqv (.list ds) (.list []) = ds.isEmpty := by
  cases ds with
  | nil => rfl
  | cons x l => rfl
theorem EOk.len {p : Addr} {H0 : Hp} {σ : L2.St} {K : PySem.W.Frag} {te : TE} {gs : List G} (h : EOk p H0 σ te (.lst gs)) : EOk p H0 σ (tCB (rLenK K) (tCons te tNil)) (.int (gs.length : Nat)) :=
  fun H Q hp s q => h H _ hp s fun v H1 hp1 s1 t1 => by
    obtain ⟨a, vs, rfl, na, ea, ta⟩ := lst_at t1
    refine ⟨a, vs, rfl, .inl (SqL.of ea), ?_⟩
    rw [ta.len]
    exact q _ H1 hp1 s1 (.int _)
theorem badO_no {n : Nat} {g : G} (h : ∀ l, g ≠ .lst l) : ¬ orderG n g := fun ⟨os, e, _⟩ => h _ e
theorem badO_len {n : Nat} {l : List G} (h : l.length ≠ n) : ¬ orderG n (.lst l) := fun ⟨os, e, ok⟩ => by
  injection e with e
  have := ok.all.length_eq
  rw [rgI_len] at this
  rw [e, List.length_map] at h
  exact h this
theorem badO_mem {n : Nat} {l : List G} {x : G} (hx : x ∈ l) (h : ∀ k : Int, 0 ≤ k → k < n → x ≠ .int k) : ¬ orderG n (.lst l) := fun ⟨os, e, ok⟩ => by
  injection e with e
  rw [e] at hx
  obtain ⟨k, hk, e2⟩ := List.mem_map.mp hx
  have r := rgI_mem.mp (ok.all.mem_iff.mp hk)
  exact h k r.1 r.2 e2.symm
theorem badO_zero {n : Nat} {l : List Int} {k : Int} (e : l[0]? = some k) (h : k ≠ 0) : ¬ orderG n (.lst (l.map G.int)) := fun ⟨os, e2, ok⟩ => by
  injection e2 with e2
  obtain rfl := int_inj e2
  have := e.symm.trans ok.zero
  injection this with this
  exact h this
theorem badO_dup {n : Nat} {l : List Int} (h : ¬ l.Nodup) : ¬ orderG n (.lst (l.map G.int)) := fun ⟨os, e2, ok⟩ => by
  injection e2 with e2
  obtain rfl := int_inj e2
  exact h (ok.all.nodup_iff.mpr (rgI_nd _))
def spRefused : Sp := fun vs H Q _ => ∃ (p a b c : Addr) (rs : List Rw) (ps : List (Int × Int)) (os : List Int), vs = [.ref p, .ref a, .ref b, .ref c] ∧ PoolAt H p ∧ a ≠ p ∧ b ≠ p ∧ c ≠ p ∧ WebAt H a rs ∧ WebOk rs ∧ NamesAt H b ps ∧ NamesOk ps (roomsR rs) ∧ ps.length ≤ 100 ∧ H c = some (.lst (os.map V.int)) ∧ OrdOk rs.length os ∧
  ∀ H', Kept p H H' → PoolAt H' p → Q (.bl true) H'
theorem sc_law_refused : FnScope ["_law_pool_here", "_law_web_here", "_law_names_here", "_law_order", "_law_odd"] ["_law_pool_here", "_law_web_here", "_law_names_here", "_law_order"] (defScope s_law_refused) := ⟨rfl, rfl, rfl, by decide +kernel, rfl, by decide +kernel, by decide +kernel⟩
section
variable {P : Program} {w : World} {K : PySem.W.Frag} {mg : Str → Option Value} {base : Heap}
theorem ok_refused (T : At K mg "_law_refused" s_law_refused ["_law_pool_here", "_law_web_here", "_law_names_here", "_law_order"]) (B : Bt mg) (c_take : Cal P w K mg base 1 "_law_take" ["_law_pool_here", "_law_many"] spTake) (c_kind : Cal P w K mg base 7 "_law_kind" ["_law_way", "_law_web_here", "_law_thing"] spKind) :
    Cal P w K mg base 8 "_law_refused" ["_law_pool_here", "_law_web_here", "_law_names_here", "_law_order"] spRefused := by
  refine cal_of T sc_law_refused (fun vs H Q E h => ?_) (fun f cdv A outer s H vs Q E hr h => ?_)
  · obtain ⟨p, a, b, c, rs, ps, os, rfl, _⟩ := h
    rfl
  · obtain ⟨p, a, b, c, rs, ps, os, rfl, hp, eap, ebp, ecp, hA, okA, hB, okN, lps, hc, okO, q⟩ := h
    refine ⟨_, (pss_cons (ps_set (i := 4) sc_law_refused.nd rfl (Or.inl rfl) (pe_lst (pa_cons pe_non (pa_cons (pe_callTy call_tupleF (by rfl) B.tuple (by decide +kernel) (pa_cons (pv 2) pa_nil)) (pa_cons pe_dnewK (pa_cons pe_str (pa_cons (pe_op op_cat (pv 2) (pe_lst (pa_cons (pe_tupF (pa_cons pe_int (pa_cons pe_int pa_nil))) pa_nil))) (pa_cons (pe_op op_cat (pv 2) (pe_lst (pa_cons (pe_tupF (pa_cons pe_int (pa_cons pe_int pa_nil))) pa_nil))) pa_nil))))))))
      (pss_cons (ps_set (i := 4) sc_law_refused.nd rfl (Or.inl rfl) (pe_op op_cat (pv 4) (pe_lst (pa_cons (pe_op op_cat (pv 2) (pe_lst (pa_cons (pe_tupF (pa_cons pe_bl (pa_cons pe_int pa_nil))) pa_nil))) (pa_cons (pe_op op_cat (pv 2) (pe_lst (pa_cons pe_int pa_nil))) (pa_cons (pe_op op_cat (pv 2) (pe_lst (pa_cons (pe_tupF (pa_cons pe_int (pa_cons pe_int (pa_cons pe_int pa_nil)))) pa_nil))) (pa_cons (pe_op op_cat (pv 2) (pe_lst (pa_cons (pe_lst (pa_cons pe_int (pa_cons pe_int pa_nil))) pa_nil))) (pa_cons (pe_op op_cat (pv 2) (pe_lst (pa_cons (pe_tupF (pa_cons (pe_un un_neg pe_int) (pa_cons pe_int pa_nil))) pa_nil))) pa_nil))))))))
      (pss_cons (ps_if (pt_cmpR (op_neD hr.units) (pv 2) (pe_lst pa_nil) (nomark _)) (pss_cons (ps_set (i := 4) sc_law_refused.nd rfl (Or.inl rfl) (pe_op op_cat (pv 4) (pe_lst (pa_cons (pe_slice sl_list (pv 2) (po_some pe_int) po_none) (pa_cons (pe_op op_cat (pv 2) (pe_slice sl_list (pv 2) po_none (po_some pe_int))) (pa_cons (pe_op op_cat (pe_slice sl_list (pv 2) (po_some pe_int) po_none) (pe_lst (pa_cons (pe_tupF (pa_cons (pe_ix ix_tup (pe_ix ix_list (pv 2) pe_int (fun _ _ => rfl)) pe_int (fun _ _ => rfl)) (pa_cons pe_int pa_nil))) pa_nil))) pa_nil))))))
      (pss_one (ps_expr (pe_bm PySem.F.plainAttrs_list PySem.F.slot_list_append PySem.F.type_list_append mt_append (pv 4) (pa_cons (pe_op op_cat (pe_slice sl_list (pv 2) (po_some pe_int) po_none) (pe_lst (pa_cons (pe_tupF (pa_cons (pe_ix ix_tup (pe_ix ix_list (pv 2) pe_int (fun _ _ => rfl)) pe_int (fun _ _ => rfl)) (pa_cons pe_non pa_nil))) pa_nil))) pa_nil))))) pss_nil)
      (pss_cons (ps_if (pt_cmpR op_gt (pe_callB call_len_seq (by rfl) B.len PySem.boot_len (pa_cons (pv 2) pa_nil)) pe_int (nomark _)) (pss_one (ps_set (i := 4) sc_law_refused.nd rfl (Or.inl rfl) (pe_op op_cat (pv 4) (pe_lst (pa_cons (pe_op op_cat (pe_slice sl_list (pv 2) (po_some pe_int) po_none) (pe_lst (pa_cons (pe_tupF (pa_cons (pe_ix ix_tup (pe_ix ix_list (pv 2) pe_int (fun _ _ => rfl)) pe_int (fun _ _ => rfl)) (pa_cons (pe_ix ix_tup (pe_ix ix_list (pv 2) pe_int (fun _ _ => rfl)) pe_int (fun _ _ => rfl)) pa_nil))) pa_nil))) (pa_cons (pe_op op_cat (pe_slice sl_list (pv 2) (po_some pe_int) po_none) (pe_lst (pa_cons (pe_tupF (pa_cons (pe_ix ix_tup (pe_ix ix_list (pv 2) pe_int (fun _ _ => rfl)) pe_int (fun _ _ => rfl)) (pa_cons (pe_ix ix_tup (pe_ix ix_list (pv 2) pe_int (fun _ _ => rfl)) pe_int (fun _ _ => rfl)) pa_nil))) pa_nil))) pa_nil)))))) pss_nil)
      (pss_cons (ps_if (PW.pt (pw_or (pt_cmpR op_ne (pe_own c_kind hr (by decide) (by rfl) (pa_cons pe_int (pa_cons (pv 1) (pa_cons (pe_ix ix_list (pv 4) (pe_own c_take hr (by decide) (by rfl) (pa_cons (pv 0) (pa_cons (pe_callB call_len_seq (by rfl) B.len PySem.boot_len (pa_cons (pv 4) pa_nil)) pa_nil))) (fun _ _ => rfl)) pa_nil)))) pe_str (nomark _)) (pw_or1 (pt_cmpR op_ne (pe_own c_kind hr (by decide) (by rfl) (pa_cons pe_int (pa_cons (pe_callTy call_tupleF (by rfl) B.tuple (by decide +kernel) (pa_cons (pv 1) pa_nil)) (pa_cons pe_non pa_nil)))) pe_str (nomark _))))) (pss_one (ps_ret pe_bl)) pss_nil)
      (pss_cons (ps_set (i := 4) sc_law_refused.nd rfl (Or.inl rfl) (pe_lst (pa_cons pe_non (pa_cons (pe_callTy call_tupleF (by rfl) B.tuple (by decide +kernel) (pa_cons (pv 3) pa_nil)) (pa_cons pe_dnewK (pa_cons (pe_op op_cat (pv 3) (pe_lst (pa_cons pe_int pa_nil))) (pa_cons (pe_slice sl_list (pv 3) (po_some pe_int) po_none) (pa_cons (pe_lst pa_nil) (pa_cons (pe_op op_cat (pe_slice sl_list (pv 3) po_none (po_some (pe_un un_neg pe_int))) (pe_lst (pa_cons (pe_callB call_len_seq (by rfl) B.len PySem.boot_len (pa_cons (pv 1) pa_nil)) pa_nil))) (pa_cons (pe_op op_cat (pe_slice sl_list (pv 3) po_none (po_some (pe_un un_neg pe_int))) (pe_lst (pa_cons (pe_un un_neg pe_int) pa_nil))) pa_nil))))))))))
      (pss_cons (ps_set (i := 4) sc_law_refused.nd rfl (Or.inl rfl) (pe_op op_cat (pv 4) (pe_lst (pa_cons (pe_op op_cat (pe_slice sl_list (pv 3) po_none (po_some (pe_un un_neg pe_int))) (pe_lst (pa_cons pe_non pa_nil))) (pa_cons (pe_op op_cat (pe_lst (pa_cons pe_bl pa_nil)) (pe_slice sl_list (pv 3) (po_some pe_int) po_none)) (pa_cons (pe_op op_cat (pe_slice sl_list (pv 3) po_none (po_some (pe_un un_neg pe_int))) (pe_lst (pa_cons pe_str pa_nil))) (pa_cons (pe_op op_cat (pv 3) (pe_lst (pa_cons (pe_callB call_len_seq (by rfl) B.len PySem.boot_len (pa_cons (pv 1) pa_nil)) pa_nil))) pa_nil)))))))
      (pss_cons (ps_if (pt_cmpR op_gt (pe_callB call_len_seq (by rfl) B.len PySem.boot_len (pa_cons (pv 3) pa_nil)) pe_int (nomark _)) (pss_one (ps_set (i := 4) sc_law_refused.nd rfl (Or.inl rfl) (pe_op op_cat (pv 4) (pe_lst (pa_cons (pe_revL (pv 3)) (pa_cons (pe_op op_cat (pe_slice sl_list (pv 3) (po_some pe_int) po_none) (pe_lst (pa_cons pe_int pa_nil))) (pa_cons (pe_op op_cat (pe_lst (pa_cons pe_int pa_nil)) (pe_slice sl_list (pv 3) po_none (po_some (pe_un un_neg pe_int)))) pa_nil))))))) pss_nil)
      (pss_one (ps_ret (pe_and (pe_cmpR op_eq (pe_own c_kind hr (by decide) (by rfl) (pa_cons pe_int (pa_cons (pv 1) (pa_cons (pe_ix ix_list (pv 4) (pe_own c_take hr (by decide) (by rfl) (pa_cons (pv 0) (pa_cons (pe_callB call_len_seq (by rfl) B.len PySem.boot_len (pa_cons (pv 4) pa_nil)) pa_nil))) (fun _ _ => rfl)) pa_nil)))) pe_str (nomark _)) (pe_one (pe_cmpR op_eq (pe_own c_kind hr (by decide) (by rfl) (pa_cons pe_int (pa_cons pe_non (pa_cons (pv 3) pa_nil)))) pe_str (nomark _)))))))))))))), ?_⟩
    have tB : Tg p H (.ref b) (.lst (ps.map pairT)) := by
      obtain ⟨us, hb, hps⟩ := hB
      exact .lst ebp hb hps.tg
    have tC' : Tg p H (.ref c) (.lst (os.map G.int)) := .lst ecp hc (TgL.ints os)
    have lp : (ps.map pairT).length ≤ 100 := by rw [List.length_map]; exact lps
    have vb : ∀ {H' : Hp} {o : Option V}, Same H H' → EOk p H' [some (.ref p), some (.ref a), some (.ref b), some (.ref c), o] (tVar 2) (.lst (ps.map pairT)) := fun s => EOk.var rfl (tB.keep (Keeps.same s))
    have e1 := EOk.lst (EsOk.cons EOk.non (EsOk.cons (EOk.tupOf (K := K) (vb (o := none) (Same.refl H))) (EsOk.cons EOk.dct (EsOk.cons (EOk.str "x") (EsOk.cons (EOk.add1 (vb (Same.refl H)) lp (EOk.two (EOk.int 100) (EOk.int 1))) (EsOk.cons (EOk.add1 (vb (Same.refl H)) lp (EOk.two (EOk.int 5) (EOk.int 100))) EsOk.nil)))))) (Nat.le_of_ble_eq_true rfl)
    dsimp only [tSeq, tAsg]
    refine e1 H _ hp (Same.refl H) (fun v1 H1 hp1 s1 t1 => ?_)
    have v4 : EOk p H1 [some (.ref p), some (.ref a), some (.ref b), some (.ref c), some v1] (tVar 4) _ := EOk.var rfl t1
    have e2 := EOk.cat v4 (EOk.lst (EsOk.cons (EOk.add1 (vb s1) lp (EOk.two (EOk.bl true) (EOk.int 1))) (EsOk.cons (EOk.add1 (vb s1) lp (EOk.int 5)) (EsOk.cons (EOk.add1 (vb s1) lp (EOk.tup (EsOk.cons (EOk.int 1) (EsOk.cons (EOk.int 2) (EsOk.cons (EOk.int 3) EsOk.nil))) (Nat.le_of_ble_eq_true rfl)))
      (EsOk.cons (EOk.add1 (vb s1) lp (EOk.lst (EsOk.cons (EOk.int 1) (EsOk.cons (EOk.int 2) EsOk.nil)) (Nat.le_of_ble_eq_true rfl))) (EsOk.cons (EOk.add1 (vb s1) lp (EOk.two (EOk.neg 1) (EOk.int 3))) EsOk.nil))))) (Nat.le_of_ble_eq_true rfl)) (Nat.le_of_ble_eq_true rfl)
    dsimp only [gName, tSeq, tAsg]
    refine e2 H1 _ hp1 (Same.refl H1) (fun v2 H2 hp2 s2 t2 => ?_)
    have bad2 : ∀ g ∈ ([.non, .tup (ps.map pairT), .dct, .str "x", .lst (ps.map pairT ++ [.tup [.int 100, .int 1]]), .lst (ps.map pairT ++ [.tup [.int 5, .int 100]])] ++ [.lst (ps.map pairT ++ [.tup [.bl true, .int 1]]), .lst (ps.map pairT ++ [.int 5]), .lst (ps.map pairT ++ [.tup [.int 1, .int 2, .int 3]]), .lst (ps.map pairT ++ [.lst [.int 1, .int 2]]), .lst (ps.map pairT ++ [.tup [.int (-1), .int 3]])] : List G), badN (roomsR rs) g := by
      have f1 : ∀ x : G, (ps.map pairT ++ [x]).length ≤ 900 := fun x => by rw [List.length_append, List.length_singleton]; omega
      have last : ∀ x : G, x ∈ ps.map pairT ++ [x] := fun x => List.mem_append_right _ (List.mem_singleton.mpr rfl)
      intro g hg
      simp only [List.mem_append, List.mem_cons, List.not_mem_nil, or_false] at hg
      rcases hg with (rfl | rfl | rfl | rfl | rfl | rfl) | (rfl | rfl | rfl | rfl | rfl)
      · exact badN_no trivial (fun l h => by cases h)
      · exact badN_no trivial (fun l h => by cases h)
      · exact badN_no trivial (fun l h => by cases h)
      · exact badN_no trivial (fun l h => by cases h)
      all_goals
        refine badN_mem (f1 _) (last _) (fun q r h => ?_)
        unfold pairT at h
        first
          | cases h
          | (simp at h; omega)
          | (simp at h)
    apply mid (M := fun σ H3 => ∃ (v : V) (gs : List G), σ = [some (.ref p), some (.ref a), some (.ref b), some (.ref c), some v] ∧ Same H H3 ∧ PoolAt H3 p ∧ Tg p H3 v (.lst gs) ∧ 1 ≤ gs.length ∧ gs.length ≤ 20 ∧ ∀ g ∈ gs, badN (roomsR rs) g)
    case h =>
      intro rest
      obtain ⟨us, hb, hps⟩ := id hB
      have s02 := s1.trans s2
      refine ⟨_, rfl, (by show 0 ≤ sizeLine; decide), fun L nL => ⟨_, _, .lst (SqL.of ((same_upd nL) _ _ (s02 _ _ hb))) (hps.keep (K2.same (s02.trans (same_upd nL)))).dp, .lst (SqL.of upd_same) .nil, (names_fine okN lps).shaped (by decide), (Fine.list FineL.nil : Fine (.list []) 1 0).shaped (by decide), _, rfl, ?_⟩⟩
      rw [eqv_nilL]
      have s03 := s02.trans (same_upd (o := .lst []) nL)
      have t3 := t2.keep (Keeps.same (same_upd (o := .lst []) nL))
      have hp3 := hp2.same (same_upd (o := .lst []) nL)
      generalize upd H2 L (.lst []) = H3 at s03 t3 hp3 ⊢
      refine iteB (fun z => ?_) (fun z => ?_)
      rotate_left
      · exact rest _ _ ⟨v2, _, rfl, s03, hp3, t3, Nat.le_of_ble_eq_true rfl, Nat.le_of_ble_eq_true rfl, bad2⟩
      · obtain ⟨q0, eps⟩ : ∃ q0, ps[0]? = some q0 := by
          cases ps with
          | nil => cases z
          | cons q0 ps' => exact ⟨q0, rfl⟩
        have eps0 : (ps.map pairT)[0]? = some (.tup [.int q0.1, .int q0.2]) := by rw [List.getElem?_map, eps]; rfl
        have one1 : 1 ≤ (ps.map pairT).length := by
          have := (List.getElem?_eq_some_iff.mp eps).1
          rw [List.length_map]
          omega
        have vb3 : EOk p H3 [some (.ref p), some (.ref a), some (.ref b), some (.ref c), some v2] (tVar 2) (.lst (ps.map pairT)) := vb s03
        have v4 : EOk p H3 [some (.ref p), some (.ref a), some (.ref b), some (.ref c), some v2] (tVar 4) _ := EOk.var rfl t3
        have lpd : ((ps.map pairT).drop 1).length ≤ 100 := by rw [List.length_drop]; omega
        have r00 : EOk p H3 [some (.ref p), some (.ref a), some (.ref b), some (.ref c), some v2] (tOp (rIxT K) (tOp (rIxL K) (tVar 2) (tC (.int 0))) (tC (.int 0))) (.int q0.1) := EOk.ixT (i := 0) (EOk.ixL (i := 0) vb3 eps0) rfl
        have e3 := EOk.lst (EsOk.cons (EOk.from1 (K := K) vb3) (EsOk.cons (EOk.cat vb3 (EOk.to1 (K := K) vb3) (by rw [List.length_take]; omega)) (EsOk.cons (EOk.cat (EOk.from1 (K := K) vb3) (EOk.lst (EsOk.cons (EOk.two r00 (EOk.int 100)) EsOk.nil) (Nat.le_of_ble_eq_true rfl)) (by rw [List.length_singleton]; omega)) EsOk.nil))) (Nat.le_of_ble_eq_true rfl)
        dsimp only [tSeq, tAsg]
        refine EOk.catN v4 e3 (Nat.le_of_ble_eq_true rfl) hp3 (Same.refl H3) (fun L4 vs4 H4 hp4 s4 nL4 eL4 tl4 => ?_)
        dsimp only [gName, tSeq, tAsg, tDrop, tBM]
        have s45 : Same H4 (upd H4 L4 (.lst vs4)) := same_upd nL4
        have hL5 : (upd H4 L4 (.lst vs4)) L4 = some (.lst vs4) := upd_same
        have hp5 := hp4.same s45
        generalize upd H4 L4 (.lst vs4) = H5 at s45 hL5 hp5 ⊢
        have s05 := s03.trans (s4.trans s45)
        have vb5 : EOk p H5 [some (.ref p), some (.ref a), some (.ref b), some (.ref c), some (.ref L4)] (tVar 2) (.lst (ps.map pairT)) := vb s05
        have r005 : EOk p H5 [some (.ref p), some (.ref a), some (.ref b), some (.ref c), some (.ref L4)] (tOp (rIxT K) (tOp (rIxL K) (tVar 2) (tC (.int 0))) (tC (.int 0))) (.int q0.1) := EOk.ixT (i := 0) (EOk.ixL (i := 0) vb5 eps0) rfl
        refine ⟨_, rfl, .inl ⟨rfl, _, SqL.of hL5⟩, ?_⟩
        have e5 := EOk.lst (EsOk.cons (EOk.two r005 EOk.non) EsOk.nil) (Nat.le_of_ble_eq_true rfl)
        refine EOk.catN (EOk.from1 (K := K) vb5) e5 (by rw [List.length_singleton]; omega) hp5 (Same.refl H5) (fun c6 vs6 H6 hp6 s6 n6 e6 tl6 => ?_)
        have hL6 : (upd H6 c6 (.lst vs6)) L4 = some (.lst vs4) := same_upd n6 _ _ (s6 _ _ hL5)
        have hv4 : vs4.length ≤ 20 := by rw [tl4.len]; exact Nat.le_of_ble_eq_true rfl
        refine ⟨L4, vs4, .ref c6, rfl, rfl, hL6, small1000 (by omega), ?_⟩
        have s46 : Same H4 H6 := s45.trans s6
        have s47 : Same H4 (upd (upd H6 c6 (.lst vs6)) L4 (.lst (vs4 ++ [.ref c6]))) := fun x o ex => by
          rw [upd_ne (ne_of_none ex nL4), upd_ne (ne_of_none (s46 _ _ ex) n6)]
          exact s46 _ _ ex
        have k67 : K2 H6 (upd (upd H6 c6 (.lst vs6)) L4 (.lst (vs4 ++ [.ref c6]))) := (K2.same (same_upd n6)).trans (K2.lst hL6)
        have ec4 : c6 ≠ L4 := (ne_of_none (s6 _ _ hL5) n6).symm
        have hc7 : (upd (upd H6 c6 (.lst vs6)) L4 (.lst (vs4 ++ [.ref c6]))) c6 = some (.lst vs6) := by
          rw [upd_ne ec4, upd_same]
        have nl6 : noLs ((ps.map pairT).drop 1 ++ [.tup [.int q0.1, .non]]) = true := noLs_all fun g hg => by
          rcases List.mem_append.mp hg with h | h
          · obtain ⟨q, _, rfl⟩ := List.mem_map.mp (List.mem_of_mem_drop h)
            simp [pairT, noL, noLs]
          · rw [List.mem_singleton.mp h]
            simp [noL, noLs]
        have lms : (ps.map pairT).length = (roomsR rs).length := by
          have := okN.all.length_eq
          rw [List.length_map] at this
          rw [List.length_map]
          exact this
        refine rest _ _ ⟨.ref L4, _, rfl, (s03.trans s4).trans s47, (hp6.same (same_upd n6)).upd eL4.symm, .lst eL4 upd_same ((tl4.keep (Keeps.same s47)).app (.cons (.lst e6 hc7 (tl6.keep2 k67 nl6)) .nil)), Nat.le_of_ble_eq_true rfl, Nat.le_of_ble_eq_true rfl, fun g hg => ?_⟩
        have f1 : ∀ x : G, ((ps.map pairT).drop 1 ++ [x]).length ≤ 900 := fun x => by rw [List.length_append, List.length_singleton]; omega
        have last : ∀ x : G, x ∈ (ps.map pairT).drop 1 ++ [x] := fun x => List.mem_append_right _ (List.mem_singleton.mpr rfl)
        rcases List.mem_append.mp hg with h | h
        · rcases List.mem_append.mp h with h | h
          · exact bad2 g h
          · simp only [List.mem_cons, List.not_mem_nil, or_false] at h
            rcases h with rfl | rfl | rfl
            · refine badN_len (by omega) ?_
              rw [List.length_drop, ← lms]
              omega
            · refine badN_len (by rw [List.length_append, List.length_take]; omega) ?_
              rw [List.length_append, List.length_take, ← lms]
              omega
            · refine badN_mem (f1 _) (last _) (fun q r h => ?_)
              unfold pairT at h
              simp at h
              omega
        · rw [List.mem_singleton.mp h]
          refine badN_mem (f1 _) (last _) (fun q r h => ?_)
          unfold pairT at h
          simp at h
    case hR =>
      rintro σ H3 ⟨v, gs, rfl, s3, hp3, t3, g1, g20, bad⟩
      obtain ⟨us, hb, hps⟩ := id hB
      have hb3 := s3 _ _ hb
      have hul := hps.len
      apply mid (M := fun σ H3 => ∃ (v : V) (gs : List G), σ = [some (.ref p), some (.ref a), some (.ref b), some (.ref c), some v] ∧ Same H H3 ∧ PoolAt H3 p ∧ Tg p H3 v (.lst gs) ∧ 1 ≤ gs.length ∧ gs.length ≤ 40 ∧ ∀ g ∈ gs, badN (roomsR rs) g)
      case h =>
        intro rest
        refine ⟨_, rfl, b, _, rfl, .inl (SqL.of hb3), _, _, rfl, rfl, _, rfl, iteB (fun z => ?_) (fun z => ?_)⟩
        rotate_left
        · exact rest _ _ ⟨v, gs, rfl, s3, hp3, t3, g1, by omega, bad⟩
        · have z1 := of_decide_eq_true z
          have h0 : 0 < ps.length := by omega
          have h1 : 1 < ps.length := by omega
          have eq0 : ps[0]? = some ps[0] := List.getElem?_eq_getElem h0
          have eq1 : ps[1]? = some ps[1] := List.getElem?_eq_getElem h1
          generalize ps[0] = q0 at eq0
          generalize ps[1] = q1 at eq1
          have ep0 : (ps.map pairT)[0]? = some (.tup [.int q0.1, .int q0.2]) := by rw [List.getElem?_map, eq0]; rfl
          have ep1 : (ps.map pairT)[1]? = some (.tup [.int q1.1, .int q1.2]) := by rw [List.getElem?_map, eq1]; rfl
          have vb3 : EOk p H3 [some (.ref p), some (.ref a), some (.ref b), some (.ref c), some v] (tVar 2) (.lst (ps.map pairT)) := vb s3
          have v4 : EOk p H3 [some (.ref p), some (.ref a), some (.ref b), some (.ref c), some v] (tVar 4) _ := EOk.var rfl t3
          have lpd : ((ps.map pairT).drop 1).length ≤ 100 := by rw [List.length_drop]; omega
          have r00 := EOk.ixT (K := K) (i := 0) (EOk.ixL (K := K) (i := 0) vb3 ep0) rfl
          have r01 := EOk.ixT (K := K) (i := 1) (EOk.ixL (K := K) (i := 0) vb3 ep0) rfl
          have r10 := EOk.ixT (K := K) (i := 0) (EOk.ixL (K := K) (i := 1) vb3 ep1) rfl
          have r11 := EOk.ixT (K := K) (i := 1) (EOk.ixL (K := K) (i := 1) vb3 ep1) rfl
          have e3 := EOk.cat v4 (EOk.lst (EsOk.cons (EOk.cat (EOk.from1 (K := K) vb3) (EOk.lst (EsOk.cons (EOk.two r00 r11) EsOk.nil) (Nat.le_of_ble_eq_true rfl)) (by rw [List.length_singleton]; omega)) (EsOk.cons (EOk.cat (EOk.from1 (K := K) vb3) (EOk.lst (EsOk.cons (EOk.two r10 r01) EsOk.nil) (Nat.le_of_ble_eq_true rfl)) (by rw [List.length_singleton]; omega)) EsOk.nil)) (Nat.le_of_ble_eq_true rfl)) (by show gs.length + 2 ≤ 1000; omega)
          dsimp only [tAsg]
          refine e3 H3 _ hp3 (Same.refl H3) (fun v5 H5 hp5 s5 t5 => ?_)
          have mem1 : q1 ∈ ps.drop 1 := List.mem_of_getElem? (i := 0) (by rw [List.getElem?_drop]; exact eq1)
          have ld : (ps.drop 1).length ≤ 100 := by rw [List.length_drop]; omega
          refine rest _ _ ⟨v5, _, rfl, s3.trans s5, hp5, t5, by rw [List.length_append]; omega, by show (gs ++ [_, _]).length ≤ 40; rw [List.length_append]; show gs.length + 2 ≤ 40; omega, fun g hg => ?_⟩
          rcases List.mem_append.mp hg with h | h
          · exact bad g h
          · simp only [List.mem_cons, List.not_mem_nil, or_false] at h
            rcases h with rfl | rfl
            · have e : (ps.map pairT).drop 1 ++ [.tup [.int q0.1, .int q1.2]] = (ps.drop 1 ++ [(q0.1, q1.2)]).map pairT := by
                rw [List.map_append, List.map_drop]
                rfl
              rw [e]
              refine badN_snd (by rw [List.length_append, List.length_singleton]; omega) (fun nd => ?_)
              rw [List.map_append, List.nodup_append] at nd
              exact nd.2.2 _ (List.mem_map.mpr ⟨q1, mem1, rfl⟩) _ (List.mem_singleton.mpr rfl) rfl
            · have e : (ps.map pairT).drop 1 ++ [.tup [.int q1.1, .int q0.2]] = (ps.drop 1 ++ [(q1.1, q0.2)]).map pairT := by
                rw [List.map_append, List.map_drop]
                rfl
              rw [e]
              refine badN_fst (roomsR_nd rs) (by rw [List.length_append, List.length_singleton]; omega) (fun nd => ?_)
              rw [List.map_append, List.nodup_append] at nd
              exact nd.2.2 _ (List.mem_map.mpr ⟨q1, mem1, rfl⟩) _ (List.mem_singleton.mpr rfl) rfl
      case hR =>
        clear e1 t1 v4 e2 t2 bad2 t3 bad
        rintro σ H4 ⟨v, gs, rfl, s4, hp4, t4, g1, g40, bad⟩
        obtain ⟨L, vs, rfl, eL, hL, tl⟩ := lst_at t4
        have lvs := tl.len
        obtain ⟨wa, hwa, hra⟩ := id hA
        refine ⟨_, rfl, _, rfl, _, rfl, _, rfl, L, _, rfl, .inl (SqL.of hL), p, _, rfl, hp4, by omega, by omega, fun r o r0 r1 po => ?_⟩
        have k5 : Kept p H4 (upd H4 p o) := Kept.upd p H4 o
        have hp5 : PoolAt (upd H4 p o) p := ⟨o, upd_same, po⟩
        have hL5 := k5 _ _ hL eL
        generalize upd H4 p o = H5 at k5 hp5 hL5 ⊢
        have hr1 : r.toNat < gs.length := by omega
        have eg : gs[r.toNat]? = some gs[r.toNat] := List.getElem?_eq_getElem hr1
        generalize gs[r.toNat] = g at eg
        obtain ⟨x, ex, tx⟩ := tl.at eg
        have tx5 := tx.keep (Keeps.of k5 hp4)
        have k05 : Kept p H H5 := (Kept.same s4).trans k5
        have bg := bad g (List.mem_of_getElem? eg)
        refine ⟨L, _, _, x, rfl, rfl, SqL.of hL5, atI_int r0 ex, ?_⟩
        refine ⟨0, .ref a, x, rfl, .inl rfl, .inr ⟨a, rs, p, g, rfl, ⟨wa, k05 _ _ hwa eap, hra.keep (K2.of k05 hp)⟩, okA, tx5, .inl ⟨rfl, bg.1, bg.2⟩, fun H6 s6 => ?_⟩⟩
        refine ⟨rfl, _, rfl, iteB (fun z => absurd z (by rw [decide_eq_true rfl]; exact Bool.false_ne_true)) (fun _ => ?_)⟩
        have hp6 := hp5.same s6
        have k06 := k05.trans (Kept.same s6)
        refine ⟨_, rfl, a, wa, rfl, SqL.of (k06 _ _ hwa eap), fun t H7 s7 nt pt => ?_⟩
        have k07 := k06.trans (Kept.same s7)
        refine ⟨0, .ref t, .non, rfl, .inl rfl, .inl ⟨p, .tup (rs.map rowT), none, .tup (.inl pt) (tg_rows (hra.keep (K2.of k07 hp))), rfl, fun H8 s8 => ?_⟩⟩
        refine ⟨rfl, _, rfl, iteB (fun z => absurd z (by rw [decide_eq_true rfl]; exact Bool.false_ne_true)) (fun _ => ?_)⟩
        have hp8 : PoolAt H8 p := (hp6.same s7).same s8
        have k08 : Kept p H H8 := k07.trans (Kept.same s8)
        have hc8 := k08 _ _ hc ecp
        have tO : Tg p H8 (.ref c) (.lst (os.map G.int)) := .lst ecp hc8 (TgL.ints os)
        have tA : Tg p H8 (.ref a) (.lst (rs.map rowT)) := .lst eap (k08 _ _ hwa eap) (tg_rows (hra.keep (K2.of k08 hp)))
        have los : os.length = rs.length := okO.all.length_eq.trans (rgI_len _)
        have h80 := okA.few
        have hpos := okA.pos
        have lo : (os.map G.int).length = rs.length := by rw [List.length_map]; exact los
        have vo : ∀ {H' : Hp} {o : Option V}, Same H8 H' → EOk p H' [some (.ref p), some (.ref a), some (.ref b), some (.ref c), o] (tVar 3) (.lst (os.map G.int)) := fun s => EOk.var rfl (tO.keep (Keeps.same s))
        have va : ∀ {H' : Hp} {o : Option V}, Same H8 H' → EOk p H' [some (.ref p), some (.ref a), some (.ref b), some (.ref c), o] (tVar 1) (.lst (rs.map rowT)) := fun s => EOk.var rfl (tA.keep (Keeps.same s))
        have lt1 : ((os.map G.int).take ((os.map G.int).length - 1)).length ≤ 80 := by rw [List.length_take]; omega
        have f8 := vo (o := some (.ref L)) (Same.refl H8)
        have a8 := va (o := some (.ref L)) (Same.refl H8)
        have e6 := EOk.lst (EsOk.cons EOk.non (EsOk.cons (EOk.tupOf (K := K) f8) (EsOk.cons EOk.dct (EsOk.cons (EOk.cat f8 (EOk.lst (EsOk.cons (EOk.int 0) EsOk.nil) (Nat.le_of_ble_eq_true rfl)) (by rw [List.length_singleton]; omega)) (EsOk.cons (EOk.from1 (K := K) f8) (EsOk.cons (EOk.lst EsOk.nil (Nat.zero_le _))
          (EsOk.cons (EOk.cat (EOk.toEnd (K := K) f8) (EOk.lst (EsOk.cons (EOk.len (K := K) a8) EsOk.nil) (Nat.le_of_ble_eq_true rfl)) (by rw [List.length_singleton]; omega)) (EsOk.cons (EOk.cat (EOk.toEnd (K := K) f8) (EOk.lst (EsOk.cons (EOk.neg 1) EsOk.nil) (Nat.le_of_ble_eq_true rfl)) (by rw [List.length_singleton]; omega)) EsOk.nil)))))))) (Nat.le_of_ble_eq_true rfl)
        dsimp only [tNext, tSeq, tAsg]
        refine e6 H8 _ hp8 (Same.refl H8) (fun v9 H9 hp9 s9 t9 => ?_)
        have f9 := vo (o := some v9) s9
        have a9 := va (o := some v9) s9
        have v4 : EOk p H9 [some (.ref p), some (.ref a), some (.ref b), some (.ref c), some v9] (tVar 4) _ := EOk.var rfl t9
        have ld1 : ((os.map G.int).drop 1).length ≤ 80 := by rw [List.length_drop]; omega
        have e7 := EOk.cat v4 (EOk.lst (EsOk.cons (EOk.cat (EOk.toEnd (K := K) f9) (EOk.lst (EsOk.cons EOk.non EsOk.nil) (Nat.le_of_ble_eq_true rfl)) (by rw [List.length_singleton]; omega)) (EsOk.cons (EOk.cat (EOk.lst (EsOk.cons (EOk.bl false) EsOk.nil) (Nat.le_of_ble_eq_true rfl)) (EOk.from1 (K := K) f9) (by rw [List.length_singleton]; omega))
          (EsOk.cons (EOk.cat (EOk.toEnd (K := K) f9) (EOk.lst (EsOk.cons (EOk.str "0") EsOk.nil) (Nat.le_of_ble_eq_true rfl)) (by rw [List.length_singleton]; omega)) (EsOk.cons (EOk.cat f9 (EOk.lst (EsOk.cons (EOk.len (K := K) a9) EsOk.nil) (Nat.le_of_ble_eq_true rfl)) (by rw [List.length_singleton]; omega)) EsOk.nil)))) (Nat.le_of_ble_eq_true rfl)) (Nat.le_of_ble_eq_true rfl)
        dsimp only [gName, tSeq, tAsg]
        refine e7 H9 _ hp9 (Same.refl H9) (fun v10 H10 hp10 s10 t10 => ?_)
        have bad10 : ∀ g ∈ ([.non, .tup (os.map G.int), .dct, .lst (os.map G.int ++ [.int 0]), .lst ((os.map G.int).drop 1), .lst [], .lst ((os.map G.int).take ((os.map G.int).length - 1) ++ [.int ((rs.map rowT).length : Nat)]), .lst ((os.map G.int).take ((os.map G.int).length - 1) ++ [.int (-1)])] ++ [.lst ((os.map G.int).take ((os.map G.int).length - 1) ++ [.non]), .lst ([.bl false] ++ (os.map G.int).drop 1), .lst ((os.map G.int).take ((os.map G.int).length - 1) ++ [.str "0"]), .lst (os.map G.int ++ [.int ((rs.map rowT).length : Nat)])] : List G), ¬ orderG rs.length g := by
          intro g hg
          simp only [List.mem_append, List.mem_cons, List.not_mem_nil, or_false] at hg
          rcases hg with (rfl | rfl | rfl | rfl | rfl | rfl | rfl | rfl) | (rfl | rfl | rfl | rfl)
          · exact badO_no (fun l h => by cases h)
          · exact badO_no (fun l h => by cases h)
          · exact badO_no (fun l h => by cases h)
          · exact badO_len (by rw [List.length_append, List.length_singleton]; omega)
          · exact badO_len (by rw [List.length_drop]; omega)
          · exact badO_len (by rw [List.length_nil]; omega)
          · exact badO_mem (List.mem_append_right _ (List.mem_singleton.mpr rfl)) (fun k h0 h1 h => by injection h with h; rw [List.length_map] at h; omega)
          · exact badO_mem (List.mem_append_right _ (List.mem_singleton.mpr rfl)) (fun k h0 h1 h => by injection h with h; omega)
          · exact badO_mem (List.mem_append_right _ (List.mem_singleton.mpr rfl)) (fun k h0 h1 h => by cases h)
          · exact badO_mem (List.mem_append_left _ (List.mem_singleton.mpr rfl)) (fun k h0 h1 h => by cases h)
          · exact badO_mem (List.mem_append_right _ (List.mem_singleton.mpr rfl)) (fun k h0 h1 h => by cases h)
          · exact badO_len (by rw [List.length_append, List.length_singleton]; omega)
        have s810 := s9.trans s10
        apply mid (M := fun σ H3 => ∃ (v : V) (gs : List G), σ = [some (.ref p), some (.ref a), some (.ref b), some (.ref c), some v] ∧ Same H8 H3 ∧ PoolAt H3 p ∧ Tg p H3 v (.lst gs) ∧ 1 ≤ gs.length ∧ gs.length ≤ 40 ∧ ∀ g ∈ gs, ¬ orderG rs.length g)
        case h =>
          intro rest
          refine ⟨_, rfl, c, _, rfl, .inl (SqL.of (s810 _ _ hc8)), _, _, rfl, rfl, _, rfl, iteB (fun z => ?_) (fun z => ?_)⟩
          rotate_left
          · exact rest _ _ ⟨v10, _, rfl, s810, hp10, t10, Nat.le_of_ble_eq_true rfl, Nat.le_of_ble_eq_true rfl, bad10⟩
          · have z1 := of_decide_eq_true z
            rw [List.length_map] at z1
            have f10 := vo (o := some v10) s810
            have v4' : EOk p H10 [some (.ref p), some (.ref a), some (.ref b), some (.ref c), some v10] (tVar 4) _ := EOk.var rfl t10
            have e11 := EOk.cat v4' (EOk.lst (EsOk.cons (EOk.rev (K := K) f10) (EsOk.cons (EOk.cat (EOk.from1 (K := K) f10) (EOk.lst (EsOk.cons (EOk.int 0) EsOk.nil) (Nat.le_of_ble_eq_true rfl)) (by rw [List.length_singleton]; omega)) (EsOk.cons (EOk.cat (EOk.lst (EsOk.cons (EOk.int 0) EsOk.nil) (Nat.le_of_ble_eq_true rfl)) (EOk.toEnd (K := K) f10) (by rw [List.length_singleton]; omega)) EsOk.nil))) (Nat.le_of_ble_eq_true rfl)) (Nat.le_of_ble_eq_true rfl)
            dsimp only [tAsg]
            refine e11 H10 _ hp10 (Same.refl H10) (fun v11 H11 hp11 s11 t11 => ?_)
            have ndo : os.Nodup := okO.all.nodup_iff.mpr (rgI_nd _)
            have h1 : 1 < os.length := by omega
            have far : ∀ j k, 0 < j → os[j]? = some k → k ≠ 0 := fun j k hj e h => by
              subst h
              have := (List.getElem?_inj (by omega) ndo).mp (okO.zero.trans e.symm)
              omega
            refine rest _ _ ⟨v11, _, rfl, s810.trans s11, hp11, t11, Nat.le_of_ble_eq_true rfl, Nat.le_of_ble_eq_true rfl, fun g hg => ?_⟩
            rcases List.mem_append.mp hg with h | h
            · exact bad10 g h
            · simp only [List.mem_cons, List.not_mem_nil, or_false] at h
              rcases h with rfl | rfl | rfl
              · rw [← List.map_reverse]
                have e : os.reverse[0]? = os[os.length - 1]? := by rw [List.getElem?_reverse (by omega)]; rfl
                have hl : os[os.length - 1]? = some os[os.length - 1] := List.getElem?_eq_getElem (by omega)
                exact badO_zero (e.trans hl) (far _ _ (by omega) hl)
              · have e : (os.map G.int).drop 1 ++ [.int 0] = (os.drop 1 ++ [0]).map G.int := by
                  rw [List.map_append, List.map_drop]
                  rfl
                rw [e]
                have hl : os[1]? = some os[1] := List.getElem?_eq_getElem h1
                refine badO_zero (k := os[1]) ?_ (far 1 _ (by omega) hl)
                rw [List.getElem?_append_left (by rw [List.length_drop]; omega), List.getElem?_drop]
                exact hl
              · have e : [G.int 0] ++ (os.map G.int).take ((os.map G.int).length - 1) = (0 :: os.take (os.length - 1)).map G.int := by
                  rw [List.length_map, List.map_cons, List.map_take]
                  rfl
                rw [e]
                refine badO_dup (fun nd => ?_)
                refine (List.nodup_cons.mp nd).1 (List.mem_of_getElem? (i := 0) ?_)
                rw [List.getElem?_take_of_lt (by omega)]
                exact okO.zero
        case hR =>
          clear e6 t9 v4 e7 t10 bad10 f8 a8 f9 a9
          rintro σ H12 ⟨v, gs, rfl, s12, hp12, t12, g1', g40', badO⟩
          obtain ⟨L2, vs2, rfl, eL2, hL2, tl2⟩ := lst_at t12
          have lvs2 := tl2.len
          refine ⟨_, rfl, _, rfl, _, rfl, _, rfl, L2, _, rfl, .inl (SqL.of hL2), p, _, rfl, hp12, by omega, by omega, fun r2 o2 r20 r21 po2 => ?_⟩
          have k13 : Kept p H12 (upd H12 p o2) := Kept.upd p H12 o2
          have hp13 : PoolAt (upd H12 p o2) p := ⟨o2, upd_same, po2⟩
          have hL13 := k13 _ _ hL2 eL2
          generalize upd H12 p o2 = H13 at k13 hp13 hL13 ⊢
          have hr2 : r2.toNat < gs.length := by omega
          have eg2 : gs[r2.toNat]? = some gs[r2.toNat] := List.getElem?_eq_getElem hr2
          generalize gs[r2.toNat] = g2 at eg2
          obtain ⟨x2, ex2, tx2⟩ := tl2.at eg2
          have tx13 := tx2.keep (Keeps.of k13 hp12)
          have k013 : Kept p H H13 := (k08.trans (Kept.same s12)).trans k13
          have bg2 := badO g2 (List.mem_of_getElem? eg2)
          refine ⟨L2, _, _, x2, rfl, rfl, SqL.of hL13, atI_int r20 ex2, ?_⟩
          refine ⟨1, .ref a, x2, rfl, .inr rfl, .inr ⟨a, rs, p, g2, rfl, ⟨wa, k013 _ _ hwa eap, hra.keep (K2.of k013 hp)⟩, okA, tx13, .inr ⟨rfl, bg2⟩, fun H14 s14 => ?_⟩⟩
          refine ⟨rfl, _, rfl, iteB (fun _ => ?_) (fun z => absurd z (by rw [decide_eq_true rfl]; exact Bool.noConfusion))⟩
          refine ⟨_, rfl, 1, .non, .ref c, rfl, .inr rfl, .inl ⟨p, .non, none, .non, rfl, fun H15 s15 => ?_⟩⟩
          refine ⟨rfl, ?_⟩
          rw [decide_eq_true rfl]
          exact q H15 ((k013.trans (Kept.same s14)).trans (Kept.same s15)) ((hp13.same s14).same s15)
end
end Su
/-! ### Q5: called back, ordered back -/
namespace Su
open PySem PySem.Spec PyProof.Rows L2
def bk (ps : List (Int × Int)) : List (Int × Int) := ps.map fun q => (q.2, q.1)
theorem bk_fst (ps : List (Int × Int)) : (bk ps).map (·.1) = ps.map (·.2) := by
  unfold bk
  rw [List.map_map]
  rfl
theorem bk_snd (ps : List (Int × Int)) : (bk ps).map (·.2) = ps.map (·.1) := by
  unfold bk
  rw [List.map_map]
  rfl
theorem mem_rooms {rs : List Rw} {k : Int} : k ∈ allRooms rs ↔ ∃ r ∈ rs, k ∈ r.1 := by
  unfold allRooms
  rw [List.mem_flatten]
  constructor
  · rintro ⟨l, hl, hk⟩
    obtain ⟨r, hr, rfl⟩ := List.mem_map.mp hl
    exact ⟨r, hr, hk⟩
  · rintro ⟨r, hr, hk⟩
    exact ⟨r.1, List.mem_map.mpr ⟨r, hr, rfl⟩, hk⟩
theorem roomsR_mem {rs : List Rw} {k : Int} : k ∈ roomsR rs ↔ k ∈ allRooms rs := (srt_perm _).mem_iff.trans (oneEach_mem k _)
theorem nodup_map_on {f : Int → Int} : ∀ {l : List Int}, (∀ a ∈ l, ∀ b ∈ l, f a = f b → a = b) → l.Nodup → (l.map f).Nodup
  | [], _, _ => List.nodup_nil
  | x :: l, h, nd => by
    rw [List.nodup_cons] at nd
    rw [List.map_cons, List.nodup_cons]
    refine ⟨fun hm => ?_, nodup_map_on (fun a ha b hb => h a (List.mem_cons_of_mem _ ha) b (List.mem_cons_of_mem _ hb)) nd.2⟩
    obtain ⟨y, hy, e⟩ := List.mem_map.mp hm
    have := h y (List.mem_cons_of_mem _ hy) x List.mem_cons_self e
    rw [this] at hy
    exact nd.1 hy
structure Back (ps : List (Int × Int)) (rs : List Rw) : Prop where
  ok : WebOk (rs.map (calR ps))
  nm : NamesOk (bk ps) (roomsR (rs.map (calR ps)))
  bk : (rs.map (calR ps)).map (calR (bk ps)) = rs
theorem called_back {ps : List (Int × Int)} {rs : List Rw} (okA : WebOk rs) (ok : NamesOk ps (roomsR rs)) : Back ps rs := by
  have nd1 : (ps.map (·.1)).Nodup := ok.all.nodup_iff.mpr (roomsR_nd rs)
  have nd2 := ok.nd
  have at1 : ∀ k ∈ allRooms rs, ∃ q ∈ ps, q.1 = k ∧ newAt ps k = q.2 := fun k hk => by
    obtain ⟨q, hq, e⟩ := List.mem_map.mp (ok.all.mem_iff.mpr (roomsR_mem.mpr hk))
    exact ⟨q, hq, e, by rw [← e]; exact newAt_of nd1 hq⟩
  have back : ∀ k ∈ allRooms rs, newAt (bk ps) (newAt ps k) = k := fun k hk => by
    obtain ⟨q, hq, e, e2⟩ := at1 k hk
    rw [e2]
    have := newAt_of (ps := bk ps) (q := (q.2, q.1)) (by rw [bk_fst]; exact nd2) (List.mem_map.mpr ⟨q, hq, rfl⟩)
    rw [← e]
    exact this
  have inj : ∀ a ∈ allRooms rs, ∀ b ∈ allRooms rs, newAt ps a = newAt ps b → a = b := fun a ha b hb e => by
    rw [← back a ha, ← back b hb, e]
  have inr : ∀ r ∈ rs, ∀ k ∈ r.1, k ∈ allRooms rs := fun r hr k hk => mem_rooms.mpr ⟨r, hr, hk⟩
  have memR : ∀ k, k ∈ allRooms (rs.map (calR ps)) ↔ ∃ j ∈ allRooms rs, newAt ps j = k := fun k => by
    rw [mem_rooms]
    constructor
    · rintro ⟨r', hr', hk⟩
      obtain ⟨r, hr, rfl⟩ := List.mem_map.mp hr'
      obtain ⟨j, hj, e⟩ := List.mem_map.mp ((srt_perm _).mem_iff.mp hk)
      exact ⟨j, inr r hr j hj, e⟩
    · rintro ⟨j, hj, e⟩
      obtain ⟨r, hr, hjr⟩ := mem_rooms.mp hj
      exact ⟨calR ps r, List.mem_map.mpr ⟨r, hr, rfl⟩, (srt_perm _).mem_iff.mpr (List.mem_map.mpr ⟨j, hjr, e⟩)⟩
  refine ⟨⟨?_, ?_, ?_, ?_⟩, ⟨?_, ?_, ?_⟩, ?_⟩
  · rw [List.length_map]
    exact okA.pos
  · rw [List.length_map]
    exact okA.few
  · intro r' hr'
    obtain ⟨r, hr, rfl⟩ := List.mem_map.mp hr'
    have rok := okA.row r hr
    have ndr : r.1.Nodup := rok.rooms.pw.imp fun h => Int.ne_of_lt h
    have ndm : (r.1.map (newAt ps)).Nodup := nodup_map_on (fun a ha b hb => inj a (inr r hr a ha) b (inr r hr b hb)) ndr
    have rng : ∀ k ∈ srt (r.1.map (newAt ps)), 0 ≤ k ∧ k ≤ 99 := fun k hk => by
      obtain ⟨j, hj, e⟩ := List.mem_map.mp ((srt_perm _).mem_iff.mp hk)
      obtain ⟨q, hq, _, e2⟩ := at1 j (inr r hr j hj)
      have := ok.rg q hq
      omega
    rw [List.length_map]
    exact ⟨⟨pw_lt (srt_le _) ((srt_perm _).nodup_iff.mpr ndm), fun k hk => (rng k hk).1, fun k hk => (rng k hk).2⟩, by show (srt (r.1.map (newAt ps))).length ≤ 6; rw [srt_len, List.length_map]; exact rok.few, rok.tos⟩
  · obtain ⟨S, hS, hin⟩ := okA.all
    refine ⟨S.map (newAt ps), by rw [List.length_map]; exact hS, fun k hk => ?_⟩
    obtain ⟨j, hj, e⟩ := (memR k).mp hk
    exact List.mem_map.mpr ⟨j, hin j hj, e⟩
  · intro q hq
    obtain ⟨q0, h0, rfl⟩ := List.mem_map.mp hq
    have := ok.rg q0 h0
    exact ⟨this.2, this.1⟩
  · rw [bk_fst]
    refine (List.perm_ext_iff_of_nodup nd2 (roomsR_nd _)).mpr fun k => ?_
    rw [roomsR_mem, memR]
    constructor
    · intro hk
      obtain ⟨q, hq, e⟩ := List.mem_map.mp hk
      exact ⟨q.1, roomsR_mem.mp (ok.all.mem_iff.mp (List.mem_map.mpr ⟨q, hq, rfl⟩)), (newAt_of nd1 hq).trans e⟩
    · rintro ⟨j, hj, e⟩
      obtain ⟨q, hq, _, e2⟩ := at1 j hj
      exact List.mem_map.mpr ⟨q, hq, by rw [← e, e2]⟩
  · rw [bk_snd]
    exact nd1
  · rw [List.map_map]
    refine (List.map_congr_left fun r hr => ?_).trans (List.map_id _)
    have rok := okA.row r hr
    show (srt ((srt (r.1.map (newAt ps))).map (newAt (Su.bk ps))), r.2) = r
    have e : r.1 = srt ((srt (r.1.map (newAt ps))).map (newAt (Su.bk ps))) := by
      refine srt_of ?_ (rok.rooms.pw.imp fun h => Int.le_of_lt h)
      refine List.Perm.trans ?_ ((srt_perm (r.1.map (newAt ps))).map (newAt (Su.bk ps))).symm
      rw [List.map_map]
      have : r.1.map (newAt (Su.bk ps) ∘ newAt ps) = r.1 := (List.map_congr_left fun k hk => back k (inr r hr k hk)).trans (List.map_id _)
      rw [this]
    rw [← e]
def bkO (n : Nat) (os : List Int) : List Int := (rgI n).map (placeAt os)
structure BackO (rs : List Rw) (os : List Int) : Prop where
  ok : WebOk (ordR rs os)
  len : (ordR rs os).length = rs.length
  od : OrdOk rs.length (bkO rs.length os)
  bk : ordR (ordR rs os) (bkO rs.length os) = rs
theorem ordered_back {rs : List Rw} {os : List Int} (okA : WebOk rs) (ok : OrdOk rs.length os) : BackO rs os := by
  have nd : os.Nodup := ok.all.nodup_iff.mpr (rgI_nd _)
  have los : os.length = rs.length := ok.all.length_eq.trans (rgI_len _)
  have at1 : ∀ k : Int, 0 ≤ k → k < rs.length → ∃ j : Nat, j < rs.length ∧ os[j]? = some k ∧ placeAt os k = j := fun k h0 h1 => by
    obtain ⟨j, hj, ej⟩ := List.mem_iff_getElem.mp (ok.all.mem_iff.mpr (rgI_mem.mpr ⟨h0, h1⟩))
    have e : os[j]? = some k := by rw [List.getElem?_eq_getElem hj, ej]
    exact ⟨j, by omega, e, placeAt_of nd e⟩
  have inj : ∀ a : Int, 0 ≤ a → a < rs.length → ∀ b : Int, 0 ≤ b → b < rs.length → placeAt os a = placeAt os b → a = b := fun a a0 a1 b b0 b1 e => by
    obtain ⟨i, _, e1, e2⟩ := at1 a a0 a1
    obtain ⟨j, _, e3, e4⟩ := at1 b b0 b1
    have : i = j := by omega
    subst this
    exact Option.some.inj (e1.symm.trans e3)
  have ndb : (bkO rs.length os).Nodup := nodup_map_on (fun a ha b hb => inj a (rgI_mem.mp ha).1 (rgI_mem.mp ha).2 b (rgI_mem.mp hb).1 (rgI_mem.mp hb).2) (rgI_nd _)
  have getb : ∀ j : Nat, j < rs.length → (bkO rs.length os)[j]? = some (placeAt os j) := fun j hj => by
    unfold bkO rgI
    rw [List.getElem?_map, List.getElem?_map, List.getElem?_range hj]
    rfl
  have lo : (ordR rs os).length = rs.length := by
    unfold ordR
    rw [List.length_map]
    exact los
  have rowOf : ∀ k : Int, 0 ≤ k → k < rs.length → ∃ r, rs[k.toNat]? = some r ∧ rowAt rs k = r := fun k h0 h1 => by
    have e : rs[k.toNat]? = some rs[k.toNat] := List.getElem?_eq_getElem (by omega)
    exact ⟨_, e, by unfold rowAt; rw [List.getD_eq_getElem?_getD, e]; rfl⟩
  have tosb : ∀ r ∈ rs, ∀ t ∈ r.2, 0 ≤ t ∧ t < rs.length := fun r hr t ht => by
    have z := (okA.row r hr).tos
    have := z.lo t ht
    have := z.hi t ht
    omega
  have rowok : ∀ r ∈ rs, RowOk rs.length (r.1, srt (r.2.map (placeAt os))) := fun r hr => by
    have rok := okA.row r hr
    have ndt : r.2.Nodup := rok.tos.pw.imp fun h => Int.ne_of_lt h
    have ndm : (r.2.map (placeAt os)).Nodup := nodup_map_on (fun a ha b hb => inj a (tosb r hr a ha).1 (tosb r hr a ha).2 b (tosb r hr b hb).1 (tosb r hr b hb).2) ndt
    have rng : ∀ k ∈ srt (r.2.map (placeAt os)), 0 ≤ k ∧ k ≤ (rs.length : Int) - 1 := fun k hk => by
      obtain ⟨j, hj, e⟩ := List.mem_map.mp ((srt_perm _).mem_iff.mp hk)
      obtain ⟨i, hi, _, e2⟩ := at1 j (tosb r hr j hj).1 (tosb r hr j hj).2
      omega
    exact ⟨rok.rooms, rok.few, pw_lt (srt_le _) ((srt_perm _).nodup_iff.mpr ndm), fun k hk => (rng k hk).1, fun k hk => (rng k hk).2⟩
  have inO : ∀ r' ∈ ordR rs os, ∃ r ∈ rs, r' = (r.1, srt (r.2.map (placeAt os))) := fun r' h => by
    obtain ⟨k, hk, rfl⟩ := List.mem_map.mp h
    have hk2 := rgI_mem.mp (ok.all.mem_iff.mp hk)
    obtain ⟨r, er, e⟩ := rowOf k hk2.1 hk2.2
    exact ⟨r, List.mem_of_getElem? er, by unfold ordRow; rw [e]⟩
  refine ⟨⟨by rw [lo]; exact okA.pos, by rw [lo]; exact okA.few, fun r' h => ?_, ?_⟩, lo, ⟨?_, ?_⟩, ?_⟩
  · obtain ⟨r, hr, rfl⟩ := inO r' h
    rw [lo]
    exact rowok r hr
  · obtain ⟨S, hS, hin⟩ := okA.all
    refine ⟨S, hS, fun k hk => ?_⟩
    obtain ⟨r', h, hkr⟩ := mem_rooms.mp hk
    obtain ⟨r, hr, rfl⟩ := inO r' h
    exact hin k (mem_rooms.mpr ⟨r, hr, hkr⟩)
  · refine (List.perm_ext_iff_of_nodup ndb (rgI_nd _)).mpr fun k => ?_
    constructor
    · intro hk
      obtain ⟨j, hj, e⟩ := List.mem_map.mp hk
      obtain ⟨i, hi, _, e2⟩ := at1 j (rgI_mem.mp hj).1 (rgI_mem.mp hj).2
      exact rgI_mem.mpr (by omega)
    · intro hk
      have h := rgI_mem.mp hk
      have e : os[k.toNat]? = some os[k.toNat] := List.getElem?_eq_getElem (by omega)
      exact List.mem_map.mpr ⟨_, ok.all.mem_iff.mp (List.mem_of_getElem? e), by rw [placeAt_of nd e]; omega⟩
  · rw [getb 0 (by have := okA.pos; omega)]
    have := placeAt_of nd ok.zero
    rw [show ((0 : Nat) : Int) = 0 from rfl, this]
    rfl
  · refine List.ext_getElem? fun j => ?_
    by_cases hj : j < rs.length
    · obtain ⟨r, er, e⟩ := rowOf (j : Int) (by omega) (by omega)
      rw [Int.toNat_natCast] at er
      obtain ⟨i, hi, ei, ep⟩ := at1 (j : Int) (by omega) (by omega)
      have e1 : (ordR (ordR rs os) (bkO rs.length os))[j]? = some (ordRow (ordR rs os) (bkO rs.length os) (placeAt os j)) := by
        unfold ordR
        rw [List.getElem?_map]
        show ((bkO rs.length os)[j]?).map _ = _
        rw [getb j hj]
        rfl
      have e2 : rowAt (ordR rs os) (placeAt os j) = (r.1, srt (r.2.map (placeAt os))) := by
        unfold rowAt
        rw [ep, Int.toNat_natCast, List.getD_eq_getElem?_getD]
        have : (ordR rs os)[i]? = some (ordRow rs os j) := by
          unfold ordR
          rw [List.getElem?_map, ei]
          rfl
        rw [this]
        show ordRow rs os j = _
        unfold ordRow
        rw [e]
      rw [e1, er]
      unfold ordRow
      rw [e2]
      have hr := List.mem_of_getElem? er
      have rok := okA.row r hr
      have e3 : r.2 = srt ((srt (r.2.map (placeAt os))).map (placeAt (bkO rs.length os))) := by
        refine srt_of ?_ (rok.tos.pw.imp fun h => Int.le_of_lt h)
        refine List.Perm.trans ?_ ((srt_perm (r.2.map (placeAt os))).map (placeAt (bkO rs.length os))).symm
        rw [List.map_map]
        have : r.2.map (placeAt (bkO rs.length os) ∘ placeAt os) = r.2 := (List.map_congr_left fun t ht => by
          have b := tosb r hr t ht
          show placeAt (bkO rs.length os) (placeAt os t) = t
          have g := getb t.toNat (by omega)
          rw [show ((t.toNat : Nat) : Int) = t by omega] at g
          rw [placeAt_of ndb g]
          omega).trans (List.map_id _)
        rw [this]
      show some (r.1, srt ((srt (r.2.map (placeAt os))).map (placeAt (bkO rs.length os)))) = some r
      rw [← e3]
    · rw [List.getElem?_eq_none (by unfold ordR; rw [List.length_map]; unfold bkO; rw [List.length_map, rgI_len]; omega), List.getElem?_eq_none (by omega)]
end Su
/-! ### Q6: the law -/
namespace Su
open PySem PySem.Spec PyProof.Rows L2
theorem WebAt.kept {p a : Addr} {H H' : Hp} {rs : List Rw} (h : WebAt H a rs) (k : Kept p H H') (hp : PoolAt H p) (n : a ≠ p) : WebAt H' a rs := by
  obtain ⟨ws, e, r⟩ := h
  exact ⟨ws, k _ _ e n, r.keep (K2.of k hp)⟩
theorem NamesAt.kept {p a : Addr} {H H' : Hp} {ps : List (Int × Int)} (h : NamesAt H a ps) (k : Kept p H H') (hp : PoolAt H p) (n : a ≠ p) : NamesAt H' a ps := by
  obtain ⟨ws, e, r⟩ := h
  exact ⟨ws, k _ _ e n, r.keep (K2.of k hp)⟩
theorem rgI_head {n : Nat} (h : 1 ≤ n) : (0 : Int) :: (rgI n).drop 1 = rgI n := by
  obtain ⟨k, rfl⟩ : ∃ k, n = k + 1 := ⟨n - 1, by omega⟩
  unfold rgI
  rw [List.range_succ_eq_map, List.map_cons]
  rfl
theorem rg_from1 {n : Nat} : rgV 1 (n : Int) = ((rgI n).drop 1).map V.int := by
  refine List.ext_getElem? fun j => ?_
  unfold rgV rgI
  rw [List.getElem?_map, List.getElem?_map, List.getElem?_drop, List.getElem?_map]
  by_cases h : 1 + j < n
  · rw [List.getElem?_range (by omega), List.getElem?_range h]
    show some (V.int (1 + (j : Int))) = some (V.int ((1 + j : Nat) : Int))
    rw [Int.natCast_add]
    rfl
  · rw [List.getElem?_eq_none (by rw [List.length_range]; omega), List.getElem?_eq_none (by rw [List.length_range]; omega)]
    rfl
theorem web_dp {K : PySem.W.Frag} {H : Hp} {a : Addr} {rs : List Rw} (h : WebAt H a rs) : Dp K H (.ref a) (webD rs) := by
  obtain ⟨ws, e, r⟩ := h
  exact .lst (SqL.of e) (rows_dp r)
theorem PsAt.snoc {H : Hp} {t : Addr} {q : Int × Int} (ht : T2 H t [.int q.1, .int q.2]) : ∀ {vs : List V} {ps : List (Int × Int)}, PsAt H vs ps → PsAt H (vs ++ [.ref t]) (ps ++ [q])
  | [], [], _ => ⟨⟨t, rfl, ht⟩, trivial⟩
  | _ :: _, _ :: _, ⟨h, r⟩ => ⟨h, PsAt.snoc ht r⟩
  | [], _ :: _, h => h.elim
  | _ :: _, [], h => h.elim
def spLaw (K : PySem.W.Frag) : Sp := fun vs H Q _ => ∃ (a : Addr) (ns : List Int), vs = [.ref a] ∧ SqL K H a (ns.map V.int) ∧ ns.length ≤ 63 ∧ ∀ H', Q (.bl true) H'
structure Calls (P : Program) (w : World) (K : PySem.W.Frag) (mg : Str → Option Value) (base : Heap) (C CN : Addr) : Prop where
  pool : Cal P w K mg base 1 "_law_pool" ["_law_script", "_law_k"] (spPool K)
  take : Cal P w K mg base 1 "_law_take" ["_law_pool_here", "_law_many"] spTake
  web : Cal P w K mg base 3 "_law_web" ["_law_pool_here", "_law_most_rows", "_law_most_rooms"] spLWeb
  rooms : Cal P w K mg base 1 "_law_web_rooms" ["_law_web_here"] spLRooms
  shuf : Cal P w K mg base 2 "_law_shuffled" ["_law_pool_here", "_law_some"] spShuf
  names : Cal P w K mg base 3 "_law_names" ["_law_pool_here", "_law_rooms"] spLNames
  called : CalX P w K mg base 6 "called" ["web", "names"] (spCalled C CN)
  ordered : CalX P w K mg base 6 "ordered" ["web", "order"] (spOrdered C CN)
  lcalled : Cal P w K mg base 1 "_law_called" ["_law_web_here", "_law_names_here"] spLCalled
  lordered : Cal P w K mg base 1 "_law_ordered" ["_law_web_here", "_law_order"] spLOrdered
  refused : Cal P w K mg base 8 "_law_refused" ["_law_pool_here", "_law_web_here", "_law_names_here", "_law_order"] spRefused
theorem sc_law : FnScope ["_law_script", "_law_k", "_law_pool_here", "_law_web_here", "_law_names_here", "_law_order", "_law_kept", "_law_found", "_law_other", "_law_turn", "_law_old", "_law_new", "_law_row"] ["_law_script"] (defScope s_law) := ⟨rfl, rfl, rfl, by decide +kernel, rfl, by decide +kernel, by decide +kernel⟩
section
variable {P : Program} {w : World} {K : PySem.W.Frag} {mg : Str → Option Value} {base : Heap}
theorem ok_law {C CN : Addr} {f : Addr} {fd : FuncData} (F : Fun K "law" "law" s_law f fd) (B : Bt mg) (CA : Calls P w K mg base C CN) : FnG P w K mg base CX0 9 f fd ["_law_script"] (spLaw K) := by
  obtain ⟨c_pool, c_take, c_web, c_web_rooms, c_shuffled, c_names, c_called, c_ordered, c_lcalled, c_lordered, c_refused⟩ := CA
  refine fnG_fun F sc_law (fun vs H Q E h => ?_) (fun cdv A outer s H vs Q E hg hr h => ?_)
  · obtain ⟨a, ns, rfl, _⟩ := h
    rfl
  · obtain ⟨a, ns, rfl, hS, hlen, q⟩ := h
    refine ⟨_, (pss_cons (ps_for PassesOwn.never rfl (pi_range1 (by rfl) B.range (pa_cons (pe_callB (call_max2 rfl) (by rfl) B.max (by decide +kernel) (pa_cons pe_int (pa_cons (pe_callB (call_min2 rfl) (by rfl) B.min (by decide +kernel) (pa_cons (pe_callB call_len_seq (by rfl) B.len PySem.boot_len (pa_cons (pv 0) pa_nil)) (pa_cons pe_int pa_nil))) pa_nil))) pa_nil)) (pg_name (i := 1) sc_law.nd rfl (Or.inl rfl)) (pss_cons (ps_set (i := 2) sc_law.nd rfl (Or.inl rfl) (pe_own c_pool hr (by decide) (by rfl) (pa_cons (pv 0) (pa_cons (pv 1) pa_nil))))
      (pss_cons (ps_set (i := 3) sc_law.nd rfl (Or.inl rfl) (pe_own c_web hr (by decide) (by rfl) (pa_cons (pv 2) (pa_cons (pe_ix ix_list (pe_lst (pa_cons pe_int (pa_cons pe_int pa_nil))) (pe_own c_take hr (by decide) (by rfl) (pa_cons (pv 2) (pa_cons pe_int pa_nil))) (fun _ _ => rfl)) (pa_cons pe_int pa_nil)))))
      (pss_cons (ps_set (i := 4) sc_law.nd rfl (Or.inl rfl) (pe_own c_names hr (by decide) (by rfl) (pa_cons (pv 2) (pa_cons (pe_own c_web_rooms hr (by decide) (by rfl) (pa_cons (pv 3) pa_nil)) pa_nil))))
      (pss_cons (ps_set (i := 5) sc_law.nd rfl (Or.inr rfl) (pe_op op_cat (pe_lst (pa_cons pe_int pa_nil)) (pe_own c_shuffled hr (by decide) (by rfl) (pa_cons (pv 2) (pa_cons (pe_listRg rfl (by rfl) B.list (prg_2 (by rfl) B.range pe_int (pe_callB call_len_seq (by rfl) B.len PySem.boot_len (pa_cons (pv 3) pa_nil)))) pa_nil)))))
      (pss_cons (ps_set (i := 6) sc_law.nd rfl (Or.inl rfl) (pe_callB (call_reprD hg hr.units) (by rfl) B.repr (by decide +kernel) (pa_cons (pe_lst (pa_cons (pv 3) (pa_cons (pv 4) (pa_cons (pv 5) pa_nil)))) pa_nil)))
      (pss_cons (ps_set (i := 7) sc_law.nd rfl (Or.inl rfl) (pe_ownX takes0 c_called hr (by decide) (by rfl) (pa_cons (pv 3) (pa_cons (pv 4) pa_nil))))
      (pss_cons (ps_set (i := 8) sc_law.nd rfl (Or.inl rfl) (pe_ownX takes0 c_ordered hr (by decide) (by rfl) (pa_cons (pv 3) (pa_cons (pv 5) pa_nil))))
      (pss_cons (ps_if (PW.pt (pw_or (pt_not (pt_val (pe_callB call_isi (by rfl) B.isinstance (by decide +kernel) (pa_cons (pv 7) (pa_cons (pe_bltn (v := .ty "list") (u := .type "list") (by rfl) B.list (by decide +kernel) rfl) pa_nil))))) (pw_or1 (pt_cmpR op_ne (pe_callB (call_reprD hg hr.units) (by rfl) B.repr (by decide +kernel) (pa_cons (pv 7) pa_nil)) (pe_callB (call_reprD hg hr.units) (by rfl) B.repr (by decide +kernel) (pa_cons (pe_own c_lcalled hr (by decide) (by rfl) (pa_cons (pv 3) (pa_cons (pv 4) pa_nil))) pa_nil)) (nomark _))))) (pss_one (ps_ret pe_bl)) pss_nil)
      (pss_cons (ps_if (PW.pt (pw_or (pt_not (pt_val (pe_callB call_isi (by rfl) B.isinstance (by decide +kernel) (pa_cons (pv 8) (pa_cons (pe_bltn (v := .ty "list") (u := .type "list") (by rfl) B.list (by decide +kernel) rfl) pa_nil))))) (pw_or1 (pt_cmpR op_ne (pe_callB (call_reprD hg hr.units) (by rfl) B.repr (by decide +kernel) (pa_cons (pv 8) pa_nil)) (pe_callB (call_reprD hg hr.units) (by rfl) B.repr (by decide +kernel) (pa_cons (pe_own c_lordered hr (by decide) (by rfl) (pa_cons (pv 3) (pa_cons (pv 5) pa_nil))) pa_nil)) (nomark _))))) (pss_one (ps_ret pe_bl)) pss_nil)
      (pss_cons (ps_if (pt_cmpR (op_neD hr.units) (pe_ownX takes0 c_called hr (by decide) (by rfl) (pa_cons (pv 7) (pa_cons (pe_lc (own := [("_law_old", 10), ("_law_new", 11)]) (g := (gTup K 2 (gCons (gName 10) (gCons (gName 11) gNil)))) (tt := tYes) (te := (tTupF (tCons (tVar 11) (tCons (tVar 10) tNil)))) (by rfl) sc_law.nd (pi_list (pv 4)) (blkOk_by (own := [("_law_old", 10), ("_law_new", 11)]) (N := ["_law_script", "_law_k", "_law_pool_here", "_law_web_here", "_law_names_here", "_law_order", "_law_kept", "_law_found", "_law_other", "_law_turn", "_law_old", "_law_new", "_law_row"]) (sc := defScope s_law) (by decide +kernel)) (fun _ _ _ _ _ => (pg_tup (by rfl) (pgs_cons (pg_name (i := 10) sc_law.nd rfl (Or.inl rfl)) (pgs_cons (pg_name (i := 11) sc_law.nd rfl (Or.inl rfl)) pgs_nil)))) (fun _ _ _ _ _ => pts_nil) (fun _ _ _ _ _ => (pe_tupF (pa_cons (pv 11) (pa_cons (pv 10) pa_nil))))) pa_nil))) (pv 3) (nomark _)) (pss_one (ps_ret pe_bl)) pss_nil)
      (pss_cons (ps_if (pt_cmpR (op_neD hr.units) (pe_ownX takes0 c_ordered hr (by decide) (by rfl) (pa_cons (pv 8) (pa_cons (pe_lc (own := [("_law_row", 12)]) (g := (gName 12)) (tt := tYes) (te := (tBM K "list" (rIndex K) (tVar 5) (tCons (tVar 12) tNil))) (by rfl) sc_law.nd (pi_range1 (by rfl) B.range (pa_cons (pe_callB call_len_seq (by rfl) B.len PySem.boot_len (pa_cons (pv 3) pa_nil)) pa_nil)) (blkOk_by (own := [("_law_row", 12)]) (N := ["_law_script", "_law_k", "_law_pool_here", "_law_web_here", "_law_names_here", "_law_order", "_law_kept", "_law_found", "_law_other", "_law_turn", "_law_old", "_law_new", "_law_row"]) (sc := defScope s_law) (by decide +kernel)) (fun _ _ _ _ _ => (pg_name (i := 12) sc_law.nd rfl (Or.inl rfl))) (fun _ _ _ _ _ => pts_nil) (fun _ _ _ _ _ => (pe_bm PySem.F.plainAttrs_list PySem.F.slot_list_index PySem.F.type_list_index mt_index (pv 5) (pa_cons (pv 12) pa_nil)))) pa_nil))) (pv 3) (nomark _)) (pss_one (ps_ret pe_bl)) pss_nil)
      (pss_cons (ps_expr (pe_bm PySem.F.plainAttrs_list PySem.F.slot_list_append PySem.F.type_list_append mt_append (pv 7) (pa_cons pe_non pa_nil)))
      (pss_cons (ps_expr (pe_bm0 PySem.F.plainAttrs_list PySem.F.slot_list_clear PySem.F.type_list_clear mt_clear (pv 8)))
      (pss_cons (ps_if (PW.pt (pw_or (pt_cmpR (op_neD hr.units) (pe_ownX takes0 c_called hr (by decide) (by rfl) (pa_cons (pv 3) (pa_cons (pv 4) pa_nil))) (pe_own c_lcalled hr (by decide) (by rfl) (pa_cons (pv 3) (pa_cons (pv 4) pa_nil))) (nomark _)) (pw_or1 (pt_cmpR op_ne (pe_callB (call_reprD hg hr.units) (by rfl) B.repr (by decide +kernel) (pa_cons (pe_lst (pa_cons (pv 3) (pa_cons (pv 4) (pa_cons (pv 5) pa_nil)))) pa_nil)) (pv 6) (nomark _))))) (pss_one (ps_ret pe_bl)) pss_nil)
      (pss_one (ps_for PassesOwn.never rfl (pi_range1 (by rfl) B.range (pa_cons pe_int pa_nil)) (pg_name (i := 9) sc_law.nd rfl (Or.inl rfl)) (pss_one (ps_if (pt_not (pt_val (pe_own c_refused hr (by decide) (by rfl) (pa_cons (pv 2) (pa_cons (pv 3) (pa_cons (pv 4) (pa_cons (pv 5) pa_nil))))))) (pss_one (ps_ret pe_bl)) pss_nil)))))))))))))))))))
      (pss_one (ps_ret pe_bl))), ?_⟩
    obtain ⟨m, hm, hm2⟩ : ∃ m : Nat, (if (if (6 : Int) < ((ns.map V.int).length : Int) then 6 else ((ns.map V.int).length : Int)) > 1 then (if (6 : Int) < ((ns.map V.int).length : Int) then 6 else ((ns.map V.int).length : Int)) else 1) = (m : Int) ∧ m ≤ 6 := by
      rw [List.length_map]
      refine ⟨(if (if (6 : Int) < (ns.length : Int) then 6 else (ns.length : Int)) > 1 then (if (6 : Int) < (ns.length : Int) then 6 else (ns.length : Int)) else 1).toNat, ?_, ?_⟩
      all_goals
        by_cases e1 : (6 : Int) < (ns.length : Int)
        · simp only [e1, if_true]
          decide
        · simp only [e1, if_false]
          split <;> omega
    refine ⟨_, rfl, a, _, rfl, .inl hS, _, _, rfl, _, _, rfl, ?_⟩
    refine ⟨(m : Int), congrArg (fun z => [V.int z]) hm, by omega, by omega, ?_⟩
    rw [show ((m : Int)).toNat = m by omega]
    refine for_range (lo := 0) (n := m) (fun i σ H2 => ∃ y1 y2 y3 y4 y5 y6 y7 y8 y9 y10 y11 y12 : Option V, σ = [some (.ref a), y1, y2, y3, y4, y5, y6, y7, y8, y9, y10, y11, y12] ∧ SqL K H2 a (ns.map V.int)) ?_ ?_ ?_
    · exact ⟨none, none, none, none, none, none, none, none, none, none, none, none, rfl, hS⟩
    · rintro i σ Hs hi ⟨y1, y2, y3, y4, y5, y6, y7, y8, y9, y10, y11, y12, rfl, hSs⟩
      refine ⟨_, rfl, _, rfl, a, ns, _, rfl, hSs, by omega, by omega, fun p H1 s1 np hp1 => ?_⟩
      have back : ∀ {Hn : Hp}, Kept p H1 Hn → SqL K Hn a (ns.map V.int) := fun {Hn} k => Same.seq (fun b o e => k b o (s1 b o e) (ne_of_none e np)) hSs
      refine ⟨_, rfl, (by show 2 ≤ sizeLine; decide), fun L nL => ?_⟩
      have eLp : L ≠ p := pool_ne hp1 nL
      have sL := same_upd (o := .lst [V.int 8, V.int 14]) nL
      refine ⟨_, rfl, p, 2, rfl, hp1.same sL, by decide, by decide, fun r o r0 r1 po => ?_⟩
      have hp2 : PoolAt (upd (upd H1 L (.lst [V.int 8, V.int 14])) p o) p := ⟨o, upd_same, po⟩
      have k2 : Kept p H1 (upd (upd H1 L (.lst [V.int 8, V.int 14])) p o) := (Kept.same sL).trans (Kept.upd p _ o)
      have hL2 : (upd (upd H1 L (.lst [V.int 8, V.int 14])) p o) L = some (.lst [V.int 8, V.int 14]) := by
        rw [upd_ne eLp, upd_same]
      generalize upd (upd H1 L (.lst [V.int 8, V.int 14])) p o = H2 at hp2 k2 hL2 ⊢
      obtain ⟨v, hv, ev⟩ := cons_nil_fin (xs := [V.int 8, V.int 14]) 2 rfl r0 r1
      obtain ⟨mr, em, m1, m80⟩ : ∃ mr : Int, v = .int mr ∧ 1 ≤ mr ∧ mr ≤ 80 := by
        simp only [List.mem_cons, List.not_mem_nil, or_false] at hv
        rcases hv with e | e
        · exact ⟨8, e, by decide, by decide⟩
        · exact ⟨14, e, by decide, by decide⟩
      subst em
      refine ⟨L, _, _, _, rfl, rfl, SqL.of hL2, ev, ?_⟩
      refine ⟨p, mr, 5, rfl, hp2, m1, m80, by decide, by decide, fun W H3 rs nW k3 hp3 hW okA hmr hSA => ?_⟩
      have eWp : W ≠ p := pool_ne hp2 nW
      have k13 := k2.trans k3
      have h80 := okA.few
      have hpos := okA.pos
      refine ⟨_, rfl, _, rfl, W, rs, rfl, hW, okA, fun ms u H4 pw mem s4 nu hu => ?_⟩
      obtain rfl := rooms_is pw mem
      have hp4 := hp3.same s4
      have eup : u ≠ p := pool_ne hp3 nu
      have l12 : (roomsR rs).length ≤ 12 := by
        obtain ⟨S, hS, hin⟩ := okA.all
        have := nodup_few (S := S) (pw.imp fun h => Int.ne_of_lt h) fun k hk => hin k ((mem k).mp hk)
        omega
      refine ⟨p, u, _, rfl, hp4, hu, eup, pw, fun k hk => ?_, by omega, fun N H5 ps nN k5 hp5 hN okN => ?_⟩
      · obtain ⟨r, hr, hk⟩ := mem_rooms.mp ((mem k).mp hk)
        have z := (okA.row r hr).rooms
        have := z.lo k hk
        have := z.hi k hk
        omega
      have eNp : N ≠ p := pool_ne hp4 nN
      have k35 : Kept p H3 H5 := (Kept.same s4).trans k5
      have hW5 := hW.kept k35 hp3 eWp
      refine ⟨(by show 1 ≤ sizeLine; decide), fun L0 nL0 => ?_⟩
      have eL0p : L0 ≠ p := pool_ne hp5 nL0
      have s0 := same_upd (o := .lst [V.int 0]) nL0
      have hL0 := upd_same (H := H5) (a := L0) (o := .lst [V.int 0])
      have hp5' := hp5.same s0
      have hW5' := hW5.same s0
      generalize upd H5 L0 (.lst [V.int 0]) = H6 at s0 hL0 hp5' hW5' ⊢
      obtain ⟨wa, hwa, hra⟩ := id hW5'
      have hal := hra.len
      refine ⟨_, rfl, _, rfl, W, wa, rfl, .inl (SqL.of hwa), 1, _, rfl, rfl, RgOk.of_le (by omega) (by omega) (by omega) (by omega), fun b nb => ?_⟩
      rw [hal]
      have ebp : b ≠ p := pool_ne hp5' nb
      have sb := same_upd (o := .lst (rgV 1 (rs.length : Int))) nb
      refine ⟨p, b, _, rfl, hp5'.same sb, upd_same, ebp, by rw [rgV_length]; omega, fun O1 H7 us nO1 k7 hp7 hO1 pm => ?_⟩
      have k67 : Kept p H6 H7 := (Kept.same sb).trans k7
      have pm' : us.Perm (((rgI rs.length).drop 1).map V.int) := by
        rw [← rg_from1]
        exact pm
      obtain ⟨os', rfl, pos'⟩ := perm_ints pm'
      refine ⟨L0, O1, _, _, rfl, rfl, k67 _ _ hL0 eL0p, hO1, (by show [V.int 0].length + (os'.map V.int).length ≤ sizeLine; have := pos'.length_eq; rw [List.length_drop, rgI_len] at this; rw [List.length_map]; exact Nat.le_of_lt (small1000 (by show 1 + os'.length ≤ 1000; omega))), fun O nO => ?_⟩
      have okO : OrdOk rs.length (0 :: os') := ⟨by
        have := pos'.cons (0 : Int)
        rw [rgI_head hpos] at this
        exact this, rfl⟩
      have eOp : O ≠ p := pool_ne hp7 nO
      have sO := same_upd (o := .lst ([V.int 0] ++ os'.map V.int)) nO
      have hO8 : (upd H7 O (.lst ([V.int 0] ++ os'.map V.int))) O = some (.lst ((0 :: os').map V.int)) := upd_same
      have k58 : Kept p H5 (upd H7 O (.lst ([V.int 0] ++ os'.map V.int))) := ((Kept.same s0).trans k67).trans (Kept.same sO)
      have hp8 := hp7.same sO
      have hW8 := hW5.kept k58 hp5 eWp
      have hN8 := hN.kept k58 hp5 eNp
      have k18 : Kept p H1 (upd H7 O (.lst ([V.int 0] ++ os'.map V.int))) := (k13.trans k35).trans k58
      generalize upd H7 O (.lst ([V.int 0] ++ os'.map V.int)) = H8 at hO8 hp8 hW8 hN8 k18 ⊢
      generalize eos : (0 : Int) :: os' = os at okO hO8
      clear hO1 pm pm' pos' k67 hp7 nO sO k58 k7 nO1 sb ebp nb hwa hra hal hW5' hp5' hL0 s0 eL0p nL0 hW5 k35 hN hp5 k5 nN hu nu s4 hp4 eup
      have lps : ps.length ≤ 12 := by
        have := okN.all.length_eq
        rw [List.length_map] at this
        omega
      have los : os.length = rs.length := okO.all.length_eq.trans (rgI_len _)
      have fO : Fine (.list (os.map PyData.int)) 3 3280 := (Fine.list (FineL.ints os fun k hk => by
        have := rgI_mem.mp (okO.all.mem_iff.mp hk)
        omega)).up (by decide) (by omega)
      have fN : Fine (.list (ps.map pairD)) 3 8300 := (names_fine okN (by omega)).up (by decide) (Nat.le_refl _)
      have fK : Fine (.list [webD rs, .list (ps.map pairD), .list (os.map PyData.int)]) 4 400000 := (Fine.list (FineL.cons okA.fine (FineL.cons fN (FineL.cons fO FineL.nil)))).up (Nat.le_refl _) (by decide)
      have keptAt : ∀ {Hn : Hp} {R : Addr}, WebAt Hn W rs → NamesAt Hn N ps → Hn O = some (.lst (os.map V.int)) → Hn R = some (.lst [.ref W, .ref N, .ref O]) → Dp K Hn (.ref R) (.list [webD rs, .list (ps.map pairD), .list (os.map PyData.int)]) := fun hW hN hO hR => by
        obtain ⟨wa, hwa, hra⟩ := hW
        obtain ⟨na, hna, hpa⟩ := hN
        exact .lst (SqL.of hR) (.cons (.lst (SqL.of hwa) (rows_dp hra)) (.cons (.lst (SqL.of hna) hpa.dp) (.cons (.lst (SqL.of hO) (dp_intsS os)) .nil)))
      refine ⟨_, rfl, _, rfl, _, rfl, (by show 3 ≤ sizeLine; decide), fun R nR => ?_⟩
      have sR := same_upd (o := .lst [V.ref W, V.ref N, V.ref O]) nR
      have hW9 := hW8.same sR
      have hN9 : NamesAt (upd H8 R (.lst [V.ref W, V.ref N, V.ref O])) N ps := by
        obtain ⟨na, hna, hpa⟩ := hN8
        exact ⟨na, sR _ _ hna, hpa.keep (K2.same sR)⟩
      have hO9 := sR _ _ hO8
      have hp9 := hp8.same sR
      refine ⟨R, _, _, _, rfl, keptAt hW9 hN9 hO9 upd_same, fK, by decide, by decide, ?_⟩
      have k19 : Kept p H1 (upd H8 R (.lst [V.ref W, V.ref N, V.ref O])) := k18.trans (Kept.same sR)
      generalize upd H8 R (.lst [V.ref W, V.ref N, V.ref O]) = H9 at hW9 hN9 hO9 hp9 k19 ⊢
      have tN : ∀ {Hn : Hp}, NamesAt Hn N ps → Tg p Hn (.ref N) (.lst (ps.map pairT)) := fun h => by
        obtain ⟨na, hna, hpa⟩ := h
        exact .lst eNp hna hpa.tg
      have fewN : fewG (.lst (ps.map pairT)) := by show (ps.map pairT).length ≤ 900; rw [List.length_map]; omega
      refine ⟨_, rfl, _, rfl, .ref W, .ref N, rfl, .inl ⟨W, rs, p, _, rfl, hW9, okA, tN hN9, fewN, fun ps2 e2 _ F1 H10 nF1 s10 hF1 => ?_, fun nn => absurd ⟨ps, rfl, okN⟩ nn⟩⟩
      obtain rfl := pairs_inj e2
      have hW10 := hW9.same s10
      have hO10 := s10 _ _ hO9
      have hN10 := hN9.kept (Kept.same (p := p) s10) hp9 eNp
      have hp10 := hp9.same s10
      have eF1p : F1 ≠ p := pool_ne hp9 nF1
      refine ⟨_, rfl, _, rfl, .ref W, .ref O, rfl, .inl ⟨W, rs, p, .lst (os.map G.int), rfl, hW10, okA, .lst (fun e => eOp e) hO10 (TgL.ints os), fun os2 e2 _ F2 H11 nF2 s11 hF2 => ?_, fun nn => absurd ⟨os, rfl, okO⟩ nn⟩⟩
      injection e2 with e2
      obtain rfl := int_inj e2
      have BC := called_back okA okN
      have BO := ordered_back okA okO
      have eF2p : F2 ≠ p := pool_ne hp10 nF2
      have hF11 := hF1.same s11
      have hW11 := hW10.same s11
      have hN11 := hN10.kept (Kept.same (p := p) s11) hp10 eNp
      have hO11 := s11 _ _ hO10
      have hp11 := hp10.same s11
      refine ⟨_, rfl, .ref F1, .ty "list", _, _, _, rfl, .ty "list", (tg_web (p := p) hF11 eF1p).ty, kit_list _, _, rfl, iteF ?_⟩
      refine ⟨_, rfl, F1, _, _, _, rfl, web_dp hF11, BC.ok.fine, by decide, by decide, ?_⟩
      refine ⟨_, rfl, _, rfl, W, N, rs, ps, rfl, hW11, okA, hN11, okN, by omega, fun U H12 nU s12 hU => ?_⟩
      refine ⟨U, _, _, _, rfl, web_dp hU, BC.ok.fine, by decide, by decide, rfl, _, rfl, iteB (fun z => absurd z (by rw [decide_eq_true rfl]; exact Bool.false_ne_true)) (fun _ => ?_)⟩
      have hF2' := hF2.same s12
      have hW12 := hW11.same s12
      have hO12 := s12 _ _ hO11
      have hF12 := hF11.same s12
      have hN12 := hN11.kept (Kept.same (p := p) s12) hp11 eNp
      have hp12 := hp11.same s12
      refine ⟨_, rfl, .ref F2, .ty "list", _, _, _, rfl, .ty "list", (tg_web (p := p) hF2' eF2p).ty, kit_list _, _, rfl, iteF ?_⟩
      refine ⟨_, rfl, F2, _, _, _, rfl, web_dp hF2', BO.ok.fine, by decide, by decide, ?_⟩
      refine ⟨_, rfl, _, rfl, W, O, rs, os, rfl, hW12, okA, hO12, okO, fun U2 H13 nU2 s13 hU2 => ?_⟩
      refine ⟨U2, _, _, _, rfl, web_dp hU2, BO.ok.fine, by decide, by decide, rfl, _, rfl, iteB (fun z => absurd z (by rw [decide_eq_true rfl]; exact Bool.false_ne_true)) (fun _ => ?_)⟩
      have hF23 := hF2'.same s13
      have hW13 := hW12.same s13
      have hO13 := s13 _ _ hO12
      have hF13 := hF12.same s13
      have hN13 := hN12.kept (Kept.same (p := p) s13) hp12 eNp
      have hp13 := hp12.same s13
      have s913 : Same H9 H13 := ((s10.trans s11).trans s12).trans s13
      clear hU2 nU2 hU nU hF2' hW12 hO12 hF12 hN12 hp12 hW11 hN11 hO11 hp11 hF11 hW10 hO10 hN10 hp10
      obtain ⟨na, hna, hpa⟩ := id hN13
      have hnl := hpa.len
      refine ⟨_, rfl, _, rfl, N, rfl, ⟨_, SqL.of hna⟩, fun D nD => ?_⟩
      refine lc_list (K := K) (a := N) (xs := na) (fun j H4 => Same H13 H4 ∧ ∃ vs, H4 D = some (.lst vs) ∧ PsAt H4 vs (bk (ps.take j))) ?_ ?_ ?_ ?_
      · exact ⟨same_upd nD, [], upd_same, trivial⟩
      · rintro j H4 _ ⟨s4, _⟩
        exact SqL.of (s4 _ _ hna)
      · rintro j x H4 hx ⟨s4, vs, hD4, hvs⟩
        obtain ⟨q1, T1, eq1, rfl, eb⟩ := hpa.get hx
        have hj : j < ps.length := (List.getElem?_eq_some_iff.mp eq1).1
        have hvl := hvs.len
        unfold bk at hvl
        rw [List.length_map, List.length_take] at hvl
        refine ⟨T1, _, rfl, (eb.same s4).sq, rfl, _, _, rfl, _, _, rfl, rfl, rfl, tyes ?_⟩
        refine ⟨_, rfl, _, rfl, (by show 2 ≤ sizeLine; decide), fun t5 H5 s5 nt5 pt5 => ?_⟩
        have hD5 := s5 _ _ hD4
        refine ⟨vs, hD5, small1000 (by omega), fun c o ec => ?_, vs ++ [.ref t5], upd_same, ?_⟩
        · rw [upd_ne (ne_of_none ec nD)]
          exact s5 _ _ (s4 _ _ ec)
        · have kz : K2 H5 (upd H5 D (.lst (vs ++ [.ref t5]))) := K2.lst hD5
          unfold bk
          rw [take_one eq1, List.map_append]
          exact PsAt.snoc (q := (q1.2, q1.1)) (kz _ _ (.inl pt5)) (hvs.keep ((K2.same s5).trans kz))
      · rintro H14 ⟨s14, vs, hD, hvs⟩
        rw [hnl, List.take_length] at hvs
        have hF14 := hF13.same s14
        have eDp : D ≠ p := pool_ne hp13 nD
        have fewD : fewG (.lst ((bk ps).map pairT)) := by show ((bk ps).map pairT).length ≤ 900; unfold bk; rw [List.length_map, List.length_map]; omega
        refine ⟨.ref F1, .ref D, rfl, .inl ⟨F1, _, p, _, rfl, hF14, BC.ok, .lst eDp hD hvs.tg, fewD, fun ps3 e3 _ U3 H15 nU3 s15 hU3 => ?_, fun nn => absurd ⟨_, rfl, BC.nm⟩ nn⟩⟩
        obtain rfl := pairs_inj e3
        rw [BC.bk] at hU3
        have s1315 := s14.trans s15
        have hW15 := hW13.same s1315
        refine ⟨_, rfl, _, _, web_dp hU3, web_dp hW15, okA.fine.shaped (by decide), okA.fine.shaped (by decide), _, rfl, ?_⟩
        rw [okA.fine.eqv]
        refine iteF ?_
        have hO15 := s1315 _ _ hO13
        have hF25 := hF23.same s1315
        have hp15 := hp13.same s1315
        obtain ⟨wa, hwa, hra⟩ := id hW15
        have hal := hra.len
        have ndo : os.Nodup := okO.all.nodup_iff.mpr (rgI_nd _)
        refine ⟨_, rfl, _, rfl, W, wa, rfl, .inl (SqL.of hwa), _, rfl, (by omega), (by omega), fun D2 nD2 => ?_⟩
        rw [show ((wa.length : Int)).toNat = rs.length by omega]
        refine lc_range (lo := 0) (n := rs.length) (fun j H4 => Same H15 H4 ∧ H4 D2 = some (.lst (((bkO rs.length os).take j).map V.int))) ?_ ?_ ?_
        · exact ⟨same_upd nD2, upd_same⟩
        · rintro j H4 hj ⟨s4, hD4⟩
          have hO4 := s4 _ _ hO15
          obtain ⟨j', hj', ej⟩ := List.mem_iff_getElem.mp (okO.all.mem_iff.mpr (rgI_mem.mpr ⟨(by omega : (0 : Int) ≤ 0 + (j : Int)), by omega⟩))
          have e2 : os[j']? = some (0 + (j : Int)) := by rw [List.getElem?_eq_getElem hj', ej]
          have eb : (bkO rs.length os)[j]? = some ((j' : Nat) : Int) := by
            unfold bkO rgI
            rw [List.getElem?_map, List.getElem?_map, List.getElem?_range hj]
            show some (placeAt os (j : Int)) = _
            rw [show (j : Int) = 0 + (j : Int) by omega, placeAt_of ndo e2]
          refine ⟨rfl, tyes ?_⟩
          refine ⟨_, rfl, .inl ⟨rfl, _, SqL.of hO4⟩, _, rfl, O, _, V.int (0 + (j : Int)), j', V.int (0 + (j : Int)), rfl, rfl, SqL.of hO4, rfl, flat_ints os, by rw [List.getElem?_map, e2]; rfl, by simp [eqV], fun m z' hm ez => ?_, ?_⟩
          · rw [List.getElem?_map] at ez
            obtain ⟨k', ek', rfl⟩ := Option.map_eq_some_iff.mp ez
            have ne : k' ≠ 0 + (j : Int) := by
              rintro rfl
              have := (List.getElem?_inj hj' ndo).mp (e2.trans ek'.symm)
              omega
            show (k' == 0 + (j : Int)) = false
            exact beq_eq_false_iff_ne.mpr ne
          · refine ⟨_, hD4, ?_, fun c o ec => ?_, ?_⟩
            · rw [List.length_map, List.length_take]
              exact small1000 (by omega)
            · rw [upd_ne (ne_of_none ec nD2)]
              exact s4 _ _ ec
            · rw [upd_same, take_one eb, List.map_append]
              rfl
        · rintro H16 ⟨s16, hD2⟩
          have lb : (bkO rs.length os).length = rs.length := by unfold bkO; rw [List.length_map, rgI_len]
          rw [List.take_of_length_le (by omega)] at hD2
          have eD2p : D2 ≠ p := pool_ne hp15 nD2
          refine ⟨.ref F2, .ref D2, rfl, .inl ⟨F2, _, p, .lst ((bkO rs.length os).map G.int), rfl, hF25.same s16, BO.ok, .lst eD2p hD2 (TgL.ints _), fun os3 e3 _ U4 H17 nU4 s17 hU4 => ?_, fun nn => absurd ⟨_, rfl, BO.len.symm ▸ BO.od⟩ nn⟩⟩
          injection e3 with e3
          obtain rfl := int_inj e3
          rw [BO.bk] at hU4
          have hW17 := hW15.same (s16.trans s17)
          refine ⟨_, rfl, _, _, web_dp hU4, web_dp hW17, okA.fine.shaped (by decide), okA.fine.shaped (by decide), _, rfl, ?_⟩
          rw [okA.fine.eqv]
          refine iteF ?_
          have s917 : Same H9 H17 := (s913.trans s1315).trans (s16.trans s17)
          have s1017 : Same H10 H17 := (s11.trans s12).trans ((s13.trans s1315).trans (s16.trans s17))
          have s1117 : Same H11 H17 := s12.trans ((s13.trans s1315).trans (s16.trans s17))
          obtain ⟨w1, hw1, hr1⟩ := hF1.same s1017
          obtain ⟨w2, hw2, hr2⟩ := hF2.same s1117
          have e12 : F1 ≠ F2 := by
            obtain ⟨w0, hw0, _⟩ := id hF1
            exact ne_of_none hw0 nF2
          have lw1 : w1.length ≤ 80 := by
            rw [hr1.len, List.length_map]
            exact h80
          dsimp only [tNext]
          refine ⟨_, rfl, .inl ⟨rfl, _, SqL.of hw1⟩, F1, w1, .non, rfl, rfl, hw1, small1000 (by omega), ?_⟩
          have hw2' : (upd H17 F1 (.lst (w1 ++ [V.non]))) F2 = some (.lst w2) := by
            rw [upd_ne e12.symm]
            exact hw2
          refine ⟨_, rfl, .inl ⟨rfl, _, SqL.of hw2'⟩, F2, w2, rfl, rfl, hw2', ?_⟩
          have k919 : Kept p H9 (upd (upd H17 F1 (.lst (w1 ++ [V.non]))) F2 (.lst [])) := ((Kept.same s917).set nF1).set (s10.free nF2)
          have hp19 : PoolAt (upd (upd H17 F1 (.lst (w1 ++ [V.non]))) F2 (.lst [])) p := ((hp9.same s917).upd eF1p.symm).upd eF2p.symm
          generalize upd (upd H17 F1 (.lst (w1 ++ [V.non]))) F2 (.lst []) = H19 at k919 hp19 ⊢
          have hW19 := hW9.kept k919 hp9 eWp
          have hN19 := hN9.kept k919 hp9 eNp
          have hO19 := k919 _ _ hO9 eOp
          refine ⟨_, rfl, _, rfl, .ref W, .ref N, rfl, .inl ⟨W, rs, p, _, rfl, hW19, okA, tN hN19, fewN, fun ps4 e4 _ F3 H20 nF3 s20 hF3 => ?_, fun nn => absurd ⟨ps, rfl, okN⟩ nn⟩⟩
          obtain rfl := pairs_inj e4
          have hW20 := hW19.same s20
          have hN20 := hN19.kept (Kept.same (p := p) s20) hp19 eNp
          refine ⟨_, rfl, _, rfl, W, N, rs, ps, rfl, hW20, okA, hN20, okN, by omega, fun U5 H21 nU5 s21 hU5 => ?_⟩
          refine ⟨_, _, web_dp (hF3.same s21), web_dp hU5, BC.ok.fine.shaped (by decide), BC.ok.fine.shaped (by decide), _, rfl, ?_⟩
          rw [BC.ok.fine.eqv]
          refine iteF ?_
          have s1921 := s20.trans s21
          have hp21 := hp19.same s1921
          have hW21 := hW19.same s1921
          have hN21 := hN19.kept (Kept.same (p := p) s1921) hp19 eNp
          have hO21 := s1921 _ _ hO19
          refine ⟨_, rfl, _, rfl, _, rfl, (by show 3 ≤ sizeLine; decide), fun R2 nR2 => ?_⟩
          have sR2 := same_upd (o := .lst [V.ref W, V.ref N, V.ref O]) nR2
          have hR2 := upd_same (H := H21) (a := R2) (o := .lst [V.ref W, V.ref N, V.ref O])
          have hp22 := hp21.same sR2
          have hW22 := hW21.same sR2
          have hN22 := hN21.kept (Kept.same (p := p) sR2) hp21 eNp
          have hO22 := sR2 _ _ hO21
          have k122 : Kept p H1 (upd H21 R2 (.lst [V.ref W, V.ref N, V.ref O])) := (k19.trans k919).trans (Kept.same (s1921.trans sR2))
          generalize upd H21 R2 (.lst [V.ref W, V.ref N, V.ref O]) = H22 at hR2 hp22 hW22 hN22 hO22 k122 ⊢
          refine ⟨R2, _, _, _, rfl, keptAt hW22 hN22 hO22 hR2, fK, by decide, by decide, ?_⟩
          refine ⟨_, rfl, rfl, _, rfl, iteB (fun z => absurd z (by rw [decide_eq_true rfl]; exact Bool.false_ne_true)) (fun _ => ?_)⟩
          refine ⟨3, rfl, by decide, by decide, ?_⟩
          refine for_range (lo := 0) (n := 3) (fun i2 σ H2 => ∃ y1 y6 y7 y8 y9 y10 y11 y12 : Option V, σ = [some (.ref a), y1, some (.ref p), some (.ref W), some (.ref N), some (.ref O), y6, y7, y8, y9, y10, y11, y12] ∧ Kept p H22 H2 ∧ PoolAt H2 p) ?_ ?_ ?_
          · exact ⟨_, _, _, _, _, _, _, _, rfl, Kept.refl p H22, hp22⟩
          · rintro i2 σ H23 hi2 ⟨z1, z6, z7, z8, z9, z10, z11, z12, rfl, k23, hp23⟩
            refine ⟨_, rfl, _, rfl, _, rfl, _, rfl, p, W, N, O, rs, ps, os, rfl, hp23, eWp, eNp, eOp, hW22.kept k23 hp22 eWp, okA, hN22.kept k23 hp22 eNp, okN, by omega, k23 _ _ hO22 eOp, okO, fun H24 k24 hp24 => ⟨_, rfl, iteF ?_⟩⟩
            exact ⟨_, _, _, _, _, _, _, _, rfl, k23.trans k24, hp24⟩
          · rintro σ H23 ⟨z1, z6, z7, z8, z9, z10, z11, z12, rfl, k23, hp23⟩
            exact ⟨_, _, _, _, _, _, _, _, _, _, _, _, rfl, back (k122.trans k23)⟩
    · rintro σ Hs ⟨y1, y2, y3, y4, y5, y6, y7, y8, y9, y10, y11, y12, rfl, hSs⟩
      exact q Hs
end
end Su
namespace Su
open PySem PySem.Spec PyProof.Rows L2
theorem at_mk {K : PySem.W.Frag} {h : Heap} {mg : Str → Option Value} {x : Str} {st : Stmt} {f : Addr} {fd : FuncData} {ps : List Str} (X : K.In h) (G : h.Ns mainGlobals mg) (a : PySem.W.nsIn K mainGlobals x = some (some (.ref f))) (F : Fun K x x st f fd) (b : Binds K fd ps []) : At K mg x st ps :=
  ⟨f, fd, F, PySem.W.mg_of X G a, b⟩
theorem all_mk {l : PySem.W.OpenLaw} {w : World} {K : PySem.W.Frag} {h : Heap} {mg : Str → Option Value} {fa f1 f2 f3 f4 f5 f6 f7 f8 f9 f10 f11 f12 f13 f14 f15 f16 f17 f18 f19 f20 f21 f22 f23 f24 f25 : Addr} {g1 g2 g3 : Tok} {C1 : Addr} {cdC1 : ClassData} {fI1 cda1 cc1 : Addr} {oc_1 doc_1 pm_1 ct_1 ccl1 cl_1 : Value} {od_1 an_1 cdd1 cld1 : Option Addr} {q_1 t_1 file1 : Str} {osl1 ccs1 csl1 : Array (Option Value)} {vs1 : Array Value} {tf1 : Tok} {p1_1 p2_1 r1_1 r2_1 r3_1 r4_1 r5_1 r6_1 q1_1 q2_1 q3_1 q4_1 : Pos} {C2 : Addr} {cdC2 : ClassData} {C3 : Addr} (X : K.In h) (G : h.Ns mainGlobals mg) (hfa : mg "law" = some (.ref fa))
    {od1 an1 od2 an2 od3 an3 od4 an4 od5 an5 od6 an6 od7 an7 od8 an8 od9 an9 od10 an10 od11 an11 od12 an12 od13 an13 od14 an14 od15 an15 od16 an16 od17 an17 od18 an18 od19 an19 od20 an20 od21 an21 od22 an22 od23 an23 od24 an24 od25 an25 : Option Addr} {sl1 sl2 sl3 sl4 sl5 sl6 sl7 sl8 sl9 sl10 sl11 sl12 sl13 sl14 sl15 sl16 sl17 sl18 sl19 sl20 sl21 sl22 sl23 sl24 sl25 : Array (Option Value)} {oc1 kV1 dc1 pm1 cd1 ct1 oc2 kV2 dc2 pm2 cd2 ct2 oc3 kV3 dc3 pm3 cd3 ct3 oc4 kV4 dc4 pm4 cd4 ct4 oc5 kV5 dc5 pm5 cd5 ct5 oc6 kV6 dc6 pm6 cd6 ct6 oc7 kV7 dc7 pm7 cd7 ct7 oc8 kV8 dc8 pm8 cd8 ct8 oc9 kV9 dc9 pm9 cd9 ct9 oc10 kV10 dc10 pm10 cd10 ct10 oc11 kV11 dc11 pm11 cd11 ct11 oc12 kV12 dc12 pm12 cd12 ct12 oc13 kV13 dc13 pm13 cd13 ct13 oc14 kV14 dc14 pm14 cd14 ct14 oc15 kV15 dc15 pm15 cd15 ct15 oc16 kV16 dc16 pm16 cd16 ct16 oc17 kV17 dc17 pm17 cd17 ct17 oc18 kV18 dc18 pm18 cd18 ct18 oc19 kV19 dc19 pm19 cd19 ct19 oc20 kV20 dc20 pm20 cd20 ct20 oc21 kV21 dc21 pm21 cd21 ct21 oc22 kV22 dc22 pm22 cd22 ct22 oc23 kV23 dc23 pm23 cd23 ct23 oc24 kV24 dc24 pm24 cd24 ct24 oc25 kV25 dc25 pm25 cd25 ct25 : Value}
    (a1 : PySem.W.nsIn K mainGlobals "is_whole" = some (some (.ref f1))) (l1 : K.lookup f1 = some ⟨oc1, od1, .func (PySem.W.fnOf "is_whole" "is_whole" (defArgs s_is_whole) (defBody s_is_whole) (defScope s_is_whole) .none kV1 dc1 pm1 an1 cd1 ct1), sl1⟩) (c1 : PySem.W.codeIn K cd1 "is_whole" = true) (k1 : PySem.W.keepIn K (.ref f1) = true)
    (a2 : PySem.W.nsIn K mainGlobals "is_room" = some (some (.ref f2))) (l2 : K.lookup f2 = some ⟨oc2, od2, .func (PySem.W.fnOf "is_room" "is_room" (defArgs s_is_room) (defBody s_is_room) (defScope s_is_room) .none kV2 dc2 pm2 an2 cd2 ct2), sl2⟩) (c2 : PySem.W.codeIn K cd2 "is_room" = true) (k2 : PySem.W.keepIn K (.ref f2) = true)
    (a3 : PySem.W.nsIn K mainGlobals "are_rising" = some (some (.ref f3))) (l3 : K.lookup f3 = some ⟨oc3, od3, .func (PySem.W.fnOf "are_rising" "are_rising" (defArgs s_are_rising) (defBody s_are_rising) (defScope s_are_rising) .none kV3 dc3 pm3 an3 cd3 ct3), sl3⟩) (c3 : PySem.W.codeIn K cd3 "are_rising" = true) (k3 : PySem.W.keepIn K (.ref f3) = true)
    (a4 : PySem.W.nsIn K mainGlobals "are_rooms" = some (some (.ref f4))) (l4 : K.lookup f4 = some ⟨oc4, od4, .func (PySem.W.fnOf "are_rooms" "are_rooms" (defArgs s_are_rooms) (defBody s_are_rooms) (defScope s_are_rooms) .none kV4 dc4 pm4 an4 cd4 ct4), sl4⟩) (c4 : PySem.W.codeIn K cd4 "are_rooms" = true) (k4 : PySem.W.keepIn K (.ref f4) = true)
    (a5 : PySem.W.nsIn K mainGlobals "are_tos" = some (some (.ref f5))) (l5 : K.lookup f5 = some ⟨oc5, od5, .func (PySem.W.fnOf "are_tos" "are_tos" (defArgs s_are_tos) (defBody s_are_tos) (defScope s_are_tos) .none kV5 dc5 pm5 an5 cd5 ct5), sl5⟩) (c5 : PySem.W.codeIn K cd5 "are_tos" = true) (k5 : PySem.W.keepIn K (.ref f5) = true)
    (a6 : PySem.W.nsIn K mainGlobals "is_row" = some (some (.ref f6))) (l6 : K.lookup f6 = some ⟨oc6, od6, .func (PySem.W.fnOf "is_row" "is_row" (defArgs s_is_row) (defBody s_is_row) (defScope s_is_row) .none kV6 dc6 pm6 an6 cd6 ct6), sl6⟩) (c6 : PySem.W.codeIn K cd6 "is_row" = true) (k6 : PySem.W.keepIn K (.ref f6) = true)
    (a7 : PySem.W.nsIn K mainGlobals "rooms_in" = some (some (.ref f7))) (l7 : K.lookup f7 = some ⟨oc7, od7, .func (PySem.W.fnOf "rooms_in" "rooms_in" (defArgs s_rooms_in) (defBody s_rooms_in) (defScope s_rooms_in) .none kV7 dc7 pm7 an7 cd7 ct7), sl7⟩) (c7 : PySem.W.codeIn K cd7 "rooms_in" = true) (k7 : PySem.W.keepIn K (.ref f7) = true)
    (a8 : PySem.W.nsIn K mainGlobals "look_at_web" = some (some (.ref f8))) (l8 : K.lookup f8 = some ⟨oc8, od8, .func (PySem.W.fnOf "look_at_web" "look_at_web" (defArgs s_look_at_web) (defBody s_look_at_web) (defScope s_look_at_web) .none kV8 dc8 pm8 an8 cd8 ct8), sl8⟩) (c8 : PySem.W.codeIn K cd8 "look_at_web" = true) (k8 : PySem.W.keepIn K (.ref f8) = true)
    (a9 : PySem.W.nsIn K mainGlobals "are_names" = some (some (.ref f9))) (l9 : K.lookup f9 = some ⟨oc9, od9, .func (PySem.W.fnOf "are_names" "are_names" (defArgs s_are_names) (defBody s_are_names) (defScope s_are_names) .none kV9 dc9 pm9 an9 cd9 ct9), sl9⟩) (c9 : PySem.W.codeIn K cd9 "are_names" = true) (k9 : PySem.W.keepIn K (.ref f9) = true)
    (a10 : PySem.W.nsIn K mainGlobals "called" = some (some (.ref f10))) (l10 : K.lookup f10 = some ⟨oc10, od10, .func (PySem.W.fnOf "called" "called" (defArgs s_called) (defBody s_called) (defScope s_called) .none kV10 dc10 pm10 an10 cd10 ct10), sl10⟩) (c10 : PySem.W.codeIn K cd10 "called" = true) (k10 : PySem.W.keepIn K (.ref f10) = true)
    (a11 : PySem.W.nsIn K mainGlobals "is_order" = some (some (.ref f11))) (l11 : K.lookup f11 = some ⟨oc11, od11, .func (PySem.W.fnOf "is_order" "is_order" (defArgs s_is_order) (defBody s_is_order) (defScope s_is_order) .none kV11 dc11 pm11 an11 cd11 ct11), sl11⟩) (c11 : PySem.W.codeIn K cd11 "is_order" = true) (k11 : PySem.W.keepIn K (.ref f11) = true)
    (a12 : PySem.W.nsIn K mainGlobals "ordered" = some (some (.ref f12))) (l12 : K.lookup f12 = some ⟨oc12, od12, .func (PySem.W.fnOf "ordered" "ordered" (defArgs s_ordered) (defBody s_ordered) (defScope s_ordered) .none kV12 dc12 pm12 an12 cd12 ct12), sl12⟩) (c12 : PySem.W.codeIn K cd12 "ordered" = true) (k12 : PySem.W.keepIn K (.ref f12) = true)
    (a13 : PySem.W.nsIn K mainGlobals "_law_pool" = some (some (.ref f13))) (l13 : K.lookup f13 = some ⟨oc13, od13, .func (PySem.W.fnOf "_law_pool" "_law_pool" (defArgs s_law_pool) (defBody s_law_pool) (defScope s_law_pool) .none kV13 dc13 pm13 an13 cd13 ct13), sl13⟩) (c13 : PySem.W.codeIn K cd13 "_law_pool" = true) (k13 : PySem.W.keepIn K (.ref f13) = true)
    (a14 : PySem.W.nsIn K mainGlobals "_law_take" = some (some (.ref f14))) (l14 : K.lookup f14 = some ⟨oc14, od14, .func (PySem.W.fnOf "_law_take" "_law_take" (defArgs s_law_take) (defBody s_law_take) (defScope s_law_take) .none kV14 dc14 pm14 an14 cd14 ct14), sl14⟩) (c14 : PySem.W.codeIn K cd14 "_law_take" = true) (k14 : PySem.W.keepIn K (.ref f14) = true)
    (a15 : PySem.W.nsIn K mainGlobals "_law_picked" = some (some (.ref f15))) (l15 : K.lookup f15 = some ⟨oc15, od15, .func (PySem.W.fnOf "_law_picked" "_law_picked" (defArgs s_law_picked) (defBody s_law_picked) (defScope s_law_picked) .none kV15 dc15 pm15 an15 cd15 ct15), sl15⟩) (c15 : PySem.W.codeIn K cd15 "_law_picked" = true) (k15 : PySem.W.keepIn K (.ref f15) = true)
    (a16 : PySem.W.nsIn K mainGlobals "_law_tos" = some (some (.ref f16))) (l16 : K.lookup f16 = some ⟨oc16, od16, .func (PySem.W.fnOf "_law_tos" "_law_tos" (defArgs s_law_tos) (defBody s_law_tos) (defScope s_law_tos) .none kV16 dc16 pm16 an16 cd16 ct16), sl16⟩) (c16 : PySem.W.codeIn K cd16 "_law_tos" = true) (k16 : PySem.W.keepIn K (.ref f16) = true)
    (a17 : PySem.W.nsIn K mainGlobals "_law_web" = some (some (.ref f17))) (l17 : K.lookup f17 = some ⟨oc17, od17, .func (PySem.W.fnOf "_law_web" "_law_web" (defArgs s_law_web) (defBody s_law_web) (defScope s_law_web) .none kV17 dc17 pm17 an17 cd17 ct17), sl17⟩) (c17 : PySem.W.codeIn K cd17 "_law_web" = true) (k17 : PySem.W.keepIn K (.ref f17) = true)
    (a18 : PySem.W.nsIn K mainGlobals "_law_web_rooms" = some (some (.ref f18))) (l18 : K.lookup f18 = some ⟨oc18, od18, .func (PySem.W.fnOf "_law_web_rooms" "_law_web_rooms" (defArgs s_law_web_rooms) (defBody s_law_web_rooms) (defScope s_law_web_rooms) .none kV18 dc18 pm18 an18 cd18 ct18), sl18⟩) (c18 : PySem.W.codeIn K cd18 "_law_web_rooms" = true) (k18 : PySem.W.keepIn K (.ref f18) = true)
    (a19 : PySem.W.nsIn K mainGlobals "_law_shuffled" = some (some (.ref f19))) (l19 : K.lookup f19 = some ⟨oc19, od19, .func (PySem.W.fnOf "_law_shuffled" "_law_shuffled" (defArgs s_law_shuffled) (defBody s_law_shuffled) (defScope s_law_shuffled) .none kV19 dc19 pm19 an19 cd19 ct19), sl19⟩) (c19 : PySem.W.codeIn K cd19 "_law_shuffled" = true) (k19 : PySem.W.keepIn K (.ref f19) = true)
    (a20 : PySem.W.nsIn K mainGlobals "_law_names" = some (some (.ref f20))) (l20 : K.lookup f20 = some ⟨oc20, od20, .func (PySem.W.fnOf "_law_names" "_law_names" (defArgs s_law_names) (defBody s_law_names) (defScope s_law_names) .none kV20 dc20 pm20 an20 cd20 ct20), sl20⟩) (c20 : PySem.W.codeIn K cd20 "_law_names" = true) (k20 : PySem.W.keepIn K (.ref f20) = true)
    (a21 : PySem.W.nsIn K mainGlobals "_law_called" = some (some (.ref f21))) (l21 : K.lookup f21 = some ⟨oc21, od21, .func (PySem.W.fnOf "_law_called" "_law_called" (defArgs s_law_called) (defBody s_law_called) (defScope s_law_called) .none kV21 dc21 pm21 an21 cd21 ct21), sl21⟩) (c21 : PySem.W.codeIn K cd21 "_law_called" = true) (k21 : PySem.W.keepIn K (.ref f21) = true)
    (a22 : PySem.W.nsIn K mainGlobals "_law_ordered" = some (some (.ref f22))) (l22 : K.lookup f22 = some ⟨oc22, od22, .func (PySem.W.fnOf "_law_ordered" "_law_ordered" (defArgs s_law_ordered) (defBody s_law_ordered) (defScope s_law_ordered) .none kV22 dc22 pm22 an22 cd22 ct22), sl22⟩) (c22 : PySem.W.codeIn K cd22 "_law_ordered" = true) (k22 : PySem.W.keepIn K (.ref f22) = true)
    (a23 : PySem.W.nsIn K mainGlobals "_law_kind" = some (some (.ref f23))) (l23 : K.lookup f23 = some ⟨oc23, od23, .func (PySem.W.fnOf "_law_kind" "_law_kind" (defArgs s_law_kind) (defBody s_law_kind) (defScope s_law_kind) .none kV23 dc23 pm23 an23 cd23 ct23), sl23⟩) (c23 : PySem.W.codeIn K cd23 "_law_kind" = true) (k23 : PySem.W.keepIn K (.ref f23) = true)
    (a24 : PySem.W.nsIn K mainGlobals "_law_refused" = some (some (.ref f24))) (l24 : K.lookup f24 = some ⟨oc24, od24, .func (PySem.W.fnOf "_law_refused" "_law_refused" (defArgs s_law_refused) (defBody s_law_refused) (defScope s_law_refused) .none kV24 dc24 pm24 an24 cd24 ct24), sl24⟩) (c24 : PySem.W.codeIn K cd24 "_law_refused" = true) (k24 : PySem.W.keepIn K (.ref f24) = true)
    (a25 : PySem.W.nsIn K mainGlobals "law" = some (some (.ref f25))) (l25 : K.lookup f25 = some ⟨oc25, od25, .func (PySem.W.fnOf "law" "law" (defArgs s_law) (defBody s_law) (defScope s_law) .none kV25 dc25 pm25 an25 cd25 ct25), sl25⟩) (c25 : PySem.W.codeIn K cd25 "law" = true) (k25 : PySem.W.keepIn K (.ref f25) = true)
    (m1 : PySem.W.nsIn K mainGlobals "LAST_ROOM" = some (some (.int 99 g1)))
    (m2 : PySem.W.nsIn K mainGlobals "MOST_ROWS" = some (some (.int 80 g2)))
    (m3 : PySem.W.nsIn K mainGlobals "MOST_ROOMS" = some (some (.int 12 g3)))
    (eg1 : PySem.W.nsIn K mainGlobals "NoWeb" = some (some (.ref C1)))
    (ek1 : PySem.W.keepIn K (.ref C1) = true)
    (ex1 : PySem.W.subIn K (.ref C1) (.type "BaseException") = some true)
    (et1 : PySem.W.typeIn K (.ref C1) = some (.type "type"))
    (ec1 : PySem.W.clsIn K C1 = some cdC1)
    (ga1 : PySem.W.findIn K (.ref C1) "__getattribute__" = some (some (.builtin "BaseException.__getattribute__")))
    (gg1 : PySem.W.findIn K (.ref C1) "__getattr__" = some none)
    (gc1 : PySem.W.findIn K (.ref C1) "__class__" = some (some (.builtin "object.__class__")))
    (mo1 : PySem.W.mroIn K C1 (.type "object") = some true)
    (ed1 : PySem.W.hasDictIn K C1 = true)
    (ei1 : PySem.W.excInitIn K C1 [.type "ValueError", .type "Exception", .type "BaseException", .type "object"] "ValueError.__new__" = true)
    (eo1 : PySem.W.excOver K C1 [.type "ValueError", .type "Exception", .type "BaseException", .type "object"] = true)
    (es1 : PySem.W.findIn K (.ref C1) "__setattr__" = some (some (.builtin "object.__setattr__")))
    (en1 : PySem.W.findIn K (.ref C1) "row" = some none)
    (ef1 : PySem.W.findIn K (.ref C1) "__init__" = some (some (.ref fI1)))
    (eh1 : PySem.W.isFn K (.ref fI1) = true)
    (ev1 : PySem.W.subIn K (.ref C1) (.type "ValueError") = some true)
    (eu1 : PySem.W.ks_superIn K C1 C1 "__init__" = some (some (.builtin "ValueError.__init__")))
    (em1 : PySem.W.mroIn K C1 (.ref C1) = some true)
    (el1 : K.lookup fI1 = some ⟨oc_1, od_1, .func (PySem.W.ksFn "__init__" q_1 (XC.inA "row" p1_1 p2_1) (XC.inB "row" t_1 r1_1 r2_1 r3_1 r4_1 r5_1 r6_1 q1_1 q2_1 q3_1 q4_1) (XC.inS "row") .none .none doc_1 pm_1 an_1 (.ref cda1) ct_1 cc1), osl1⟩)
    (eq1 : PySem.W.codeIn K (.ref cda1) q_1 = true)
    (ew1 : K.lookup cda1 = some ⟨ccl1, cdd1, .fields vs1, ccs1⟩)
    (ey1 : vs1[2]? = some (.str file1 tf1))
    (ez1 : ((l.prog.main.file : Str) == file1) = true)
    (ea1 : (r3_1.endLine == r5_1.line) = true)
    (eb1 : K.lookup cc1 = some ⟨cl_1, cld1, .cell (some (.ref C1)), csl1⟩)
    (eg2 : PySem.W.nsIn K mainGlobals "NoNames" = some (some (.ref C2)))
    (ek2 : PySem.W.keepIn K (.ref C2) = true)
    (ex2 : PySem.W.subIn K (.ref C2) (.type "BaseException") = some true)
    (et2 : PySem.W.typeIn K (.ref C2) = some (.type "type"))
    (ec2 : PySem.W.clsIn K C2 = some cdC2)
    (ga2 : PySem.W.findIn K (.ref C2) "__getattribute__" = some (some (.builtin "BaseException.__getattribute__")))
    (gg2 : PySem.W.findIn K (.ref C2) "__getattr__" = some none)
    (gc2 : PySem.W.findIn K (.ref C2) "__class__" = some (some (.builtin "object.__class__")))
    (mo2 : PySem.W.mroIn K C2 (.type "object") = some true)
    (ed2 : PySem.W.hasDictIn K C2 = true)
    (ei2 : PySem.W.excIn K C2 [.type "ValueError", .type "Exception", .type "BaseException", .type "object"] "ValueError.__new__" = true)
    (eg3 : PySem.W.nsIn K mainGlobals "HandError" = some (some (.ref C3)))
    (spG : PySem.W.specialIn K (.builtin "object.__class__") "__get__" = some (some (.builtin "getset_descriptor.__get__")))
    (tkG : PySem.W.takesIn K (.builtin "object.__class__") = some true)
    (nsG : PySem.W.nsIn K mainGlobals "super" = some none)
    (opG : PySem.W.nsIn K cStatics "thirdparty.any" = some none)
    (ntG : (l.prog.main.scope.names.lookup ("super" : Str)).isSome = false)
    (xw : PySem.W.exmOne K (.ref C1) (.ref C3) = some true)
    (xm : PySem.W.exmOne K (.ref C2) (.ref C3) = some true)
    (iww : PySem.W.kitOne K (.ref C1) (.ref C1) = some true)
    (iwn : PySem.W.kitOne K (.ref C1) (.ref C2) = some false)
    (inn : PySem.W.kitOne K (.ref C2) (.ref C2) = some true)
    (z1 : PySem.W.nsIn K mainGlobals "len" = some none) (z2 : PySem.W.nsIn K mainGlobals "sum" = some none) (z3 : PySem.W.nsIn K mainGlobals "abs" = some none) (z4 : PySem.W.nsIn K mainGlobals "int" = some none) (z5 : PySem.W.nsIn K mainGlobals "min" = some none) (z6 : PySem.W.nsIn K mainGlobals "max" = some none) (z7 : PySem.W.nsIn K mainGlobals "range" = some none) (z8 : PySem.W.nsIn K mainGlobals "sorted" = some none) (z9 : PySem.W.nsIn K mainGlobals "list" = some none) (z10 : PySem.W.nsIn K mainGlobals "tuple" = some none) (z11 : PySem.W.nsIn K mainGlobals "repr" = some none) (z12 : PySem.W.nsIn K mainGlobals "set" = some none) (z13 : PySem.W.nsIn K mainGlobals "all" = some none) (z14 : PySem.W.nsIn K mainGlobals "isinstance" = some none) (z15 : PySem.W.nsIn K mainGlobals "str" = some none) (z16 : PySem.W.nsIn K mainGlobals "bool" = some none) (z17 : PySem.W.nsIn K mainGlobals "reversed" = some none) (z18 : PySem.W.nsIn K mainGlobals "enumerate" = some none) (z19 : PySem.W.nsIn K mainGlobals "zip" = some none) (z20 : PySem.W.nsIn K mainGlobals "any" = some none) (z21 : PySem.W.nsIn K mainGlobals "dict" = some none) :
    ∃ fd : FuncData, (∀ (s : Shared) (v : Value), BindsTo s fd ⟨[v], []⟩ [("_law_script", v)]) ∧ ∀ base : Heap, K.In base → base.Ns mainGlobals mg → FnG l.prog w K mg base CX0 9 fa fd ["_law_script"] (spLaw K) := by
  have e := hfa.symm.trans (PySem.W.mg_of X G a25)
  cases e
  have B : Bt mg := ⟨PySem.W.mg_none_of X G z1, PySem.W.mg_none_of X G z2, PySem.W.mg_none_of X G z3, PySem.W.mg_none_of X G z4, PySem.W.mg_none_of X G z5, PySem.W.mg_none_of X G z6, PySem.W.mg_none_of X G z7, PySem.W.mg_none_of X G z8, PySem.W.mg_none_of X G z9, PySem.W.mg_none_of X G z10, PySem.W.mg_none_of X G z11, PySem.W.mg_none_of X G z12, PySem.W.mg_none_of X G z13, PySem.W.mg_none_of X G z14, PySem.W.mg_none_of X G z15, PySem.W.mg_none_of X G z16, PySem.W.mg_none_of X G z17, PySem.W.mg_none_of X G z18, PySem.W.mg_none_of X G z19, PySem.W.mg_none_of X G z20, PySem.W.mg_none_of X G z21⟩
  have F1 := fun_mk (st := s_is_whole) l1 c1 k1
  have b1 := F1.binds (ps := ["thing"]) fun _ _ _ _ _ _ us hl => match us, hl with | [_], _ => rfl
  have T1 := at_mk X G a1 F1 b1
  have F2 := fun_mk (st := s_is_room) l2 c2 k2
  have b2 := F2.binds (ps := ["thing"]) fun _ _ _ _ _ _ us hl => match us, hl with | [_], _ => rfl
  have T2 := at_mk X G a2 F2 b2
  have F3 := fun_mk (st := s_are_rising) l3 c3 k3
  have b3 := F3.binds (ps := ["numbers"]) fun _ _ _ _ _ _ us hl => match us, hl with | [_], _ => rfl
  have T3 := at_mk X G a3 F3 b3
  have F4 := fun_mk (st := s_are_rooms) l4 c4 k4
  have b4 := F4.binds (ps := ["thing", "least", "most"]) fun _ _ _ _ _ _ us hl => match us, hl with | [_, _, _], _ => rfl
  have T4 := at_mk X G a4 F4 b4
  have F5 := fun_mk (st := s_are_tos) l5 c5 k5
  have b5 := F5.binds (ps := ["thing", "rows"]) fun _ _ _ _ _ _ us hl => match us, hl with | [_, _], _ => rfl
  have T5 := at_mk X G a5 F5 b5
  have F6 := fun_mk (st := s_is_row) l6 c6 k6
  have b6 := F6.binds (ps := ["thing", "rows"]) fun _ _ _ _ _ _ us hl => match us, hl with | [_, _], _ => rfl
  have T6 := at_mk X G a6 F6 b6
  have F7 := fun_mk (st := s_rooms_in) l7 c7 k7
  have b7 := F7.binds (ps := ["rows"]) fun _ _ _ _ _ _ us hl => match us, hl with | [_], _ => rfl
  have T7 := at_mk X G a7 F7 b7
  have F8 := fun_mk (st := s_look_at_web) l8 c8 k8
  have b8 := F8.binds (ps := ["thing"]) fun _ _ _ _ _ _ us hl => match us, hl with | [_], _ => rfl
  have T8 := at_mk X G a8 F8 b8
  have F9 := fun_mk (st := s_are_names) l9 c9 k9
  have b9 := F9.binds (ps := ["thing", "rooms"]) fun _ _ _ _ _ _ us hl => match us, hl with | [_, _], _ => rfl
  have T9 := at_mk X G a9 F9 b9
  have F10 := fun_mk (st := s_called) l10 c10 k10
  have b10 := F10.binds (ps := ["web", "names"]) fun _ _ _ _ _ _ us hl => match us, hl with | [_, _], _ => rfl
  have T10 := at_mk X G a10 F10 b10
  have F11 := fun_mk (st := s_is_order) l11 c11 k11
  have b11 := F11.binds (ps := ["thing", "many"]) fun _ _ _ _ _ _ us hl => match us, hl with | [_, _], _ => rfl
  have T11 := at_mk X G a11 F11 b11
  have F12 := fun_mk (st := s_ordered) l12 c12 k12
  have b12 := F12.binds (ps := ["web", "order"]) fun _ _ _ _ _ _ us hl => match us, hl with | [_, _], _ => rfl
  have T12 := at_mk X G a12 F12 b12
  have F13 := fun_mk (st := s_law_pool) l13 c13 k13
  have b13 := F13.binds (ps := ["_law_script", "_law_k"]) fun _ _ _ _ _ _ us hl => match us, hl with | [_, _], _ => rfl
  have T13 := at_mk X G a13 F13 b13
  have F14 := fun_mk (st := s_law_take) l14 c14 k14
  have b14 := F14.binds (ps := ["_law_pool_here", "_law_many"]) fun _ _ _ _ _ _ us hl => match us, hl with | [_, _], _ => rfl
  have T14 := at_mk X G a14 F14 b14
  have F15 := fun_mk (st := s_law_picked) l15 c15 k15
  have b15 := F15.binds (ps := ["_law_pool_here", "_law_some", "_law_many"]) fun _ _ _ _ _ _ us hl => match us, hl with | [_, _, _], _ => rfl
  have T15 := at_mk X G a15 F15 b15
  have F16 := fun_mk (st := s_law_tos) l16 c16 k16
  have b16 := F16.binds (ps := ["_law_pool_here", "_law_row", "_law_many"]) fun _ _ _ _ _ _ us hl => match us, hl with | [_, _, _], _ => rfl
  have T16 := at_mk X G a16 F16 b16
  have F17 := fun_mk (st := s_law_web) l17 c17 k17
  have b17 := F17.binds (ps := ["_law_pool_here", "_law_most_rows", "_law_most_rooms"]) fun _ _ _ _ _ _ us hl => match us, hl with | [_, _, _], _ => rfl
  have T17 := at_mk X G a17 F17 b17
  have F18 := fun_mk (st := s_law_web_rooms) l18 c18 k18
  have b18 := F18.binds (ps := ["_law_web_here"]) fun _ _ _ _ _ _ us hl => match us, hl with | [_], _ => rfl
  have T18 := at_mk X G a18 F18 b18
  have F19 := fun_mk (st := s_law_shuffled) l19 c19 k19
  have b19 := F19.binds (ps := ["_law_pool_here", "_law_some"]) fun _ _ _ _ _ _ us hl => match us, hl with | [_, _], _ => rfl
  have T19 := at_mk X G a19 F19 b19
  have F20 := fun_mk (st := s_law_names) l20 c20 k20
  have b20 := F20.binds (ps := ["_law_pool_here", "_law_rooms"]) fun _ _ _ _ _ _ us hl => match us, hl with | [_, _], _ => rfl
  have T20 := at_mk X G a20 F20 b20
  have F21 := fun_mk (st := s_law_called) l21 c21 k21
  have b21 := F21.binds (ps := ["_law_web_here", "_law_names_here"]) fun _ _ _ _ _ _ us hl => match us, hl with | [_, _], _ => rfl
  have T21 := at_mk X G a21 F21 b21
  have F22 := fun_mk (st := s_law_ordered) l22 c22 k22
  have b22 := F22.binds (ps := ["_law_web_here", "_law_order"]) fun _ _ _ _ _ _ us hl => match us, hl with | [_, _], _ => rfl
  have T22 := at_mk X G a22 F22 b22
  have F23 := fun_mk (st := s_law_kind) l23 c23 k23
  have b23 := F23.binds (ps := ["_law_way", "_law_web_here", "_law_thing"]) fun _ _ _ _ _ _ us hl => match us, hl with | [_, _, _], _ => rfl
  have T23 := at_mk X G a23 F23 b23
  have F24 := fun_mk (st := s_law_refused) l24 c24 k24
  have b24 := F24.binds (ps := ["_law_pool_here", "_law_web_here", "_law_names_here", "_law_order"]) fun _ _ _ _ _ _ us hl => match us, hl with | [_, _, _, _], _ => rfl
  have T24 := at_mk X G a24 F24 b24
  have F25 := fun_mk (st := s_law) l25 c25 k25
  refine ⟨PySem.W.fnOf "law" "law" (defArgs s_law) (defBody s_law) (defScope s_law) .none kV25 dc25 pm25 an25 cd25 ct25, fun s v => .of_eq rfl, fun base _ _ => ?_⟩
  have O1 : XC.Own l.prog K mg "NoWeb" "row" C1 fI1 "ValueError" "ValueError.__new__" "ValueError.__init__" [.type "ValueError", .type "Exception", .type "BaseException", .type "object"] := ⟨XC.fld_row, PySem.W.mg_of X G eg1, ei1, eo1, PySem.F.excBase_ValueError, PySem.F.store_ValueError, PySem.W.kxs_ValueError, es1, en1, ef1, eh1, ek1, ex1, et1, ed1, ev1, eu1, em1, PySem.W.mg_none_of X G nsG, opG, ntG, _, _, _, _, _, _, _, _, _, _, _, _, _, _, _, _, _, _, _, _, _, _, _, _, _, _, _, _, _, _, _, _, el1, eq1, ew1, ey1, ez1, ea1, eb1⟩
  have O2 : Own0 K mg "NoNames" C2 "ValueError" "ValueError.__new__" "ValueError.__init__" [.type "ValueError", .type "Exception", .type "BaseException", .type "object"] := ⟨PySem.F.excBase_ValueError, ei2, PySem.W.mg_of X G eg2, ek2, ex2, et2⟩
  have EJ : ErrN K mg C1 C3 C2 := ⟨PySem.W.mg_of X G eg3, xw, xm, PySem.W.mg_of X G eg1, PySem.W.mg_of X G eg2, ⟨by rw [ec1]; rfl, ga1, gg1, ex1, gc1, spG, tkG, mo1, ed1⟩, ⟨by rw [ec2]; rfl, ga2, gg2, ex2, gc2, spG, tkG, mo2, ed2⟩, iww, iwn, inn⟩
  have D : GbW mg := ⟨⟨_, PySem.W.mg_of X G m1⟩, ⟨_, PySem.W.mg_of X G m2⟩, ⟨_, PySem.W.mg_of X G m3⟩⟩
  have v1 := ok_whole (P := l.prog) (w := w) (base := base) T1 B
  have v2 := ok_room (P := l.prog) (w := w) (base := base) T2 D v1
  have v3 := ok_rising (P := l.prog) (w := w) (base := base) T3 B
  have v4 := ok_row (P := l.prog) (w := w) (base := base) T6 B (ok_rooms T4 B v2 v3) (ok_tos T5 B v1 v3)
  have v5 := ok_rooms_in (P := l.prog) (w := w) (base := base) T7 B
  have v6 := ok_look (P := l.prog) (w := w) (base := base) O1 T8 B D v4 v5
  have v7 := ok_names (P := l.prog) (w := w) (base := base) T9 B v2
  have v8 := ok_called (P := l.prog) (w := w) (base := base) O2 T10 B v6 v5 v7
  have v9 := ok_is_order (P := l.prog) (w := w) (base := base) T11 B v1
  have v10 := ok_ordered (P := l.prog) (w := w) (base := base) O2 T12 B v6 v9
  have t1 := ok_take (P := l.prog) (w := w) (base := base) T14
  have t2 := ok_picked (P := l.prog) (w := w) (base := base) T15 B t1
  have t3 := ok_shuffled (P := l.prog) (w := w) (base := base) T19 B t1
  have t4 := ok_kind (P := l.prog) (w := w) (base := base) EJ T23 B v8 v10
  exact ok_law F25 B ⟨ok_pool T13 B, t1, ok_lweb T17 B t1 t2 (ok_ltos T16 B t1), ok_lrooms T18 B, t3, ok_lnames T20 B t1 t2 t3, v8, v10, ok_lcalled T21 B, ok_lordered T22 B, ok_refused T24 B t1 t4⟩
end Su
open PySem PySem.W PyProof.Rows
set_option maxRecDepth 100000 in
set_option maxHeartbeats 0 in
theorem PySem.Challenge.cw_surehand_k61_called_and_ordered_holds : PySem.Challenge.rw_surehand_k61_called_and_ordered.Holds := by
  w_on; o_law; k_head; (case hw => w_witness2)
  k_fill
  refine Su.walk_ofG (l := PySem.Challenge.rw_surehand_k61_called_and_ordered) (n := 63) (k := 9) (x := "_law_script") (CX := L2.CX0) (sp := Su.spLaw) rfl (by decide) rfl ⟨rfl, by decide, by decide⟩ (fun w h Y => PySem.W.kIn_of Y) ?F (fun _ _ a ns hl hS => ⟨a, ns, rfl, hS, hl, fun _ => rfl⟩) (fun _ _ _ _ h => h)
  case F =>
    intro w mg fa h KX G hmg
    refine' Su.all_mk KX G hmg ?a1 ?l1 ?c1 ?k1 ?a2 ?l2 ?c2 ?k2 ?a3 ?l3 ?c3 ?k3 ?a4 ?l4 ?c4 ?k4 ?a5 ?l5 ?c5 ?k5 ?a6 ?l6 ?c6 ?k6 ?a7 ?l7 ?c7 ?k7 ?a8 ?l8 ?c8 ?k8 ?a9 ?l9 ?c9 ?k9 ?a10 ?l10 ?c10 ?k10 ?a11 ?l11 ?c11 ?k11 ?a12 ?l12 ?c12 ?k12 ?a13 ?l13 ?c13 ?k13 ?a14 ?l14 ?c14 ?k14 ?a15 ?l15 ?c15 ?k15 ?a16 ?l16 ?c16 ?k16 ?a17 ?l17 ?c17 ?k17 ?a18 ?l18 ?c18 ?k18 ?a19 ?l19 ?c19 ?k19 ?a20 ?l20 ?c20 ?k20 ?a21 ?l21 ?c21 ?k21 ?a22 ?l22 ?c22 ?k22 ?a23 ?l23 ?c23 ?k23 ?a24 ?l24 ?c24 ?k24 ?a25 ?l25 ?c25 ?k25 ?m1 ?m2 ?m3 ?eg1 ?ek1 ?ex1 ?et1 ?ec1 ?ga1 ?gg1 ?gc1 ?mo1 ?ed1 ?ei1 ?eo1 ?es1 ?en1 ?ef1 ?eh1 ?ev1 ?eu1 ?em1 ?el1 ?eq1 ?ew1 ?ey1 ?ez1 ?ea1 ?eb1 ?eg2 ?ek2 ?ex2 ?et2 ?ec2 ?ga2 ?gg2 ?gc2 ?mo2 ?ed2 ?ei2 ?eg3 ?spG ?tkG ?nsG ?opG ?ntG ?xw ?xm ?iww ?iwn ?inn ?z1 ?z2 ?z3 ?z4 ?z5 ?z6 ?z7 ?z8 ?z9 ?z10 ?z11 ?z12 ?z13 ?z14 ?z15 ?z16 ?z17 ?z18 ?z19 ?z20 ?z21
    (case a1 => k_is); (case l1 => k_is); (case c1 => k_is); (case k1 => k_is); (case a2 => k_is); (case l2 => k_is)
    (case c2 => k_is); (case k2 => k_is); (case a3 => k_is); (case l3 => k_is); (case c3 => k_is); (case k3 => k_is)
    (case a4 => k_is); (case l4 => k_is); (case c4 => k_is); (case k4 => k_is); (case a5 => k_is); (case l5 => k_is)
    (case c5 => k_is); (case k5 => k_is); (case a6 => k_is); (case l6 => k_is); (case c6 => k_is); (case k6 => k_is)
    (case a7 => k_is); (case l7 => k_is); (case c7 => k_is); (case k7 => k_is); (case a8 => k_is); (case l8 => k_is)
    (case c8 => k_is); (case k8 => k_is); (case a9 => k_is); (case l9 => k_is); (case c9 => k_is); (case k9 => k_is)
    (case a10 => k_is); (case l10 => k_is); (case c10 => k_is); (case k10 => k_is); (case a11 => k_is); (case l11 => k_is)
    (case c11 => k_is); (case k11 => k_is); (case a12 => k_is); (case l12 => k_is); (case c12 => k_is); (case k12 => k_is)
    (case a13 => k_is); (case l13 => k_is); (case c13 => k_is); (case k13 => k_is); (case a14 => k_is); (case l14 => k_is)
    (case c14 => k_is); (case k14 => k_is); (case a15 => k_is); (case l15 => k_is); (case c15 => k_is); (case k15 => k_is)
    (case a16 => k_is); (case l16 => k_is); (case c16 => k_is); (case k16 => k_is); (case a17 => k_is); (case l17 => k_is)
    (case c17 => k_is); (case k17 => k_is); (case a18 => k_is); (case l18 => k_is); (case c18 => k_is); (case k18 => k_is)
    (case a19 => k_is); (case l19 => k_is); (case c19 => k_is); (case k19 => k_is); (case a20 => k_is); (case l20 => k_is)
    (case c20 => k_is); (case k20 => k_is); (case a21 => k_is); (case l21 => k_is); (case c21 => k_is); (case k21 => k_is)
    (case a22 => k_is); (case l22 => k_is); (case c22 => k_is); (case k22 => k_is); (case a23 => k_is); (case l23 => k_is)
    (case c23 => k_is); (case k23 => k_is); (case a24 => k_is); (case l24 => k_is); (case c24 => k_is); (case k24 => k_is)
    (case a25 => k_is); (case l25 => k_is); (case c25 => k_is); (case k25 => k_is); (case m1 => k_is); (case m2 => k_is)
    (case m3 => k_is); (case eg1 => k_is); (case ek1 => k_is); (case ex1 => k_is); (case et1 => k_is); (case ec1 => k_is)
    (case ga1 => k_is); (case gg1 => k_is); (case gc1 => k_is); (case mo1 => k_is); (case ed1 => k_is); (case ei1 => kx_is)
    (case eo1 => kx_is); (case es1 => k_is); (case en1 => k_is); (case ef1 => k_is); (case eh1 => k_is); (case ev1 => k_is)
    (case eu1 => ks_is); (case em1 => k_is); (case el1 => k_is); (case eq1 => k_is); (case ew1 => k_is); (case ey1 => rfl)
    (case ez1 => first | rfl | decide +kernel); (case ea1 => first | rfl | decide +kernel); (case eb1 => k_is); (case eg2 => k_is); (case ek2 => k_is); (case ex2 => k_is)
    (case et2 => k_is); (case ec2 => k_is); (case ga2 => k_is); (case gg2 => k_is); (case gc2 => k_is); (case mo2 => k_is)
    (case ed2 => k_is); (case ei2 => k_exc); (case eg3 => k_is); (case spG => k_is); (case tkG => k_is); (case nsG => k_is)
    (case opG => k_is); (case ntG => first | rfl | decide +kernel); (case xw => kts_exm); (case xm => kts_exm); (case iww => kit_is); (case iwn => kit_is)
    (case inn => kit_is); (case z1 => k_is); (case z2 => k_is); (case z3 => k_is); (case z4 => k_is); (case z5 => k_is)
    (case z6 => k_is); (case z7 => k_is); (case z8 => k_is); (case z9 => k_is); (case z10 => k_is); (case z11 => k_is)
    (case z12 => k_is); (case z13 => k_is); (case z14 => k_is); (case z15 => k_is); (case z16 => k_is); (case z17 => k_is)
    (case z18 => k_is); (case z19 => k_is); (case z20 => k_is); (case z21 => k_is)

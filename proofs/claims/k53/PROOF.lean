import PyProof.Rows.All
import Wide.All
import OpenK.AllK
import Wide.FinOn
import HandS.ForMost
import HandS.SortInts
import HandS.TupAny
import HandS.Conv
import KE.KIndexOf
import PyProof.ReprRoads
import PyProof.ReprLen
import HandS.Comp
import HandS.Strs
import HandS.SetBool
import HandS.IsInst
import HandS.Rev
import HandS.Style
import HandS.TupLe
import HandS.Zip
import HandS.SetFor
import HandS.TupMul
import HandS.More
import HandS.ForExc
import HandS.ExcInit
import HandS.ExcValue
import KE.KExcSuper
import KE.KExcIs
import KE.KIsAll
import HandS.Exc
import KE.KExcInit
import KE.KSuper
import HandS.WordsExc
import HandS.ExcOwn
import KE.KExcLine
import KE.RegKTryMore
import PyProof.ExcBaseAll.ValueError
import PyProof.InstStoreFacts
import PySem.Challenge.RW_surehand_k53_webs_that_end
set_option Elab.async false
set_option linter.all false
set_option maxRecDepth 100000
set_option maxHeartbeats 4000000
/-! ### B0: what every law's text uses: a def by its name, calls, the end where nothing is being written out -/
namespace Su
open PySem PySem.Spec PyProof.Rows L2
/-- a def of the text stands under its name -/
structure At (K : PySem.W.Frag) (mg : Str → Option Value) (x : Str) (st : Stmt) (ps : List Str) : Prop where
  ex : ∃ (f : Addr) (fd : FuncData), Fun K x x st f fd ∧ mg x = some (.ref f) ∧ Binds K fd ps []
/-- a def that keeps a promise may be called by its name -/
structure Cal (P : Program) (w : World) (K : PySem.W.Frag) (mg : Str → Option Value) (base : Heap) (k : Nat) (x : Str) (ps : List Str) (sp : Sp) : Prop where
  ex : ∃ (f : Addr) (fd : FuncData), FnOk P w K mg base CX0 k f fd ps sp ∧ mg x = some (.ref f) ∧ PySem.W.keepIn K (.ref f) = true ∧ Binds K fd ps [] ∧ ∃ o : Obj, K.lookup f = some o ∧ o.data = .func fd
section
variable {P : Program} {w : World} {K : PySem.W.Frag} {mg : Str → Option Value} {base : Heap}
theorem cal_of {x : Str} {st : Stmt} {N ps : List Str} {k : Nat} {sp : Sp} (T : At K mg x st ps) (S : FnScope N ps (defScope st)) (len : ∀ vs H Q E, sp vs H Q E → vs.length = ps.length)
    (hb : ∀ (f : Addr) (cdv : Value) (A : Around) (outer : List Env) (s : Shared) (H : Hp) (vs : List V) (Q : VK) (E : XK), Room k (A.deeper (envOfC x (defScope st) s.heap.objs.size f cdv)) → sp vs H Q E →
      ∃ t, PSs (cxOf CX0 P w K mg base N x (defScope st) f cdv A outer s H E).nox (defBody st) t ∧ t { nx := fun _ H' => Q .non H', rt := Q } (start N vs) H) : Cal P w K mg base (k + 1) x ps sp := by
  obtain ⟨f, fd, F, hm, b⟩ := T.ex
  have z : ∃ o : Obj, K.lookup f = some o ∧ o.data = .func fd := by
    obtain ⟨oc, od, kV, doc, pm, an, cdv, ct, osl, _, lk, _⟩ := F.ex
    exact ⟨_, lk, rfl⟩
  exact ⟨f, fd, F.ok S len (fun cdv A outer s H vs Q E => hb f cdv A outer s H vs Q E), hm, F.kp, b, z⟩
end
section
variable {X : Cx} {k j : Nat} {x : Str} {ps : List Str} {sp : Sp} {p pos : Pos} {e : Expr} {es : List Expr} {t : TA}
theorem pe_own (C : Cal X.prog X.w X.K X.mg X.base k x ps sp) (hr : Room j X.A) (hk : k ≤ j) (hg : Gl X x) (ha : PA X (e :: es) t)
    (hdb : (x == ("__debug__" : Str)) = false := by decide) (he : starEach (e :: es) X.env = (false, eval e X.env) :: starEach es X.env := by rfl) (hpl : (backTo pos (starEach es X.env)).any (·.1) = false := by rfl) :
    PE X (.Call (.Name x p) (e :: es) [] pos) (tCall sp [] E0 t) := by
  obtain ⟨f, fd, F, hm, kp, b, _⟩ := C.ex
  exact pe_call F (hr.mono hk) hg hm kp b .nil (fun _ _ _ _ _ _ _ h => h.elim) ha hdb he hpl
theorem pe_own0 (C : Cal X.prog X.w X.K X.mg X.base k x ps sp) (hr : Room j X.A) (hk : k ≤ j) (hg : Gl X x) (hdb : (x == ("__debug__" : Str)) = false := by decide) :
    PE X (.Call (.Name x p) [] [] pos) (tCall sp [] E0 tNil) := by
  obtain ⟨f, fd, F, hm, kp, b, _⟩ := C.ex
  exact pe_call0 F (hr.mono hk) hg hm kp b .nil (fun _ _ _ _ _ _ _ h => h.elim) hdb
end
/-- the same promise, asked only where no object is being written out -/
structure FnG (P : Program) (w : World) (K : PySem.W.Frag) (mg : Str → Option Value) (base : Heap) (CX : CXT) (k : Nat) (f : Addr) (fd : FuncData) (ps : List Str) (sp : Sp) : Prop where
  len : ∀ vs H Q E, sp vs H Q E → vs.length = ps.length
  run : ∀ (A : Around) (outer : List Env) (s : Shared) (H : Hp) (args : Args) (us : List Value) (vs : List V) (Q : VK) (E : XK), A.guards = some [] → Room k A → Env0 P w K mg base A outer s H →
    BindsTo s fd args (ps.zip us) → Vals vs us → sp vs H Q E → codeAny (model P w) A (.call (.ref f) args) (CR CX outer P w H s Q E) s
theorem deeper_guards {A : Around} {e : Env} (h : A.guards = some []) : (A.deeper e).guards = some [] := by
  first
    | exact h
    | simpa [Around.deeper, Around.under, pushGuards, Code.guards, Code.isGuard] using h
theorem fnG_of {CX : CXT} {P : Program} {w : World} {K : PySem.W.Frag} {mg : Str → Option Value} {base : Heap} {k : Nat} {f : Addr} {nm ql : Str} {pr : Arguments} {bd : List Stmt} {sc : Scope} {dv kv dc pm cd ct oc : Value} {an od : Option Addr}
    {sl : Array (Option Value)} {N ps : List Str} {sp : Sp}
    (lk : K.lookup f = some ⟨oc, od, .func (PySem.W.fnOf nm ql pr bd sc dv kv dc pm an cd ct), sl⟩)
    (hcd : PySem.W.codeIn K cd ql = true) (S : FnScope N ps sc) (len : ∀ vs H Q E, sp vs H Q E → vs.length = ps.length)
    (hb : ∀ (A : Around) (outer : List Env) (s : Shared) (H : Hp) (vs : List V) (Q : VK) (E : XK), (A.deeper (envOfC ql sc s.heap.objs.size f cd)).guards = some [] → Room k (A.deeper (envOfC ql sc s.heap.objs.size f cd)) → sp vs H Q E →
      ∃ t, PSs (cxOf CX P w K mg base N ql sc f cd A outer s H E) bd t ∧ t { nx := fun _ H' => Q .non H', rt := Q } (start N vs) H) :
    FnG P w K mg base CX (k + 1) f (PySem.W.fnOf nm ql pr bd sc dv kv dc pm an cd ct) ps sp := by
  refine ⟨len, fun A outer s H args us vs Q E hgd hr e0 hbi rv hs => ?_⟩
  obtain ⟨t, ht, hq⟩ := hb A outer s H vs Q E (deeper_guards hgd) (hr.deeper _) hs
  -- the very same body, as a promise that asks for this surrounding alone
  have kin : K.In s.heap := e0.mod.kin.keeps fun b o z => (e0.bs b o z).1
  have nol : s.heap.NoLimit := e0.mod.nolimit.keeps fun b o z => (e0.bs b o z).1
  refine codeAny_call_function hr.depth (kin _ _ lk) rfl S.co S.gen rfl (PySem.W.codeRec_of kin hcd) (hbi _ _ _ _ ?_)
  refine wpAny_newFunctionEnv_cells S.kind (fun y hy => ?_) fun env he s1 x => ?_
  · rcases S.par y.1 (List.of_mem_zip (show (y.1, y.2) ∈ ps.zip us from hy)).1 with z | z
    · exact Or.inl z
    · exact Or.inr ⟨z, PySem.W.cellsFrom_some _ _ _ (Or.inl z)⟩
  · subst he
    refine ⟨nol.keeps x.toInCall.keep, codeAny_func (wpAny_mono (ht.run [] s1 (start N vs) H _ (inv_start S hr.hd e0 (len _ _ _ _ hs) rv x) hq) (fun fl s' z => ?_) fun _ _ z => z)⟩
    cases fl with
    | ret u =>
      obtain ⟨v, σ', H', J, r', q'⟩ := z
      exact ⟨v, H', J.os, J.bare, J.base, J.hok, r', q'⟩
    | next =>
      obtain ⟨σ', H', J, q'⟩ := z
      exact ⟨V.non, H', J.os, J.bare, J.base, J.hok, rfl, q'⟩
    | brk => exact (z.elim fun _ z => z.elim fun _ z => False.elim z.2)
    | cont => exact (z.elim fun _ z => z.elim fun _ z => False.elim z.2)
theorem hid_ns {h : Heap} {H : Hp} {b : Addr} {m : Str → Option Value} (no : ∀ (o : Obj) (es : Array DictEntry) (ep : Nat), h.get? b = some o → o.data = .dict es ep → H b = none) (n : h.Ns b m) : (hidT h H).Ns b m := by
  obtain ⟨o, es, ep, e, d, r⟩ := n
  exact ⟨o, es, ep, hidT_get e (no o es ep e d), d, r⟩
/-- the law's call, from a promise that is asked only where no object is being written out -/
theorem law_callG {P : Program} {w : World} {K : PySem.W.Frag} {mg mb : Str → Option Value} {CX : CXT} {k : Nat} {fa a : Addr} {fd : FuncData} {x : Str} {sp : Sp} {t : Shared} {vs : List Value} {ns : List Int}
    (KX : K.In t.heap) (g1 : t.heap.Ns mainGlobals mg) (g2 : t.heap.Ns builtinsNs mb) (g3 : ∀ y : Str, y ≠ "__name__" → mb y = bootBuiltins y) (g4 : t.heap.NoLimit) (g5 : t.gens = #[])
    (ha : t.heap.get? a = some { cls := .type "list", data := .seq vs.toArray }) (hi : IntsAre vs ns) (hl : ns.length ≤ sizeLine) (hr : Room k callerA)
    (F : ∀ bs : Heap, K.In bs → bs.Ns mainGlobals mg → FnG P w K mg bs CX k fa fd [x] sp) (hbi : ∀ (s : Shared) (u : Value), BindsTo s fd ⟨[u], []⟩ [(x, u)])
    (hsp : ∀ H : Hp, Only H → SqL K H a (ns.map V.int) → sp [.ref a] H (fun v _ => v = .bl true) fun _ _ _ => False)
    (hCX : ∀ H e s', CX [] H t (fun _ _ _ => False) e s' → False) :
    codeAny (model P w) callerA (.call (.ref fa) ⟨[.ref a], []⟩) (fun r s' => r = .ok (.ret (.bool true)) ∧ OldK t.heap s'.heap ∧ s'.os = t.os ∧ AllBare s'.gens) t := by
  have rv := vals_ints hi
  have main : ∀ H : Hp, Only H → SqL K H a (ns.map V.int) → HOk P w H t.heap → (∀ b, H b ≠ none → b = a) → (H a ≠ none → K.lookup a = none) →
      codeAny (model P w) callerA (.call (.ref fa) ⟨[.ref a], []⟩) (fun r s' => r = .ok (.ret (.bool true)) ∧ OldK t.heap s'.heap ∧ s'.os = t.os ∧ AllBare s'.gens) t := by
    intro H only hS hok one out
    have no : ∀ (b : Addr) (o : Obj) (es : Array DictEntry) (ep : Nat), t.heap.get? b = some o → o.data = .dict es ep → H b = none := by
      intro b o es ep e d
      cases z : H b with
      | none => rfl
      | some u =>
        obtain rfl : b = a := one b (by rw [z]; simp)
        rw [ha] at e
        cases e
        exact absurd d (by simp)
    have kb : K.In (hidT t.heap H) := by
      intro b o e
      refine hidT_get (KX b o e) ?_
      cases z : H b with
      | none => rfl
      | some u =>
        obtain rfl : b = a := one b (by rw [z]; simp)
        rw [out (by rw [z]; simp)] at e
        cases e
    have ng : (hidT t.heap H).Ns mainGlobals mg := hid_ns (no _) g1
    have md : Mod K mg (hidT t.heap H) := ⟨kb, ng, ⟨mb, hid_ns (no _) g2, g3⟩, g4.elim fun mc h => ⟨mc, hid_ns (no _) h.1, h.2⟩⟩
    have ev : Env0 P w K mg (hidT t.heap H) callerA [] t H :=
      ⟨rfl, md, fun b o e => of_hidT e, Nat.le_of_eq (hidT_size _ _), trivial, fun b z => (List.not_mem_nil z).elim, hok, .of_eq g5⟩
    refine codeAny_mono ((F _ kb ng).run callerA [] t H ⟨[.ref a], []⟩ [.ref a] [.ref a] _ _ rfl hr ev (hbi t (.ref a)) (.cons rfl .nil) (hsp H only hS)) fun r s' h => ?_
    match r, h with
    | .error e, h => exact (hCX H e s' h).elim
    | .ok .next, h => exact False.elim h
    | .ok .brk, h => exact False.elim h
    | .ok .cont, h => exact False.elim h
    | .ok (.ret u), h =>
      obtain ⟨v, H', os, bare, un, hok2, r2, q⟩ := h
      obtain rfl : v = .bl true := q
      obtain rfl : u = Value.bool true := r2
      refine ⟨rfl, OldK.of_keep fun b o e => ?_, os, bare⟩
      rcases only b with z | ⟨ob, xs, z⟩
      · exact un.keep b o e z (fun y => (List.not_mem_nil y).elim) (by simp)
      · have y1 := (hok b _ z).1
        have y2 := (hok2 b _ (un.frzs b ob _ z)).1
        rw [e] at y1
        cases y1
        exact y2
  cases hk : K.lookup a with
  | some o =>
    have e := KX a o hk
    rw [ha] at e
    cases e
    refine main (fun _ => none) (fun _ => .inl rfl) (.inr ⟨_, vs.toArray, _, hk, rfl, rfl, rfl, ?_, ?_⟩) (fun b u z => nomatch (show (none : Option HO) = some u from z)) (fun b z => absurd rfl z) fun z => absurd rfl z
    · rw [List.size_toArray, hi.length]
      exact hl
    · simpa using rv
  | none =>
    have at1 : (fun b => if b = a then some (HO.frz { cls := .type "list", data := .seq vs.toArray } (.lst (ns.map V.int))) else none : Hp) a = some (HO.frz { cls := .type "list", data := .seq vs.toArray } (.lst (ns.map V.int))) := if_pos rfl
    refine main (fun b => if b = a then some (.frz { cls := .type "list", data := .seq vs.toArray } (.lst (ns.map V.int))) else none) (fun b => ?_) (.inl (.inr ⟨_, at1⟩)) (fun b u z => ?_) (fun b z => ?_) fun _ => hk
    · by_cases e : b = a
      · exact .inr ⟨_, _, if_pos e⟩
      · exact .inl (if_neg e)
    · by_cases e : b = a
      · subst e
        have y := at1.symm.trans z
        cases y
        exact ⟨ha, by rw [List.length_map]; exact hl, vs, _, rv, ha⟩
      · exact nomatch ((if_neg e).symm.trans z)
    · by_cases e : b = a
      · exact e
      · exact absurd (if_neg e) z
theorem walk_ofG {l : PySem.W.OpenLaw} {n k : Nat} {q : Program} {loose : List Str} {XP : (Str → Option Value) → Heap → Prop} {YP : World → Heap → Prop} {d : DefRec} {K : Params → PySem.W.Frag} {CX : CXT} {sp : PySem.W.Frag → Sp} {x : Str}
    (hn : l.most = some n) (hn2 : n ≤ sizeLine) (hdf : d.params.defaults = []) (hr : Room k callerA) (hY : ∀ (w : World) (h : Heap), YP w h → (K w.params).In h)
    (F : ∀ (w : World) (mg : Str → Option Value) (fa : Addr) (h : Heap), (K w.params).In h → h.Ns mainGlobals mg → mg d.name = some (.ref fa) →
      ∃ fd : FuncData, (∀ (s : Shared) (u : Value), BindsTo s fd ⟨[u], []⟩ [(x, u)]) ∧
        ∀ bs : Heap, (K w.params).In bs → bs.Ns mainGlobals mg → FnG l.prog w (K w.params) mg bs CX k fa fd [x] (sp (K w.params)))
    (hsp : ∀ (K : PySem.W.Frag) (H : Hp) (a : Addr) (ns : List Int), ns.length ≤ n → SqL K H a (ns.map V.int) → sp K [.ref a] H (fun v _ => v = .bl true) fun _ _ _ => False)
    (hCX : ∀ (H : Hp) (s : Shared) (e : Value) (s' : Shared), CX [] H s (fun _ _ _ => False) e s' → False) :
    PySem.W.WalkO q loose XP YP l.row.toRowW d [] (fun f vs => PySem.call f vs) := by
  refine Att.attach_call hn hdf fun w s₀ t mg mb fa o pm cd doc a vs ns G Y ho hd hcd hmg hobj hints hlen hg => ?_
  have KX := hY w _ Y
  obtain ⟨fd, hb, hF⟩ := F w mg fa _ KX G.T.g hmg
  exact law_callG KX G.T.g G.T.b G.T.builtins G.T.nolimit hg hobj hints (Nat.le_trans hlen hn2) hr hF hb (fun H _ hS => hsp (K w.params) H a ns hlen hS) fun H e s' => hCX H t e s'
end Su
/-! ### B1: repr of data, t.index(n), a call by keywords alone, data that is small enough -/
namespace Su
open PySem PySem.Spec PyProof.Rows L2
/-- data of small numbers, of depth n at most, of weight m at most -/
structure Fine (d : PyData) (n m : Nat) : Prop where
  sh : d.showable = true
  nd : d.hasDict = false
  dp : d.depth ≤ n
  lv : d.leavesShort 13 = true
  wt : d.weight ≤ m
  cl : d.canLay0 = true
structure FineL (ds : List PyData) (n m : Nat) : Prop where
  sh : PyData.showableAll ds = true
  nd : PyData.hasDictAll ds = false
  dp : PyData.depthAll ds ≤ n
  lv : PyData.leavesShortAll 13 ds = true
  wt : PyData.weightAll ds ≤ m
  cl : PyData.canLayAll0 ds = true
theorem Fine.int {i : Int} (h1 : -1000000 ≤ i) (h2 : i ≤ 1000000) : Fine (.int i) 0 40 := by
  have hb : i.natAbs < 10 ^ 12 := by omega
  have e : i.natAbs < 2 ^ 20 := by omega
  have hl : i.natAbs.log2 < 39 := by
    by_cases z : i.natAbs = 0
    · rw [z]
      decide
    · exact (Nat.log2_lt z).mpr (by omega)
  refine ⟨?_, by simp [PyData.hasDict], by simp [PyData.depth], ?_, ?_, by first | rfl | simp [PyData.canLay0]⟩
  · simp only [PyData.showable, decide_eq_true_eq]
    omega
  · simp only [PyData.leavesShort, decide_eq_true_eq]
    exact PyData.shown_int_le hb
  · simp only [PyData.weight]
    split <;> omega
theorem Fine.bool (b : Bool) : Fine (.bool b) 0 0 := ⟨by simp [PyData.showable], by simp [PyData.hasDict], by simp [PyData.depth], by simp [PyData.leavesShort], by simp [PyData.weight], by first | rfl | simp [PyData.canLay0]⟩
theorem Fine.none : Fine .none 0 0 := ⟨by simp [PyData.showable], by simp [PyData.hasDict], by simp [PyData.depth], by simp [PyData.leavesShort], by simp [PyData.weight], by first | rfl | simp [PyData.canLay0]⟩
theorem FineL.nil {n : Nat} : FineL [] n 0 := ⟨by simp [PyData.showableAll], by simp [PyData.hasDictAll], by simp [PyData.depthAll], by simp [PyData.leavesShortAll], by simp [PyData.weightAll], by first | rfl | simp [PyData.canLayAll0]⟩
theorem FineL.cons {d : PyData} {ds : List PyData} {n m k : Nat} (h : Fine d n m) (t : FineL ds n k) : FineL (d :: ds) n (m + 1 + k) := by
  refine ⟨?_, ?_, ?_, ?_, ?_, ?_⟩
  · simp only [PyData.showableAll, h.sh, t.sh, Bool.and_self]
  · simp only [PyData.hasDictAll, h.nd, t.nd, Bool.or_self]
  · simp only [PyData.depthAll]
    have := h.dp
    have := t.dp
    omega
  · simp only [PyData.leavesShortAll, h.lv, t.lv, Bool.and_self]
  · simp only [PyData.weightAll]
    have := h.wt
    have := t.wt
    omega
  · simp only [PyData.canLayAll0, h.cl, t.cl, Bool.and_self]
theorem Fine.tuple {ds : List PyData} {n m : Nat} (t : FineL ds n m) : Fine (.tuple ds) (n + 1) m :=
  ⟨by simpa only [PyData.showable] using t.sh, by simpa only [PyData.hasDict] using t.nd, by simp only [PyData.depth]; have := t.dp; omega, by simpa only [PyData.leavesShort] using t.lv, by simpa only [PyData.weight] using t.wt, by simpa only [PyData.canLay0] using t.cl⟩
theorem Fine.list {ds : List PyData} {n m : Nat} (t : FineL ds n m) : Fine (.list ds) (n + 1) m :=
  ⟨by simpa only [PyData.showable] using t.sh, by simpa only [PyData.hasDict] using t.nd, by simp only [PyData.depth]; have := t.dp; omega, by simpa only [PyData.leavesShort] using t.lv, by simpa only [PyData.weight] using t.wt, by simpa only [PyData.canLay0] using t.cl⟩
theorem Fine.up {d : PyData} {n m n' m' : Nat} (h : Fine d n m) (a : n ≤ n') (b : m ≤ m') : Fine d n' m' := ⟨h.sh, h.nd, Nat.le_trans h.dp a, h.lv, Nat.le_trans h.wt b, h.cl⟩
theorem FineL.ints : ∀ ns : List Int, (∀ z ∈ ns, -1000000 ≤ z ∧ z ≤ 1000000) → FineL (ns.map PyData.int) 0 (41 * ns.length)
  | [], _ => FineL.nil
  | z :: ns, h => by
    have a := FineL.cons (Fine.int (h z List.mem_cons_self).1 (h z List.mem_cons_self).2) (FineL.ints ns fun y hy => h y (List.mem_cons_of_mem _ hy))
    have e : 40 + 1 + 41 * ns.length = 41 * (z :: ns).length := by
      rw [List.length_cons]
      omega
    rw [e] at a
    exact a
theorem Fine.len {d : PyData} {n m : Nat} (h : Fine d n m) (hm : m ≤ 1000000) : d.shown.length ≤ sizeLine := PyData.shown_fits (B := 13) (by decide) (by decide) h.lv (by have := h.wt; omega)
theorem Fine.shaped {d : PyData} {n m : Nat} (h : Fine d n m) (hn : n ≤ 64) : SeqAt.shaped d = true := by
  unfold SeqAt.shaped
  rw [h.cl, Bool.true_and, decide_eq_true_eq]
  exact Nat.le_trans h.dp hn
theorem Fine.eqv {d : PyData} {n m : Nat} (h : Fine d n m) : PyData.eqv d d = true := SeqAt.eqv_refl d h.cl
section
variable {X : Cx}
/-- repr(x), x a list or tuple of data -/
def rReprD (K : PySem.W.Frag) : List V → Hp → VK → Prop := fun xs H Q => ∃ (a : Addr) (d : PyData) (n m : Nat), xs = [.ref a] ∧ Dp K H (.ref a) d ∧ Fine d n m ∧ n ≤ 60 ∧ m ≤ 1000000 ∧ Q (.str d.shown) H
theorem call_reprD (hg : X.A.guards = some []) (hu : X.A.units + 64 < cLine) : CallR X (.builtin "repr") (rReprD X.K) := by
  intro pins s σ H xs us Q I r h
  obtain ⟨a, d, n, m, rfl, hd, hf, hn, hm, q⟩ := h
  rw [Vals.ref1 r]
  obtain ⟨as, rd⟩ := Dp.reads I d _ (.ref a) hd rfl
  refine repr_of_reads' rd hf.sh (PyData.noDict_hsm hf.nd) hg (by have := hf.dp; omega) (fun _ _ z => z) (fun h' u tk hk => ⟨.str d.shown, H, I.kept hk, ⟨u, rfl⟩, q⟩) (hf.len hm)
/-- t.index(n), t a tuple of ints that has n -/
def rTIndex (K : PySem.W.Frag) : V → List V → Hp → VK → Prop := fun x xs H Q => ∃ (p : Addr) (ns : List Int) (k : Int), x = .ref p ∧ xs = [.int k] ∧ SqT K H p (ns.map V.int) ∧ k ∈ ns ∧ Q (.int (ns.idxOf k : Nat)) H
theorem ints_of : ∀ {ns : List Int} {vs : List Value}, Vals (ns.map V.int) vs → IntsAre vs ns
  | [], _, r => by
    cases r
    exact .nil
  | n :: ns, _, r => by
    cases r with
    | cons r1 r2 =>
      obtain ⟨t, rfl⟩ := r1
      exact .cons _ _ (ints_of r2)
theorem mt_tindex : MtR X "tuple.index" (rTIndex X.K) := by
  intro pins s σ H x xs v us Q I rx rs h
  obtain ⟨p, ns, k, rfl, rfl, hq, hk, q⟩ := h
  cases rx
  obtain ⟨u, rfl, t, rfl⟩ := vals1 rs
  obtain ⟨its, r, pl, hz⟩ := I.tuple hq
  exact PySem.SeqAt.tuple_index_ints (l := p) (vs := its) pl (ints_of r) hk ⟨.int (ns.idxOf k : Nat), H, I.tok _, ⟨_, rfl⟩, q⟩
end
section
variable {X : Cx} {k j : Nat} {x : Str} {ps ks : List Str} {sp : Sp} {p pos : Pos} {kws : List Keyword} {tk : TA}
/-- a def that keeps a promise, called by keywords alone -/
structure KCal (P : Program) (w : World) (K : PySem.W.Frag) (mg : Str → Option Value) (base : Heap) (k : Nat) (x : Str) (ks : List Str) (gV : List V → List V → List V) (sp : Sp) : Prop where
  ex : ∃ (f : Addr) (fd : FuncData) (ps : List Str) (g : List Value → List Value → List Value), FnOk P w K mg base CX0 k f fd ps sp ∧ mg x = some (.ref f) ∧ PySem.W.keepIn K (.ref f) = true ∧ KBinds K fd ps ks g gV
variable {gV : List V → List V → List V}
def tKws (sp : Sp) (gV : List V → List V → List V) (tk : TA) : TE := fun σ H Q => tk σ H fun zs H2 => sp (gV [] zs) H2 Q E0
theorem pe_ownK (C : KCal X.prog X.w X.K X.mg X.base k x ks gV sp) (hr : Room j X.A) (hk : k ≤ j) (hg : Gl X x) (hkw : PK X kws tk)
    (hall : (backToKw pos (keywordEach kws X.env)).all (·.1.isSome) = true := by rfl) (hks : (backToKw pos (keywordEach kws X.env)).filterMap (·.1) = ks := by rfl) (hdb : (x == ("__debug__" : Str)) = false := by decide)
    (hpl : ((backTo pos (starEach [] X.env)).any (·.1) || (backToKw pos (keywordEach kws X.env)).any (·.1.isNone)) = false := by rfl) : PE X (.Call (.Name x p) [] kws pos) (tKws sp gV tk) := by
  obtain ⟨f, fd, ps, g, F, hm, kp, b⟩ := C.ex
  refine ⟨fun pins s σ H Q I h => ?_⟩
  refine wpAny_Call_Name_kw (ld_glob I hg hm ?_ hdb)
  refine PySem.W.callWith_KW0 (h₀ := X.base) I.ok.mod.kin kp hall (thn (hkw.run pos pins s σ H _ I h) fun ws s2 ⟨zs, H2, I2, rz, q2⟩ => ⟨I2.kIn, ?_⟩) hpl
  rw [hks]
  exact run_fnk F (hr.mono hk) b (fun _ _ _ _ _ _ _ z => z.elim) I2 .nil rz q2
end
end Su
/-! ### B2: tuples whose object is known to have no dict: their methods may be called -/
namespace Su
open PySem PySem.Spec PyProof.Rows L2
def PTup (H : Hp) (a : Addr) (xs : List V) : Prop := ∃ o : Obj, H a = some (.frz o (.tup xs)) ∧ o.dict = none
theorem PTup.sq {K : PySem.W.Frag} {H : Hp} {a : Addr} {xs : List V} (h : PTup H a xs) : SqT K H a xs := by
  obtain ⟨o, e, _⟩ := h
  exact .inl (.inr ⟨o, e⟩)
theorem PTup.same {H H' : Hp} {a : Addr} {xs : List V} (h : PTup H a xs) (s : Same H H') : PTup H' a xs := by
  obtain ⟨o, e, d⟩ := h
  exact ⟨o, s _ _ e, d⟩
theorem same_upd {H : Hp} {p : Addr} {o : HO} (h : H p = none) : Same H (upd H p o) := fun b x e => by
  rw [upd_ne (ne_of_none e h)]
  exact e
section
variable {X : Cx} {pins : List (Addr × Obj)} {σ : L2.St} {H : Hp} {s : Shared}
/-- a new tuple's object -/
abbrev tupO (its : List Value) : Obj := { cls := .type "tuple", data := .seq its.toArray }
theorem laidF {xs : List V} {its : List Value} (I : Inv X pins σ H s) (r : Vals xs its) (hz : xs.length ≤ sizeLine) (t' : Tok) :
    Inv X pins σ (upd H s.heap.objs.size (.frz (tupO its) (.tup xs))) { s with heap := s.heap.push (tupO its), toks := t' } := by
  refine I.laid (t' := t') (o := .frz (tupO its) (.tup xs)) (fun b ob q => Heap.get?_push_of_some _ q) (Nat.le_refl _) ?_
  exact ⟨Heap.get?_push_size _ rfl, hz, its, r, IsTup.new _ _⟩
theorem newF {xs : List V} {its : List Value} {Q : VK} (I : Inv X pins σ H s) (r : Vals xs its) (hz : xs.length ≤ sizeLine) (q : ∀ v H', Same H H' → H v = none → PTup H' v xs → Q (.ref v) H') (t' : Tok) :
    EP X pins σ Q (.ref s.heap.objs.size) { s with heap := s.heap.push (tupO its), toks := t' } :=
  have hf : H s.heap.objs.size = none := I.hok.fresh (Nat.le_refl _)
  ⟨.ref s.heap.objs.size, _, laidF I r hz t', rfl, q _ _ (same_upd hf) hf ⟨_, upd_same, rfl⟩⟩
end
section
variable {X : Cx} {es : List Expr} {t : TA} {pos : Pos}
def tTupF (t : TA) : TE := fun σ H Q => t σ H fun xs H1 => xs.length ≤ sizeLine ∧ ∀ v H', Same H1 H' → H1 v = none → PTup H' v xs → Q (.ref v) H'
theorem pe_tupF {x1} (h : PA X es t) : PE X (.Tuple es x1 pos) (tTupF t) := by
  refine ⟨fun pins s σ H Q I hq => ?_⟩
  refine wpAny_Tuple_spliced (thn (h.run pos pins s σ H _ I hq) fun us s1 ⟨xs, H1, I1, r, z, q⟩ => ⟨by rw [← r.length]; exact z, ?_⟩)
  exact newF I1 r z q s1.toks
def rTupL (K : PySem.W.Frag) : List V → Hp → VK → Prop := fun xs H Q => ∃ p ys, xs = [.ref p] ∧ SqL K H p ys ∧ ∀ v H', Same H H' → H v = none → PTup H' v ys → Q (.ref v) H'
theorem call_tupleF : CallR X (.type "tuple") (rTupL X.K) := by
  intro pins s σ H xs us Q I r h
  obtain ⟨p, ys, rfl, hq, q⟩ := h
  obtain ⟨u, rfl, rx⟩ := vals1 r
  cases rx
  obtain ⟨its, r', pl, hz⟩ := I.list hq
  have hlen := r'.length
  refine call_tuple_list pl.isList (fun h' kp => ?_) (by simp only [List.size_toArray] <;> omega)
  exact newF (s := { s with heap := h' }) (I.kept (t' := s.toks) kp) r' hz q s.toks
def rCatF : R2 := fun x y H Q => ∃ a b xs ys, x = .ref a ∧ y = .ref b ∧ PTup H a xs ∧ PTup H b ys ∧ xs.length + ys.length ≤ sizeLine ∧ ∀ v H', Same H H' → PTup H' v (xs ++ ys) → Q (.ref v) H'
theorem op_catF : OpR X (binaryOp .Add) rCatF := by
  intro pins s σ H x y v u Q I rx ry h
  obtain ⟨a, b, xs, ys, rfl, rfl, ha, hb, hz, q⟩ := h
  cases rx
  cases ry
  obtain ⟨its, r1, p1, _⟩ := I.tuple (ha.sq (K := X.K))
  obtain ⟨its2, r2, p2, _⟩ := I.tuple (hb.sq (K := X.K))
  by_cases hx : xs = []
  · subst hx
    cases r1
    exact cat_tup0 p1 p2 ⟨.ref b, H, I, rfl, q b H (Same.refl H) hb⟩
  · refine HT.cat_tup p1 p2 (fun z => hx (r1.nil_iff.mp z)) (fun z => ⟨.ref a, H, I, rfl, q a H (Same.refl H) ?_⟩) (fun z => ?_) (by rw [← r1.length, ← r2.length]; exact hz)
    · rw [r2.nil_iff.mp z, List.append_nil]
      exact ha
    · exact newF I (r1.append r2) (by rw [List.length_append]; exact hz) (fun v H' s' _ h => q v H' s' h) s.toks
def rSlF : V → Option Int → Option Int → Hp → VK → Prop := fun x lo hi H Q => ∃ a xs, x = .ref a ∧ PTup H a xs ∧ ∀ v H', Same H H' → PTup H' v (cutV xs lo hi) → Q (.ref v) H'
theorem sl_tupF : SlR X rSlF := by
  intro pins s σ H x v vl vu lo hi sl Q I rx hs pl pu h
  obtain ⟨a, xs, rfl, hx, q⟩ := h
  cases rx
  obtain ⟨its, r, ht, hz⟩ := I.tuple (hx.sq (K := X.K))
  have hlen : its.toArray.size = xs.length := by rw [List.size_toArray]; exact r.length.symm
  refine ⟨"tuple", _, PyProof.Rows.slot_tuple_getitem.lookup, ht.typeIs, ?_⟩
  by_cases hw : HT.sIx xs.length 0 lo = 0 ∧ HT.sIx xs.length xs.length hi = xs.length
  · refine getItem_tuple_whole ht hs pl pu (by rw [hlen]; exact hw) ⟨.ref a, H, I, rfl, q a H (Same.refl H) ?_⟩
    have z : cutV xs lo hi = xs := by
      unfold cutV
      rw [hw.1, hw.2, Nat.sub_zero, List.drop_zero, List.take_length]
    rw [z]
    exact hx
  · refine HT.getItem_tuple_cut ht hs pl pu (by rw [hlen]; exact hw) ?_ (by rw [hlen]; exact hz)
    rw [hlen]
    exact newF I ((r.drop (HT.sIx xs.length 0 lo)).take (HT.sIx xs.length xs.length hi - HT.sIx xs.length 0 lo)) (Nat.le_trans (cutV_length xs lo hi) hz) (fun v H' s' _ h => q v H' s' h) s.toks
/-- t.m(e, ..), t such a tuple -/
def tMT (r : V → List V → Hp → VK → Prop) (to : TE) (t : TA) : TE := fun σ H Q => to σ H fun x H1 => (∃ a xs, x = .ref a ∧ PTup H1 a xs) ∧ t σ H1 fun xs H2 => r x xs H2 Q
variable {o e : Expr} {to : TE} {name : Str} {apos cpos : Pos} {id : String} {r : V → List V → Hp → VK → Prop}
theorem pe_mT (slot : Slot "tuple" name id) (hty : typeOf (.builtin id) = pure (.type "method_descriptor")) (hm : MtR X id r) (ho : PE X o to) (ha : PA X (e :: es) t)
    (hbase : attributeBase o name X.env (eval o X.env) = eval o X.env := by rfl)
    (hfew : ((backTo cpos (starEach (e :: es) X.env)).all (fun x => !x.1) && (backToKw cpos (keywordEach [] X.env)).all (fun x => x.1.isSome) && decide ((e :: es).length + ([] : List Keyword).length + (if ([] : List Keyword).isEmpty then 0 else 1) < 30)) = true := by rfl)
    (hline : (apos.endLine == cpos.line) = true := by rfl) (hs : starEach (e :: es) X.env = (false, eval e X.env) :: starEach es X.env := by rfl) (hplain : (backTo cpos (starEach es X.env)).any (·.1) = false := by rfl) :
    PE X (.Call (.Attribute o name apos) (e :: es) [] cpos) (tMT r to t) := by
  refine ⟨fun pins s σ H Q I h => ?_⟩
  refine wpAny_Call_method_late hbase hfew hline rfl (thn (ho.run pins s σ H _ I h) fun v s1 ⟨x, H1, I1, r1, ⟨a, xs, ex, pt⟩, q1⟩ => ?_)
  subst ex
  cases r1
  obtain ⟨its, rv, tp, _⟩ := I1.tuple (pt.sq (K := X.K))
  obtain ⟨ob, eo, ed⟩ := pt
  have g1 := (I1.hok a _ eo).1
  refine ⟨"tuple", id, PySem.F.plainAttrs_tuple, slot, hty, tp.typeIs, fun b eb => ?_, ?_⟩
  · cases eb
    exact ⟨ob, g1, ed⟩
  have hA := ha.run cpos pins s1 σ H1 _ I1 q1
  rw [hs] at hA ⊢
  refine Calls.callWith_builtin (by show (false || (backTo cpos (starEach es X.env)).any (·.1)) = false; rw [hplain] <;> rfl) (Calls.evalArgs_plain ?_)
  exact thn hA fun us s2 ⟨vs, H2, I2, r2, q2⟩ => hm pins s2 σ H2 (.ref a) vs _ us Q I2 rfl r2 q2
end
end Su
/-! ### SC: a set of ints by a comprehension with two clauses -/
namespace Su
open PySem PySem.Spec PyProof.Rows L2
abbrev sc2 (e a b c d : Expr) (sp : Scope) (po : Pos) : Expr := .SetComp e [⟨a, b, [], 0⟩, ⟨c, d, [], 0⟩] sp po
section
variable {prog : Program} {w : World} {A : Around} {R : Result → Shared → Prop} {s : Shared} {e a b c d : Expr} {sp : Scope} {po : Pos} {it acc : Value} {env : Env}
theorem sc2_out : compTurn (sc2 e a b c d sp po) 0 it acc env = (do
      standAt b.pos
      match ← pyNext it with
      | none => pure (.done .next)
      | some v =>
        letOwnedTupleGo a it v
        assign a env v
        let x ← eval d env
        standAt d.pos
        let y ← foldedSetIterable d env x
        let _ ← runOwn (.compStart (sc2 e a b c d sp po) 1 (← holding [y] (pyIter y)) acc env) env
        again (.compLoop (sc2 e a b c d sp po) 0 it acc env)) := by rfl
theorem sc2_in : compTurn (sc2 e a b c d sp po) 1 it acc env = (do
      standAt d.pos
      match ← pyNext it with
      | none => pure (.done .next)
      | some v =>
        letOwnedTupleGo c it v
        assign c env v
        (do let x ← eval e env; standAt e.pos; let _ ← call (.builtin "set.add") [acc, x])
        again (.compLoop (sc2 e a b c d sp po) 1 it acc env)) := by rfl
/-- the tail of a turn that raises: the frame is noted -/
abbrev nb (prog : Program) (w : World) (A : Around) (env : Env) (R : Result → Shared → Prop) : Value → Shared → Prop := notedBy (model prog w) A env fun x u => R (.error x) u
theorem sc2_loop0 (hf : ∀ x, foldedSetIterable d env x = pure x) (J : Nat → Shared → Prop)
    (one : ∀ n u, J n u → wpAny (model prog w) A (pyNext it) (fun r u1 => match r with
      | none => R (.ok .next) u1
      | some v => wpAny (model prog w) A (letOwnedTupleGo a it v) (fun _ u2 => wpAny (model prog w) A (assign a env v) (fun _ u3 =>
          wpAny (model prog w) A (eval d env) (fun x u4 => wpAny (model prog w) A (pyIter x) (fun jt u5 =>
            codeAny (model prog w) A (.compStart (sc2 e a b c d sp po) 1 jt acc env) (fun r u6 => match r with
              | .ok _ => ∃ m, m < n ∧ J m u6
              | .error _ => False) u5) (nb prog w A env R) u4) (nb prog w A env R) u3) (nb prog w A env R) u2) (nb prog w A env R) u1) (nb prog w A env R) u)
    (n : Nat) (h : J n s) : codeAny (model prog w) A (.compLoop (sc2 e a b c d sp po) 0 it acc env) R s := by
  refine codeAny_loop rfl J (fun n u hJ => ?_) n h
  show wpAny _ A ((compTurn (sc2 e a b c d sp po) 0 it acc env).onRaise (fun x => do noteFrame x env; theTreesLotGoes x)) _ _ u
  refine wpAny_noted ?_
  rw [sc2_out]
  refine wpAny_bind (wpAny_standAt (wpAny_bind (wpAny_mono (one n u hJ) (fun r u1 h1 => ?_) fun _ _ k => k)))
  cases r with
  | none => exact wpAny_pure h1
  | some v =>
    refine wpAny_bind (wpAny_mono h1 (fun _ u2 h2 => wpAny_bind (wpAny_mono h2 (fun _ u3 h3 => ?_) fun _ _ k => k)) fun _ _ k => k)
    refine wpAny_bind (wpAny_mono h3 (fun x u4 h4 => ?_) fun _ _ k => k)
    refine wpAny_bind (wpAny_standAt (wpAny_bind (wpAny_of_eq (hf x) (wpAny_bind (wpAny_holding (wpAny_mono h4 (fun jt u5 h5 => ?_) fun _ _ k => k))))))
    refine wpAny_bind (wpAny_runOwn ?_)
    rw [Around.mark_none]
    refine codeAny_mono h5 fun r u6 hr => ?_
    cases r with
    | error x => exact hr.elim
    | ok f =>
      first
        | exact wpAny_pure ⟨rfl, hr⟩
        | exact wpAny_bind (wpAny_pure (wpAny_pure ⟨rfl, hr⟩))
theorem sc2_loop1 (J : Nat → Shared → Prop)
    (one : ∀ n u, J n u → wpAny (model prog w) A (pyNext it) (fun r u1 => match r with
      | none => R (.ok .next) u1
      | some v => wpAny (model prog w) A (letOwnedTupleGo c it v) (fun _ u2 => wpAny (model prog w) A (assign c env v) (fun _ u3 =>
          wpAny (model prog w) A (eval e env) (fun x u4 => wpAny (model prog w) A (call (.builtin "set.add") [acc, x]) (fun _ u5 => ∃ m, m < n ∧ J m u5) (nb prog w A env R) u4) (nb prog w A env R) u3)
            (nb prog w A env R) u2) (nb prog w A env R) u1) (nb prog w A env R) u)
    (n : Nat) (h : J n s) : codeAny (model prog w) A (.compLoop (sc2 e a b c d sp po) 1 it acc env) R s := by
  refine codeAny_loop rfl J (fun n u hJ => ?_) n h
  show wpAny _ A ((compTurn (sc2 e a b c d sp po) 1 it acc env).onRaise (fun x => do noteFrame x env; theTreesLotGoes x)) _ _ u
  refine wpAny_noted ?_
  rw [sc2_in]
  refine wpAny_bind (wpAny_standAt (wpAny_bind (wpAny_mono (one n u hJ) (fun r u1 h1 => ?_) fun _ _ k => k)))
  cases r with
  | none => exact wpAny_pure h1
  | some v =>
    refine wpAny_bind (wpAny_mono h1 (fun _ u2 h2 => wpAny_bind (wpAny_mono h2 (fun _ u3 h3 => ?_) fun _ _ k => k)) fun _ _ k => k)
    refine wpAny_bind (wpAny_bind (wpAny_mono h3 (fun x u4 h4 => wpAny_bind (wpAny_standAt (wpAny_bind (wpAny_mono h4 (fun _ u5 h5 => ?_) fun _ _ k => k)))) fun _ _ k => k))
    first
      | exact wpAny_pure (wpAny_pure ⟨rfl, h5⟩)
      | exact wpAny_pure ⟨rfl, h5⟩
theorem sc2_begin (h0 : codeAny (model prog w) A (.compLoop (sc2 e a b c d sp po) 1 it acc env) R s)
    (h : wpAny (model prog w) A (pyIter it) (fun jt u => codeAny (model prog w) A (.compLoop (sc2 e a b c d sp po) 1 jt acc env) R u) (nb prog w A env R) s) :
    codeAny (model prog w) A (.compStart (sc2 e a b c d sp po) 1 it acc env) R s := by
  refine codeAny_of_tree ?_
  show wpAny _ _ ((compStart (sc2 e a b c d sp po) 1 it acc env).onRaise (fun x => do noteFrame x env; standAt theWindowsPlace)) _ _ s
  refine wpAny_notedAt ?_
  unfold compStart
  show wpAny _ _ (ask >>= _) _ _ s
  refine wpAny_bind (wpAny_askSetting (wpAny_ite ?_))
  split
  · first
      | exact wpAny_pure ⟨rfl, h0⟩
      | exact wpAny_bind (wpAny_pure (wpAny_pure ⟨rfl, h0⟩))
  · refine wpAny_bind (wpAny_rule ?_)
    show wpAny _ _ (standAt d.pos >>= _) _ _ s
    exact wpAny_bind (wpAny_standAt (wpAny_bind (wpAny_mono h (fun jt u k => wpAny_pure ⟨rfl, k⟩) fun _ _ k => k)))
end
end Su
namespace Su
open PySem PySem.Spec PyProof.Rows L2
section
variable {X : Cx}
/-- what the comprehension asks: the outer walk, in each of its turns the inner one, and each int put into the set -/
def tSC (w : World) (wo : TI) (go : TG) (wn : TI) (gn : TG) (te : TE) (vs vs1 : List Nat) : TE := fun σ H Q => wo σ H fun J H1 => ∀ D, H1 D = none →
  ∃ W : Nat → Nat → Hp → Prop, (∃ m, W 0 m (upd H1 D (SetO w D (fun _ => false) 0))) ∧ ∀ i m H, W i m H →
    (J.stop i H ∧ Q (.ref D) H) ∨
    (J.go i H ∧ ∃ Nx : Hp → Prop, (∀ H', Nx H' → ∃ m', m' < m ∧ W (i + 1) m' H') ∧ ∀ x H', J.yld i H x H' → go x (wipe σ vs) H' fun σ2 H2 => wipe σ2 vs = wipe σ vs ∧
      wn σ2 H2 fun L H3 => ∃ U : Nat → Nat → Hp → Prop, (∃ m, U 0 m H3) ∧ ∀ j k H, U j k H →
        (L.stop j H ∧ Nx H) ∨
        (L.go j H ∧ ∃ Ny : Hp → Prop, (∀ H', Ny H' → ∃ k', k' < k ∧ U (j + 1) k' H') ∧ ∀ y H', L.yld j H y H' → gn y (wipe σ2 vs1) H' fun σ3 H4 => wipe σ3 vs1 = wipe σ2 vs1 ∧
          te σ3 H4 fun z H5 => ∃ (c : Int) (S : Int → Bool) (n : Nat), z = .int c ∧ H5 D = some (SetO w D S n) ∧ n + 1 < scanBound ∧
            Ny (upd H5 D (SetO w D (fun j => S j || decide (j = c)) (if S c = true then n else n + 1)))))
abbrev setE (w : World) : Obj := { cls := .type "set", dict := none, data := .set #[] 0 (.fresh 0 0 (!w.params.followText "set-order")) }
theorem put_int {pins : List (Addr × Obj)} {σ : L2.St} {H : Hp} {s : Shared} {E : Value → Shared → Prop} {D : Addr} {S : Int → Bool} {n : Nat} {k : Int} {v : Value} {Q : Value → Shared → Prop}
    (I : Inv X pins σ H s) (hD : H D = some (SetO X.w D S n)) (few : n + 1 < scanBound) (r : RelV (.int k) v)
    (h : ∀ t, Inv X pins σ (upd H D (SetO X.w D (fun j => S j || decide (j = k)) (if S k = true then n else n + 1))) t → Q .none t) :
    wpAny (model X.prog X.w) X.A (call (.builtin "set.add") [.ref D, v]) Q E s := by
  obtain ⟨tk, rfl⟩ := r
  refine setR_add (setO_get I hD) few fun g sb new => ?_
  have there : ∃ u, g.get? D = some u := by
    have ⟨o, _, _, _, ho, _⟩ := new
    exact ⟨o, ho⟩
  refine h _ (I.write (e := D) (t' := s.toks + 1) (by rw [hD]; trivial) (.inl rfl) (fun b u hb hu => ?_) there (setO_new new))
  exact (sb.2 b hb).trans hu
theorem pe_sc2 {e a b c d : Expr} {sp : Scope} {own : List (Str × Nat)} {vs1 : List Nat} {pos : Pos} {wo wn : TI} {go gn : TG} {te : TE} (hc : X.calm = true) (hN : X.N.Nodup) (pio : PI X a b wo)
    (ok : BlkOk X.N X.env.scope sp own) (hv : ∀ i ∈ vs1, i ∈ own.map (·.2))
    (pgo : ∀ (s : Shared) (H : Hp) (C : Addr) (cl : List (Str × Addr)) (fp : List Addr), PG (X.blk s H sp (compEnvC sp cl C X.env) fp) a go)
    (pin : ∀ (s : Shared) (H : Hp) (C : Addr) (cl : List (Str × Addr)) (fp : List Addr), PI (X.blk s H sp (compEnvC sp cl C X.env) fp) c d wn)
    (pgn : ∀ (s : Shared) (H : Hp) (C : Addr) (cl : List (Str × Addr)) (fp : List Addr), PG (X.blk s H sp (compEnvC sp cl C X.env) fp) c gn)
    (pe : ∀ (s : Shared) (H : Hp) (C : Addr) (cl : List (Str × Addr)) (fp : List Addr), PE (X.blk s H sp (compEnvC sp cl C X.env) fp) e te)
    (fo : ∀ x, foldedSetIterable b X.env x = pure x := by intro _; rfl) (fn : ∀ env x, foldedSetIterable d env x = pure x := by intro _ _; rfl) :
    PE X (sc2 e a b c d sp pos) (tSC X.w wo go wn gn te (own.map (·.2)) vs1) := by
  refine ⟨fun pins s σ H Q I hq => ?_⟩
  rw [PpSet.eval_SetComp]
  have cl0 : ∀ y ∈ sp.names, y.2 = .free → ∃ k, X.env.cells.lookup y.1 = some k := by
    intro y hy z
    rcases ok.free y hy z with k | k
    · exact I.ok.has _ (.inl k)
    · exact I.ok.has _ (.inr k)
  refine wpAny_comprehension_free (use := none) rfl fo (closure_ok cl0) ok.kind (fun y hy z => by rw [ok.uniq y hy, z]) ?_
  refine thn (pio.run pins s σ H _ I hq) fun xv s1 hx => thn hx fun iv s2 h2 => ?_
  obtain ⟨it, fa, tn, J, Hb, rfl, Ib, T, stb, fb, q⟩ := h2
  refine PpSet.newSet_ok (newEnv_comp ?_)
  generalize eD : s2.heap.objs.size = D
  obtain ⟨W, ⟨m0, w0⟩, turn⟩ := q D (Ib.hok.fresh (Nat.le_of_eq eD))
  generalize e3 : ({ s2 with heap := s2.heap.push (setE X.w) } : Shared) = s3
  have hp3 : s3.heap = s2.heap.push (setE X.w) := by rw [← e3]
  have Ic : Inv X pins σ (upd Hb D (SetO X.w D (fun _ => false) 0)) s3 := by
    rw [← e3]
    refine Ib.laid (t' := s2.toks) (fun _ _ z => Heap.get?_push_of_some _ z) (Nat.le_of_eq eD) ?_
    rw [← eD]
    exact setO_new (setR_fresh X.w)
  have small : ∀ x ∈ fa, x < s2.heap.objs.size := by
    intro x hx
    obtain ⟨o, z, _⟩ := T.obj _ _ stb x hx
    exact Heap.lt_size z
  have fc : ∀ x ∈ fa, FpOk X pins (upd Hb D (SetO X.w D (fun _ => false) 0)) x ∧ x < s3.heap.objs.size := by
    intro x hx
    have lt := small x hx
    constructor
    · refine ⟨?_, (fb x hx).2⟩
      rw [upd_ne (by rw [← eD]; exact Nat.ne_of_lt lt)]
      exact (fb x hx).1
    · rw [hp3, Heap.size_push]
      exact Nat.lt_succ_of_lt lt
  have stc : tn 0 s3.heap := T.keep _ _ _ stb fun _ _ _ z => by
    rw [hp3]
    exact Heap.get?_push_of_some _ z
  have Id := block_start Ic ok hN fc
  have qgo := pgo s3 (upd Hb D (SetO X.w D (fun _ => false) 0)) s3.heap.objs.size (cellsFrom (s3.heap.objs.size + 1) sp.names (cloFrom X.env.cells sp.names [])) fa
  have qin := pin s3 (upd Hb D (SetO X.w D (fun _ => false) 0)) s3.heap.objs.size (cellsFrom (s3.heap.objs.size + 1) sp.names (cloFrom X.env.cells sp.names [])) fa
  have qgn := pgn s3 (upd Hb D (SetO X.w D (fun _ => false) 0)) s3.heap.objs.size (cellsFrom (s3.heap.objs.size + 1) sp.names (cloFrom X.env.cells sp.names [])) fa
  have qe := pe s3 (upd Hb D (SetO X.w D (fun _ => false) 0)) s3.heap.objs.size (cellsFrom (s3.heap.objs.size + 1) sp.names (cloFrom X.env.cells sp.names [])) fa
  have nofa : ∀ x ∈ fa, (upd Hb D (SetO X.w D (fun _ => false) 0)) x = none := fun x hx => (fc x hx).1.1
  show codeAny _ _ (.compStart (sc2 e a b c d sp pos) 0 (.ref it) (.ref D) (compEnvC sp (cellsFrom (s3.heap.objs.size + 1) sp.names (cloFrom X.env.cells sp.names [])) s3.heap.objs.size X.env)) _ { s3 with heap := pushCells (s3.heap.push { cls := .type "dict", data := .dict #[] }) sp.names }
  generalize eE : compEnvC sp (cellsFrom (s3.heap.objs.size + 1) sp.names (cloFrom X.env.cells sp.names [])) s3.heap.objs.size X.env = en at Id qgo qin qgn qe ⊢
  have locE : en.locals = s3.heap.objs.size := by
    subst eE
    rfl
  generalize eH : upd Hb D (SetO X.w D (fun _ => false) 0) = Hc at Ic Id qgo qin qgn qe w0 nofa fc
  generalize e4 : ({ s3 with heap := pushCells (s3.heap.push { cls := .type "dict", data := .dict #[] }) sp.names } : Shared) = s4 at Id ⊢
  have std : tn 0 s4.heap := T.keep _ _ _ stc fun _ _ _ z => by
    rw [← e4]
    exact pushCells_keeps _ _ _ _ (Heap.get?_push_of_some _ z)
  have foot : ∀ {τ : L2.St} {G : Hp} {t : Shared}, Inv (X.blk s3 Hc sp en fa) [] τ G t → (∀ x ∈ fa, G x = none) → ∀ x ∈ fa, FpOk (X.blk s3 Hc sp en fa) [] G x := by
    intro τ G t It hn x hx
    refine ⟨hn x hx, (It.ok.exf x hx).1, It.ok.exfs x hx, .inl hx, fun y k z => (It.ok.exf x hx).2 y k z, fun p hp => ?_⟩
    exact absurd (show p ∈ ([] : List (Addr × Obj)) ++ [] from hp) (by simp)
  have main : codeAny (model X.prog X.w) X.A (.compLoop (sc2 e a b c d sp pos) 0 (.ref it) (.ref D) en) (compPost (model X.prog X.w) X.A X.xe none (fun u t => EP X pins σ Q u t) (.ref D) s3.heap.objs.size) s4 := by
    refine sc2_loop0 (fn en) (fun n t => ∃ i G, Inv (X.blk s3 Hc sp en fa) [] (wipe σ (own.map (·.2))) G t ∧ tn i t.heap ∧ (∀ x ∈ fa, G x = none) ∧ W i n G) ?_ m0 ⟨0, Hc, Id, std, nofa, w0⟩
    rintro n s5 ⟨i, H5, I5, st5, n5, w5⟩
    rcases turn i n H5 w5 with ⟨stop, qq⟩ | ⟨hgo, Nx, hNx, step⟩
    · refine thnF (T.done (X.blk s3 Hc sp en fa) rfl rfl rfl hc i [] s5 _ H5 (fun _ _ => False) I5 (foot I5 n5) st5 stop) fun r s6 ⟨hr, I6⟩ => ?_
      subst hr
      have I7 : Inv X pins σ H5 s6 := by
        refine Ic.call' (ch := fa) I6.os I6.base I6.hok I6.bare fun x hx => ?_
        have z := (fc x hx).1.2
        exact ⟨z.2.2.1, z.1, z.2.2.2.1, z.2.2.2.2⟩
      have nl : H5 s3.heap.objs.size = none := by
        have z : H5 en.locals = none := I6.free
        rwa [locE] at z
      obtain ⟨m, hn, _⟩ := I6.loc
      have hn2 : s6.heap.Ns en.locals m := hn
      rw [locE] at hn2
      obtain ⟨f0, f1, f2, f3, f4, f5⟩ := Ic.fpOk (Nat.le_refl _) nl
      refine ⟨m, hn2, fun g sb => ?_⟩
      exact ⟨.ref D, H5, I7.turned (t' := s6.toks) (fun y o hy z => (sb.2 y hy).trans z) f0 f1 f3 f4 f5, rfl, qq⟩
    · refine thnF (T.item (X.blk s3 Hc sp en fa) rfl rfl rfl hc i [] s5 _ H5 (fun _ _ => False) I5 (foot I5 n5) st5 hgo) fun r s6 ⟨u, hr, h6⟩ => ?_
      subst hr
      refine thnF h6 fun _ s7 ⟨x, H7, I7, r7, y7, st7, n7⟩ => ?_
      refine thnF (qgo.run _ s7 _ H7 x u _ (I7.pinned (foot I7 n7) (T.obj _ _ st7)) r7 (step x H7 y7)) fun _ s8 ⟨σ8, H8, I8, hw8, q8⟩ => ?_
      have shut : ∀ {τ : L2.St} {t : Shared} {G : Hp}, Inv (X.blk s3 Hc sp en fa) ([] ++ pinsAt fa s7.heap) τ G t → (wipe σ (own.map (·.2))).length = τ.length →
          (∀ (j : Nat) v, (wipe σ (own.map (·.2)))[j]? = some (some v) → τ[j]? = some (some v)) → Nx G →
          ∃ m, m < n ∧ ∃ i G, Inv (X.blk s3 Hc sp en fa) [] (wipe σ (own.map (·.2))) G t ∧ tn i t.heap ∧ (∀ x ∈ fa, G x = none) ∧ W i m G := by
        intro τ t G It hl hk nx
        obtain ⟨m', lt, w'⟩ := hNx G nx
        have held : ∀ y ∈ fa, ∀ o, s7.heap.get? y = some o → t.heap.get? y = some o ∧ G y = none := by
          intro y hy o z
          have k := It.pin (y, o) (List.mem_append_right _ (List.mem_append_right _ (mem_pinsAt hy z)))
          exact ⟨k.1, k.2.1⟩
        refine ⟨m', lt, i + 1, G, (It.unpinned (pins := [])).weak hl hk, T.keep _ _ _ st7 fun y hy o z => (held y hy o z).1, fun y hy => ?_, w'⟩
        obtain ⟨o, z, _⟩ := T.obj _ _ st7 y hy
        exact (held y hy o z).2
      have len8 : (wipe σ (own.map (·.2))).length = σ8.length := by
        rw [← hw8, wipe_length]
      have keep8 : ∀ (j : Nat) v, (wipe σ (own.map (·.2)))[j]? = some (some v) → (wipe σ8 vs1)[j]? = some (some v) := by
        intro j v z
        rw [← hw8] at z
        obtain ⟨z1, z2⟩ := wipe_some z
        rw [wipe_out fun k => z2 (hv j k)]
        exact z1
      refine thnF (qin.run _ s8 σ8 H8 _ I8 q8) fun xv s9 hx => thnF hx fun iw s10 h10 => ?_
      obtain ⟨jt, fi, tm, L, H10, rfl, I10, T1, st10, f10, U, ⟨m1, u1⟩, turn1⟩ := h10
      have foot1 : ∀ {G : Hp}, (∀ y ∈ fi, G y = none) → ∀ y ∈ fi, FpOk (X.blk s3 Hc sp en fa) ([] ++ pinsAt fa s7.heap) G y := fun hn y hy => ⟨hn y hy, (f10 y hy).2⟩
      have inner : codeAny (model X.prog X.w) X.A (.compLoop (sc2 e a b c d sp pos) 1 (.ref jt) (.ref D) en)
          (fun r t => match r with
            | .ok _ => ∃ m, m < n ∧ ∃ i G, Inv (X.blk s3 Hc sp en fa) [] (wipe σ (own.map (·.2))) G t ∧ tn i t.heap ∧ (∀ x ∈ fa, G x = none) ∧ W i m G
            | .error _ => False) s10 := by
        refine sc2_loop1 (fun k t => ∃ j G, Inv (X.blk s3 Hc sp en fa) ([] ++ pinsAt fa s7.heap) (wipe σ8 vs1) G t ∧ tm j t.heap ∧ (∀ y ∈ fi, G y = none) ∧ U j k G) ?_ m1
          ⟨0, H10, I10.weak (wipe_length _ _) (fun j v z => (wipe_some z).1), st10, fun y hy => (f10 y hy).1, u1⟩
        rintro k s11 ⟨j, H11, I11, st11, n11, w11⟩
        rcases turn1 j k H11 w11 with ⟨stop1, nx1⟩ | ⟨go1, Ny, hNy, step1⟩
        · refine thnF (T1.done (X.blk s3 Hc sp en fa) rfl rfl rfl hc j _ s11 (wipe σ8 vs1) H11 (fun _ _ => False) I11 (foot1 n11) st11 stop1) fun r s12 ⟨hr, I12⟩ => ?_
          subst hr
          exact shut I12 (len8.trans (wipe_length σ8 vs1).symm) keep8 nx1
        · refine thnF (T1.item (X.blk s3 Hc sp en fa) rfl rfl rfl hc j _ s11 (wipe σ8 vs1) H11 (fun _ _ => False) I11 (foot1 n11) st11 go1) fun r s12 ⟨v1, hr, h12⟩ => ?_
          subst hr
          refine thnF h12 fun _ s13 ⟨x1, H13, I13, r13, y13, st13, n13⟩ => ?_
          refine thnF (qgn.run _ s13 (wipe σ8 vs1) H13 x1 v1 _ (I13.pinned (foot1 n13) (T1.obj _ _ st13)) r13 (step1 x1 H13 y13)) fun _ s14 ⟨σ14, H14, I14, hw14, q14⟩ => ?_
          refine thnF (qe.run _ s14 σ14 H14 _ I14 q14) fun z s15 ⟨yv, H15, I15, r15, cc, S, nn, ey, hD15, few, nx⟩ => ?_
          subst ey
          refine put_int (X := X.blk s3 Hc sp en fa) I15 hD15 few r15 fun s16 I16 => ?_
          obtain ⟨m', lt, w'⟩ := hNy _ nx
          have held : ∀ y ∈ fi, ∀ o, s13.heap.get? y = some o → s16.heap.get? y = some o ∧ (upd H15 D (SetO X.w D (fun j => S j || decide (j = cc)) (if S cc = true then nn else nn + 1))) y = none := by
            intro y hy o z
            have k := I16.pin (y, o) (List.mem_append_right _ (List.mem_append_right _ (mem_pinsAt hy z)))
            exact ⟨k.1, k.2.1⟩
          refine ⟨m', lt, j + 1, _, I16.unpinned.weak (by rw [← hw14, wipe_length]) (fun j v z => by rw [← hw14] at z; exact (wipe_some z).1), T1.keep _ _ _ st13 fun y hy o z => (held y hy o z).1, fun y hy => ?_, w'⟩
          obtain ⟨o, z, _⟩ := T1.obj _ _ st13 y hy
          exact (held y hy o z).2
      exact sc2_begin inner (T1.self X.A 0 _ _ _ st10 inner)
  exact PpSet.codeAny_compStart_set main (T.self X.A 0 _ _ _ std main)
end
end Su
/-! ### PL: the pool from which a law draws -/
namespace Su
open PySem PySem.Spec PyProof.Rows L2
/-- the built-in names that the text does not bind -/
structure Bt (mg : Str → Option Value) : Prop where
  len : mg "len" = none
  sum : mg "sum" = none
  abs : mg "abs" = none
  int : mg "int" = none
  min : mg "min" = none
  max : mg "max" = none
  range : mg "range" = none
  sorted : mg "sorted" = none
  list : mg "list" = none
  tuple : mg "tuple" = none
  repr : mg "repr" = none
  set : mg "set" = none
  all : mg "all" = none
  isinstance : mg "isinstance" = none
  str : mg "str" = none
  bool : mg "bool" = none
  reversed : mg "reversed" = none
  enumerate : mg "enumerate" = none
  zip : mg "zip" = none
  any : mg "any" = none
  dict : mg "dict" = none
theorem cutV_ints (ns : List Int) (lo hi : Option Int) : ∃ ms : List Int, cutV (ns.map V.int) lo hi = ms.map V.int := by
  unfold cutV
  exact ⟨_, by rw [← List.map_drop, ← List.map_take]⟩
theorem atI_int {α : Type} {xs : List α} {i : Int} {v : α} (h0 : 0 ≤ i) (h : xs[i.toNat]? = some v) : atI xs i = some v := by
  have e := atI_nat h
  rw [Int.toNat_of_nonneg h0] at e
  exact e
theorem b01 (b : Bool) : -(2 ^ 64) < (if b = true then (1 : Int) else 0) ∧ (if b = true then (1 : Int) else 0) < 2 ^ 64 := by
  cases b <;> exact ⟨by decide, by decide⟩
/-! the pool -/
def PoolO (o : HO) : Prop := ∃ g m : Int, o = .lst [.int g, .int m] ∧ 0 ≤ g ∧ 0 ≤ m ∧ m < 2147483647
def PoolAt (H : Hp) (p : Addr) : Prop := ∃ o, H p = some o ∧ PoolO o
def spTake : Sp := fun vs H Q _ => ∃ (p : Addr) (many : Int), vs = [.ref p, .int many] ∧ PoolAt H p ∧ 1 ≤ many ∧ many < 1000000 ∧
  ∀ (r : Int) (o : HO), 0 ≤ r → r < many → PoolO o → Q (.int r) (upd H p o)
def spPool (K : PySem.W.Frag) : Sp := fun vs H Q _ => ∃ (a : Addr) (ns : List Int) (k : Int), vs = [.ref a, .int k] ∧ SqL K H a (ns.map V.int) ∧ 0 ≤ k ∧ k < 1000 ∧
  ∀ (p : Addr) (H' : Hp), Same H H' → H p = none → PoolAt H' p → Q (.ref p) H'
/-- all but what stands at p is as it was -/
def Kept (p : Addr) (H H' : Hp) : Prop := ∀ b o, H b = some o → b ≠ p → H' b = some o
theorem Kept.refl (p : Addr) (H : Hp) : Kept p H H := fun _ _ h _ => h
theorem Kept.trans {p : Addr} {H H1 H2 : Hp} (a : Kept p H H1) (b : Kept p H1 H2) : Kept p H H2 := fun c o h n => b c o (a c o h n) n
theorem Kept.same {p : Addr} {H H1 : Hp} (a : Same H H1) : Kept p H H1 := fun c o h _ => a c o h
theorem Kept.upd (p : Addr) (H : Hp) (o : HO) : Kept p H (upd H p o) := fun b x e n => by
  rw [upd_ne n]
  exact e
theorem Kept.set {p b : Addr} {H H1 : Hp} {o : HO} (a : Kept p H H1) (hb : H b = none) : Kept p H (L2.upd H1 b o) := fun c x e n => by
  rw [upd_ne (ne_of_none e hb)]
  exact a c x e n
theorem Kept.free {p b : Addr} {H H' : Hp} (a : Kept p H H') (n : b ≠ p) (h : H' b = none) : H b = none := by
  cases z : H b with
  | none => rfl
  | some o =>
    rw [a b o z n] at h
    cases h
theorem pool_ne {H : Hp} {p b : Addr} (h : PoolAt H p) (n : H b = none) : b ≠ p := by
  obtain ⟨o, e, _⟩ := h
  exact (ne_of_none e n).symm
theorem PoolAt.upd {H : Hp} {p b : Addr} {o : HO} (h : PoolAt H p) (n : p ≠ b) : PoolAt (upd H b o) p := by
  obtain ⟨x, e, z⟩ := h
  exact ⟨x, by rw [upd_ne n]; exact e, z⟩
theorem PoolAt.same {H H' : Hp} {p : Addr} (h : PoolAt H p) (s : Same H H') : PoolAt H' p := by
  obtain ⟨o, e, z⟩ := h
  exact ⟨o, s _ _ e, z⟩
theorem PTup.kept {p a : Addr} {H H' : Hp} {xs : List V} (h : PTup H a xs) (k : Kept p H H') (hp : PoolAt H p) : PTup H' a xs := by
  obtain ⟨o, e, d⟩ := h
  obtain ⟨x, e2, g, m, rfl, _⟩ := hp
  refine ⟨o, k _ _ e (fun z => ?_), d⟩
  subst z
  rw [e] at e2
  cases e2
theorem seq_kept {K : PySem.W.Frag} {p a : Addr} {H H' : Hp} {xs : List V} (k : Kept p H H') (n : a ≠ p) (h : SqL K H a xs) : SqL K H' a xs := by
  rcases h with (h | ⟨o, h⟩) | h
  · exact .inl (.inl (k _ _ h n))
  · exact .inl (.inr ⟨o, k _ _ h n⟩)
  · exact .inr h
theorem tyes {σ : L2.St} {H : Hp} {A B : Hp → Prop} (h : A H) : tYes σ H (fun b H3 => if b = true then A H3 else B H3) := (iteT h : if true = true then A H else B H)
theorem erase_map (f : Int → V) : ∀ (l : List Int) (j : Nat), (l.map f).eraseIdx j = (l.eraseIdx j).map f
  | [], _ => rfl
  | _ :: _, 0 => rfl
  | x :: l, j + 1 => by
    show f x :: (l.map f).eraseIdx j = f x :: (l.eraseIdx j).map f
    rw [erase_map f l j]
theorem free_upd {H : Hp} {a b : Addr} {o : HO} (h : upd H a o b = none) : b ≠ a ∧ H b = none := by
  by_cases e : b = a
  · subst e
    rw [upd_same] at h
    cases h
  · rw [upd_ne e] at h
    exact ⟨e, h⟩
theorem seqIx {i : Int} {n : Nat} (h0 : 0 ≤ i) (h : i < n) : seqIndex? i n = some i.toNat :=
  (ixN_seq (n := n) (i := i) (j := i.toNat) (by unfold ixN; rw [if_pos h0, if_pos h])).1
theorem erase_perm : ∀ (l : List Int) (j : Nat) (y : Int), l[j]? = some y → (y :: l.eraseIdx j).Perm l
  | [], j, y, h => by simp at h
  | x :: l, 0, y, h => by
    have e : x = y := by simpa using h
    rw [e]
    exact List.Perm.refl _
  | x :: l, j + 1, y, h => by
    have e : l[j]? = some y := by simpa using h
    exact (List.Perm.swap x y (l.eraseIdx j)).trans ((erase_perm l j y e).cons x)
abbrev rLenK (K : PySem.W.Frag) : List V → Hp → VK → Prop := fun xs H Q => ∃ p ys, xs = [.ref p] ∧ (SqL K H p ys ∨ SqT K H p ys) ∧ Q (.int ys.length) H
def spPicked (K : PySem.W.Frag) : Sp := fun vs H Q _ => ∃ (p b : Addr) (ns : List Int) (many : Int), vs = [.ref p, .ref b, .int many] ∧ PoolAt H p ∧ SqL K H b (ns.map V.int) ∧ b ≠ p ∧ ns.Nodup ∧ ns.length ≤ 1000 ∧ 0 ≤ many ∧
  ∀ (q : Addr) (H' : Hp) (ms : List Int), H q = none → Kept p H H' → PoolAt H' p → H' q = some (.lst (ms.map V.int)) → ms.Nodup → (∀ x ∈ ms, x ∈ ns) → ms.length = min many.toNat ns.length → ms.Pairwise (· ≤ ·) → Q (.ref q) H'
def hundred : List Int := (List.range 100).map fun i => ((i : Nat) : Int)
theorem hundred_rg : rgV 0 100 = hundred.map V.int := by
  unfold rgV hundred
  rw [List.map_map]
  rfl
theorem hundred_nd : hundred.Nodup := by decide +kernel
theorem hundred_len : hundred.length = 100 := rfl
theorem hundred_mem {x : Int} (h : x ∈ hundred) : 0 ≤ x ∧ x < 100 := by
  unfold hundred at h
  obtain ⟨i, hi, rfl⟩ := List.mem_map.mp h
  have := List.mem_range.mp hi
  omega
theorem cons_nil_fin {α : Type} {xs : List α} {r : Int} (n : Nat) (h : xs.length = n) (r0 : 0 ≤ r) (r1 : r < n) : ∃ v ∈ xs, atI xs r = some v := by
  have hr : r.toNat < xs.length := by omega
  exact ⟨xs[r.toNat], List.getElem_mem hr, atI_int r0 (List.getElem?_eq_getElem hr)⟩
theorem iteB {c : Bool} {A B : Prop} (h1 : c = true → A) (h2 : c = false → B) : if c = true then A else B := by
  cases c
  · exact iteF (h2 rfl)
  · exact iteT (h1 rfl)
theorem sorted_one : ∀ {xs ys : List Int}, xs.Pairwise (· < ·) → ys.Pairwise (· < ·) → (∀ k, k ∈ xs ↔ k ∈ ys) → xs = ys
  | [], [], _, _, _ => rfl
  | [], y :: ys, _, _, h => (List.not_mem_nil ((h y).mpr List.mem_cons_self)).elim
  | x :: xs, [], _, _, h => (List.not_mem_nil ((h x).mp List.mem_cons_self)).elim
  | x :: xs, y :: ys, hx, hy, h => by
    have px := List.pairwise_cons.mp hx
    have py := List.pairwise_cons.mp hy
    have e : x = y := by
      rcases List.mem_cons.mp ((h x).mp List.mem_cons_self) with z | z
      · exact z
      · rcases List.mem_cons.mp ((h y).mpr List.mem_cons_self) with z2 | z2
        · exact z2.symm
        · have h1 := py.1 x z
          have h2 := px.1 y z2
          omega
    subst e
    have r : xs = ys := sorted_one px.2 py.2 fun k => by
      constructor
      · intro hk
        rcases List.mem_cons.mp ((h k).mp (List.mem_cons_of_mem _ hk)) with z | z
        · have h1 := px.1 k hk
          omega
        · exact z
      · intro hk
        rcases List.mem_cons.mp ((h k).mpr (List.mem_cons_of_mem _ hk)) with z | z
        · have h1 := py.1 k hk
          omega
        · exact z
    rw [r]
theorem nodup_few {S : List Int} : ∀ {ms : List Int}, ms.Nodup → (∀ k ∈ ms, k ∈ S) → ms.length ≤ S.length := by
  induction S with
  | nil =>
    intro ms _ h
    cases ms with
    | nil => exact Nat.le_refl _
    | cons x l => exact (List.not_mem_nil (h x List.mem_cons_self)).elim
  | cons y S ih =>
    intro ms nd h
    have z := ih (ms := ms.erase y) (nd.erase y) fun k hk => by
      have h1 := (nd.mem_erase_iff.mp hk)
      rcases List.mem_cons.mp (h k h1.2) with e | e
      · exact absurd e h1.1
      · exact e
    rw [List.length_cons]
    by_cases hy : y ∈ ms
    · rw [List.length_erase_of_mem hy] at z
      omega
    · rw [List.erase_of_not_mem hy] at z
      omega
theorem fnG_fun {P : Program} {w : World} {K : PySem.W.Frag} {mg : Str → Option Value} {base : Heap} {x ql : Str} {st : Stmt} {f : Addr} {fd : FuncData} {N ps : List Str} {k : Nat} {sp : Sp} (F : Fun K x ql st f fd) (S : FnScope N ps (defScope st)) (len : ∀ vs H Q E, sp vs H Q E → vs.length = ps.length)
    (hb : ∀ (cdv : Value) (A : Around) (outer : List Env) (s : Shared) (H : Hp) (vs : List V) (Q : VK) (E : XK), (A.deeper (envOfC ql (defScope st) s.heap.objs.size f cdv)).guards = some [] → Room k (A.deeper (envOfC ql (defScope st) s.heap.objs.size f cdv)) → sp vs H Q E →
      ∃ t, PSs (cxOf CX0 P w K mg base N ql (defScope st) f cdv A outer s H E).nox (defBody st) t ∧ t { nx := fun _ H' => Q .non H', rt := Q } (start N vs) H) : FnG P w K mg base CX0 (k + 1) f fd ps sp := by
  obtain ⟨oc, od, kV, doc, pm, an, cdv, ct, osl, rfl, lk, hcd⟩ := F.ex
  refine fnG_of lk hcd S len fun A outer s H vs Q E hg hr hsp => ?_
  obtain ⟨t, h, q⟩ := hb cdv A outer s H vs Q E hg hr hsp
  exact ⟨t, h.nox, q⟩
section
variable {X : Cx} {e : Expr}
/-- a test that is never asked, an expression that is never reckoned -/
def tNo : TT := fun _ _ _ => False
theorem pt_never : PT X e tNo := ⟨fun _ _ _ _ _ _ h => h.elim⟩
def tNoE : TE := fun _ _ _ => False
theorem pe_never : PE X e tNoE := ⟨fun _ _ _ _ _ _ h => h.elim⟩
end
end Su
/-! ### SE: sets of ints: set(l), sorted(s) of any size -/
namespace Su
open PySem PySem.Spec PyProof.Rows L2
/-- the set that set(..) begins with -/
abbrev set0 (w : World) : Obj := { cls := .type "set", dict := none, data := .set #[] 0 (.fresh 0 0 (!w.params.followText "set-order")) }
section
variable {P : Program} {w : World} {A : Around} {E : Value → Shared → Prop} {s : Shared}
theorem set_of_list {l : Addr} {its : Array Value} (ns : List Int) {Q : Value → Shared → Prop} (hh : A.handled = none) (hl : s.heap.IsList l its) (ia : IntsAre its.toList ns) (few : ns.length + 1 < scanBound)
    (q : ∀ (h' : Heap) (tk c : Nat), SetR w h' s.heap.objs.size (fun j => decide (j ∈ ns)) c → c ≤ ns.length → (∀ b o, s.heap.get? b = some o → h'.get? b = some o) → Q (.ref s.heap.objs.size) { s with heap := h', toks := tk }) :
    wpAny (model P w) A (call (.type "set") [.ref l]) Q E s := by
  have sz : its.size = ns.length := by
    have z := IntsAre.length ia
    rwa [Array.length_toList] at z
  obtain ⟨c0, tl0, m0⟩ := F.called_set.mro
  have m1 := F.called_set.made
  have m2 := F.called_set.sub
  have m3 := F.called_set.notType
  have m4 := F.called_set.canCreate
  have m5 := F.typeCall_set_1 (.ref l)
  refine wpAny_call (codeAny_of_tree ?_)
  show wpAny _ _ (callAny (.type "set") _) _ _ _
  refine wpAny_pure ⟨Code.quiet_builtin _ (by decide +kernel), codeAny_builtin F.entry_type_call ?_⟩
  rw [Around.under_plain (weight_type_call_type "set" [.ref l] []) rfl]
  repeat (any_goals (first | assumption | wp_step))
  refine codeAny_mono (code_set_led1 (.ref l) (E := E) (Q₁ := fun x t => x = .ref s.heap.objs.size ∧ t = { s with heap := s.heap.push (set0 w) }) ⟨rfl, rfl⟩) fun r t hr => ?_
  match r, hr with
  | .error e, hr => exact hr
  | .ok .next, hr => exact hr.elim
  | .ok .brk, hr => exact hr.elim
  | .ok .cont, hr => exact hr.elim
  | .ok (.ret x), hr =>
    obtain ⟨rfl, rfl⟩ := hr
    have at0 : (s.heap.push (set0 w)).get? s.heap.objs.size = some (set0 w) := Heap.get?_push_size _ rfl
    have ty0 : Shared.TypeIs { s with heap := s.heap.push (set0 w) } (.ref s.heap.objs.size) "set" := ⟨_, at0, rfl⟩
    have n1 := F.called_set.init.lookup
    have n2 := F.called_set.init.bind (.ref s.heap.objs.size)
    repeat (any_goals (first | assumption | wp_step))
    refine codeAny_mono (codeAny_call_builtin (R := wants (fun r t => r = .none ∧ ∃ h' tk c, t = { s with heap := h', toks := tk } ∧ SetR w h' s.heap.objs.size (fun j => decide (j ∈ ns)) c ∧ c ≤ ns.length ∧ ∀ b o, s.heap.get? b = some o → h'.get? b = some o) E)
      F.called_set.init.plain F.entry_set_init (check_set_init_1 ty0 ?_)) fun r2 t2 hr2 => ?_
    · obtain ⟨⟨oc, od, odt, os⟩, ho, hc, nl, hd⟩ := hl
      simp only at hc hd
      subst hc hd
      have lt : l < s.heap.objs.size := Heap.lt_size ho
      have ho1 : (s.heap.push (set0 w)).get? l = some { cls := .type "list", dict := od, data := .seq its nl, slots := os } := Heap.get?_push_of_some _ ho
      have isl : (s.heap.push (set0 w)).IsList l its := ⟨_, ho1, rfl, nl, rfl⟩
      have p1 := F.sub_list_set
      have p2 := F.sub_list_frozenset
      have p3 : (Value.type "list" == Value.type "dict") = false := by decide
      unfold Builtin.«set.__init__» noKeywords Builtin.Frozenset.updateFrom
      generalize hPI : pyIter = PI
      wp_walk
      subst hPI
      refine wpAny_pyIter_list isl (wpAny_bind (wpAny_runValue ?_))
      have size1 : (s.heap.push (set0 w)).objs.size = s.heap.objs.size + 1 := Heap.size_push ..
      have ap : l ≠ (s.heap.push (set0 w)).objs.size := by
        rw [size1]
        exact Nat.ne_of_lt (Nat.lt_succ_of_lt lt)
      have ap2 : s.heap.objs.size ∉ [(s.heap.push (set0 w)).objs.size, l] := by
        rw [size1]
        simp only [List.mem_cons, List.not_mem_nil, or_false, not_or]
        exact ⟨Nat.ne_of_lt (Nat.lt_succ_self _), Nat.ne_of_gt lt⟩
      refine set_update_ints ((Walks.list (by simp [hh]) _ l ap its).toS) s.heap.objs.size ap2 ns sz few (fun i v hv => ?_) (its.size - 0) 0 _ (by omega) (Nat.zero_le _) ⟨⟨_, Heap.get?_push_size _ rfl, rfl, rfl⟩, isl.push _⟩ ⟨0, Nat.le_refl 0, setR_new_at (Heap.get?_push_of_some _ at0)⟩ fun t3 c3 mv hc3 hS3 => ?_
      · have hi : i < ns.length := by
          rw [← sz]
          exact (Array.getElem?_eq_some_iff.mp hv).1
        obtain ⟨tk, e⟩ := PyProof.Rows.IntsAre.int_at ia i v (by rw [Array.getElem?_toList]; exact hv)
        refine ⟨ns[i], tk, List.getElem?_eq_getElem hi, ?_⟩
        rw [e, List.getD_eq_getElem?_getD, List.getElem?_eq_getElem hi] <;> rfl
      · obtain ⟨h3, g3, d3, tk3, os3⟩ := t3
        obtain rfl : g3 = s.gens := mv.gens
        obtain rfl : d3 = s.drawn := mv.drawn
        obtain rfl : os3 = s.os := mv.os
        show wpAny _ _ _ _ _ _
        refine wpAny_pure ?_
        show wpAny _ _ (ret Value.none) _ _ _
        refine wpAny_pure ⟨rfl, h3, tk3, c3, rfl, hS3, by omega, fun b o e => ?_⟩
        have bl : b < s.heap.objs.size := Heap.lt_size e
        refine mv.heap b o ?_ (Heap.get?_push_of_some _ (Heap.get?_push_of_some _ e))
        rw [size1]
        simp only [List.mem_cons, List.not_mem_nil, or_false, not_or]
        exact ⟨Nat.ne_of_lt bl, Nat.ne_of_lt (Nat.lt_succ_of_lt bl)⟩
    · match r2, hr2 with
      | .error e, hr2 => exact hr2
      | .ok .next, hr2 => exact hr2.elim
      | .ok .brk, hr2 => exact hr2.elim
      | .ok .cont, hr2 => exact hr2.elim
      | .ok (.ret y), hr2 =>
        obtain ⟨rfl, h', tk, c, rfl, hS, hc, hk⟩ := hr2
        repeat (any_goals (first | assumption | wp_step))
        exact q _ _ _ hS hc hk
end
/-- a set of ints whose members are those of l -/
def SetIs (w : World) (H : Hp) (D : Addr) (l : List Int) : Prop := ∃ (S : Int → Bool) (n : Nat) (d : List Int), H D = some (SetO w D S n) ∧ d.Nodup ∧ d.length = n ∧ (∀ k, S k = true ↔ k ∈ d) ∧ ∀ k, k ∈ d ↔ k ∈ l
theorem SetIs.add {w : World} {H : Hp} {D : Addr} {l : List Int} (h : SetIs w H D l) {A : List Int} (hA : A.length < 1000) (hl : ∀ k ∈ l, k ∈ A) (c : Int) :
    ∃ (S : Int → Bool) (n : Nat), H D = some (SetO w D S n) ∧ n + 1 < scanBound ∧ ∀ (H' : Hp), H' D = some (SetO w D (fun j => S j || decide (j = c)) (if S c = true then n else n + 1)) → SetIs w H' D (l ++ [c]) := by
  obtain ⟨S, n, d, e, nd, hn, hS, hd⟩ := h
  have z := nodup_few (S := A) nd fun k hk => hl k ((hd k).mp hk)
  refine ⟨S, n, e, by unfold scanBound; omega, fun H' e' => ?_⟩
  by_cases hc : S c = true
  · rw [if_pos hc] at e'
    refine ⟨_, n, d, e', nd, hn, fun k => ?_, fun k => ?_⟩
    · rw [Bool.or_eq_true, decide_eq_true_eq, hS k]
      constructor
      · rintro (h | rfl)
        · exact h
        · exact (hS k).mp hc
      · exact .inl
    · rw [List.mem_append, List.mem_singleton, hd k]
      constructor
      · exact .inl
      · rintro (h | rfl)
        · exact h
        · exact (hd k).mp ((hS k).mp hc)
  · rw [if_neg hc] at e'
    refine ⟨_, n + 1, c :: d, e', List.nodup_cons.mpr ⟨fun h => hc ((hS c).mpr h), nd⟩, by rw [List.length_cons, hn], fun k => ?_, fun k => ?_⟩
    · rw [Bool.or_eq_true, decide_eq_true_eq, hS k, List.mem_cons]
      exact Or.comm
    · rw [List.mem_append, List.mem_singleton, List.mem_cons, hd k]
      exact Or.comm
theorem SetIs.of {w : World} {h : Heap} {H : Hp} {D : Addr} {S : Int → Bool} {c : Nat} {l : List Int} (R : SetR w h D S c) (e : H D = some (SetO w D S c)) (hl : ∀ k, S k = true ↔ k ∈ l) : SetIs w H D l := by
  obtain ⟨o, es, ep, t, ho, hex, hd, g, nd, hm, hb, hf, hn, _⟩ := R
  exact ⟨S, c, es.toList.map keyOf, e, nd, by rw [List.length_map, Array.length_toList]; exact hn, hm, fun k => (hm k).symm.trans (hl k)⟩
section
variable {X : Cx}
/-- set(l), l a list of ints -/
def rSetL (w : World) (K : PySem.W.Frag) : List V → Hp → VK → Prop := fun xs H Q => ∃ (l : Addr) (ns : List Int), xs = [.ref l] ∧ SqL K H l (ns.map V.int) ∧ ns.length ≤ 4000 ∧ ∀ (p : Addr) (H' : Hp), Same H H' → H p = none → SetIs w H' p ns → Q (.ref p) H'
theorem cr_setL (hc : X.calm = true) : CallR X (.type "set") (rSetL X.w X.K) := by
  intro pins s σ H xs us Q I r h
  obtain ⟨l, ns, rfl, hq, hl, q⟩ := h
  rw [Vals.ref1 r]
  obtain ⟨its, rv, pl, hz⟩ := I.list hq
  refine set_of_list ns (I.ok.hd hc) pl.isList (by simpa using ints_of rv) (by unfold scanBound; omega) fun h' tk c hR hc' hk => ?_
  have new : H s.heap.objs.size = none := I.hok.fresh (Nat.le_refl _)
  refine ⟨.ref s.heap.objs.size, _, I.laid (t' := tk) hk (Nat.le_refl _) (setO_new hR), rfl, q _ _ (same_upd new) new ?_⟩
  exact SetIs.of hR upd_same fun k => decide_eq_true_iff
/-- sorted(s), s a set of ints -/
theorem sorted_setA {P : Program} {w : World} {A : Around} {E : Value → Shared → Prop} {s : Shared} {a : Addr} {S : Int → Bool} {n : Nat} {Q : Value → Shared → Prop} (R : SetR w s.heap a S n) (hh : A.handled = none)
    (q : ∀ (t : Shared) (p : Addr) (out : Array Value) (c : Nat) (ns : List Int), (∀ b o, s.heap.get? b = some o → t.heap.get? b = some o) → t.gens = s.gens → t.os = s.os → s.heap.objs.size ≤ p →
      t.heap.get? p = some (seqObj "list" out c) → IntsAre out.toList ns → ns.Pairwise (· < ·) → (∀ k, k ∈ ns ↔ S k = true) → ns.length < 4096 → Q (.ref p) t) :
    wpAny (model P w) A (call (.builtin "sorted") [.ref a]) Q E s := by
  obtain ⟨o, es, ep, t, ho, hex, hd, g, nd, hm, hb, hf, hn, hr, hl⟩ := R
  refine Calls.call_function_entry kind_sorted plain_sorted entry_sorted (args_sorted1 _) ?_
  unfold Builtin.«sorted»
  refine wpAny_bind (m := checkCount "sorted" 1 1 _) (wpAny_pure (wpAny_bind (collect_set (A := A.in1) hh ⟨o, ho, hex.1, hd⟩ hf hb hr hl fun s1 vs k1 hz g1 o1 pm => ?_)))
  have len : vs.length = es.size := by
    rw [pm.length_eq, List.length_map, Array.length_toList]
  have hI : IntsAre vs (vs.map Builtin.Re.reRawOf) := L2.ints_of vs fun v hv => by
    obtain ⟨x, hx, z⟩ := List.mem_map.mp (pm.mem_iff.mp hv)
    obtain ⟨k, tk, h1, _⟩ := g x hx
    exact ⟨k, tk, z ▸ h1⟩
  have pk : (vs.map Builtin.Re.reRawOf).Perm (es.toList.map keyOf) := by
    have z := pm.map Builtin.Re.reRawOf
    rwa [List.map_map] at z
  have small : vs.length ≤ sizeLine := by
    have : es.size < 4096 := hb
    rw [len, sizeLine_eq]
    omega
  refine wpAny_bind (wpAny_newList ?_ small)
  have at1 : (s1.heap.push (seqObj "list" vs.toArray 0)).get? s1.heap.objs.size = some (seqObj "list" vs.toArray 0) := Heap.get?_push_size _ rfl
  refine wpAny_bind (wpAny_holding (wpAny_call_entry slot_list_sort ⟨_, at1, rfl⟩ entry_list_sort (SrtO.list_sort_ord SrtO.swo_int at1 small (fun h2 => SrtO.ints_sortable hI h2) fun out h1 h2 => ⟨_, rfl, ?_⟩) (args_list_sort _)))
  obtain ⟨k3, k4, k5⟩ := SrtO.ints_out hI h1 h2
  obtain ⟨c, hc⟩ := sortedHeap_at (vs := vs) (out := out.toArray) at1
  have pn := k4.trans pk
  refine wpAny_pure ⟨_, rfl, q _ s1.heap.objs.size out.toArray c (out.map SrtO.iv) (fun b u z => ?_) g1 o1 hz hc k3 (lt_of_le_nodup _ k5 (pn.nodup_iff.mpr nd)) (fun k => by rw [pn.mem_iff, ← hm k]) ?_⟩
  · have y := k1 b u z
    have lt := Heap.lt_size y
    show (sortedHeap (s1.heap.push (seqObj "list" vs.toArray 0)) s1.heap.objs.size vs out.toArray).get? b = some u
    rw [sortedHeap_old (Nat.ne_of_lt lt) (by rw [size_push']; exact Nat.lt_succ_of_lt lt)]
    exact Heap.get?_push_of_some _ y
  · rw [pn.length_eq, List.length_map, Array.length_toList]
    exact hb
def rSortedS (w : World) : List V → Hp → VK → Prop := fun vs H Q => ∃ (a : Addr) (l : List Int), vs = [.ref a] ∧ SetIs w H a l ∧ ∀ (ns : List Int) (p : Addr), ns.Pairwise (· < ·) → (∀ k : Int, k ∈ ns ↔ k ∈ l) → H p = none → Q (.ref p) (upd H p (.lst (ns.map V.int)))
theorem cr_sortedS (hc : X.calm = true) : CallR X (.builtin "sorted") (rSortedS X.w) := by
  intro pins s σ H vs us Q I r h
  obtain ⟨a, l, rfl, ⟨S, n, d, ha, nd, hn, hS, hd⟩, q⟩ := h
  rw [Vals.ref1 r]
  refine sorted_setA (setO_get I ha) (I.ok.hd hc) fun t p out c ns k g o hp hg hi hs hm hl => ?_
  have len : (ns.map V.int).length ≤ sizeLine := by
    rw [List.length_map, sizeLine_eq]
    omega
  have new : H p = none := I.hok.fresh hp
  have J : Inv X pins σ (upd H p (.lst (ns.map V.int))) { s with heap := t.heap, gens := t.gens, drawn := t.drawn, toks := t.toks } :=
    I.call (ch := []) (Un.laid k hp new) (I.hok.laid k hp ⟨len, out.toList, c, vals_of_ints hi, hg⟩) (by rw [g]; exact I.bare) (fun _ z => nomatch z)
  have et : t = { s with heap := t.heap, gens := t.gens, drawn := t.drawn, toks := t.toks } := by
    cases t
    cases s
    cases o
    rfl
  rw [et]
  exact ⟨.ref p, _, J, rfl, q ns p hs (fun k => (hm k).trans ((hS k).trans (hd k))) new⟩
end
end Su
/-! ### WA: webs in the heap -/
namespace Su
open PySem PySem.Spec PyProof.Rows L2
/-- a tuple, by whatever it was made -/
def T2 (H : Hp) (a : Addr) (xs : List V) : Prop := PTup H a xs ∨ H a = some (.tup xs)
theorem T2.sq {K : PySem.W.Frag} {H : Hp} {a : Addr} {xs : List V} (h : T2 H a xs) : SqT K H a xs := by
  rcases h with h | h
  · exact h.sq
  · exact .inl (.inl h)
theorem T2.same {H H' : Hp} {a : Addr} {xs : List V} (h : T2 H a xs) (s : Same H H') : T2 H' a xs := by
  rcases h with h | h
  · exact .inl (h.same s)
  · exact .inr (s _ _ h)
theorem T2.ty {K : PySem.W.Frag} {H : Hp} {a : Addr} {xs : List V} (h : T2 H a xs) : TyX K H (.ref a) (.type "tuple") := by
  rcases h with ⟨o, h, _⟩ | h
  · exact .fTuple h
  · exact .base (.tup h)
/-- all tuples stay -/
def K2 (H H' : Hp) : Prop := ∀ a xs, T2 H a xs → T2 H' a xs
theorem K2.same {H H' : Hp} (s : Same H H') : K2 H H' := fun _ _ h => h.same s
theorem K2.trans {H H1 H2 : Hp} (a : K2 H H1) (b : K2 H1 H2) : K2 H H2 := fun x xs h => b x xs (a x xs h)
/-- what is no tuple may be changed -/
theorem K2.upd {H : Hp} {a : Addr} {o u : HO} (e : H a = some o) (n : ∀ xs, o ≠ .tup xs) (n2 : ∀ b xs, o ≠ .frz b (.tup xs)) : K2 H (upd H a u) := by
  rintro b xs (⟨ob, h, d⟩ | h)
  · refine .inl ⟨ob, ?_, d⟩
    rw [upd_ne]
    · exact h
    · rintro rfl
      rw [e] at h
      cases h
      exact n2 _ _ rfl
  · refine .inr ?_
    rw [upd_ne]
    · exact h
    · rintro rfl
      rw [e] at h
      cases h
      exact n _ rfl
theorem K2.lst {H : Hp} {a : Addr} {xs : List V} {u : HO} (e : H a = some (.lst xs)) : K2 H (L2.upd H a u) := K2.upd e (fun _ z => nomatch z) (fun _ _ z => nomatch z)
abbrev Rw := List Int × List Int
def RowAt (H : Hp) (v : V) (r : Rw) : Prop := ∃ a b c, v = .ref a ∧ T2 H a [.ref b, .ref c] ∧ T2 H b (r.1.map V.int) ∧ T2 H c (r.2.map V.int)
theorem RowAt.keep {H H' : Hp} {v : V} {r : Rw} (k : K2 H H') (h : RowAt H v r) : RowAt H' v r := by
  obtain ⟨a, b, c, e, h1, h2, h3⟩ := h
  exact ⟨a, b, c, e, k _ _ h1, k _ _ h2, k _ _ h3⟩
def RowsAt (H : Hp) : List V → List Rw → Prop
  | [], [] => True
  | v :: vs, r :: rs => RowAt H v r ∧ RowsAt H vs rs
  | _, _ => False
theorem RowsAt.keep {H H' : Hp} (k : K2 H H') : ∀ {vs : List V} {rs : List Rw}, RowsAt H vs rs → RowsAt H' vs rs
  | [], [], _ => trivial
  | _ :: _, _ :: _, h => ⟨h.1.keep k, RowsAt.keep k h.2⟩
  | [], _ :: _, h => h.elim
  | _ :: _, [], h => h.elim
theorem RowsAt.len {H : Hp} : ∀ {vs : List V} {rs : List Rw}, RowsAt H vs rs → vs.length = rs.length
  | [], [], _ => rfl
  | _ :: _, _ :: _, h => by rw [List.length_cons, List.length_cons, RowsAt.len h.2]
  | [], _ :: _, h => h.elim
  | _ :: _, [], h => h.elim
theorem RowsAt.get {H : Hp} : ∀ {vs : List V} {rs : List Rw}, RowsAt H vs rs → ∀ {i : Nat} {v : V}, vs[i]? = some v → ∃ r, rs[i]? = some r ∧ RowAt H v r
  | [], [], _, i, v, e => by simp at e
  | _ :: _, _ :: _, h, 0, v, e => by
    obtain rfl := (by simpa using e : _ = v)
    exact ⟨_, rfl, h.1⟩
  | _ :: _, _ :: _, h, i + 1, v, e => RowsAt.get h.2 (i := i) (by simpa using e)
  | [], _ :: _, h, _, _, _ => h.elim
  | _ :: _, [], h, _, _, _ => h.elim
theorem RowsAt.app {H : Hp} : ∀ {vs ws : List V} {rs qs : List Rw}, RowsAt H vs rs → RowsAt H ws qs → RowsAt H (vs ++ ws) (rs ++ qs)
  | [], _, [], _, _, h => h
  | _ :: _, _, _ :: _, _, g, h => ⟨g.1, RowsAt.app g.2 h⟩
  | [], _, _ :: _, _, g, _ => g.elim
  | _ :: _, _, [], _, g, _ => g.elim
theorem RowsAt.snoc {H : Hp} {vs : List V} {rs : List Rw} {v : V} {r : Rw} (g : RowsAt H vs rs) (h : RowAt H v r) : RowsAt H (vs ++ [v]) (rs ++ [r]) := g.app ⟨h, trivial⟩
theorem RowsAt.of {H : Hp} : ∀ {vs : List V} {rs : List Rw}, vs.length = rs.length → (∀ (i : Nat) (v : V) (r : Rw), vs[i]? = some v → rs[i]? = some r → RowAt H v r) → RowsAt H vs rs
  | [], [], _, _ => trivial
  | v :: vs, r :: rs, e, h => ⟨h 0 v r rfl rfl, RowsAt.of (by simpa using e) fun i x y h1 h2 => h (i + 1) x y h1 h2⟩
  | [], _ :: _, e, _ => by simp at e
  | _ :: _, [], e, _ => by simp at e
/-- a web in the heap -/
def WebAt (H : Hp) (p : Addr) (rs : List Rw) : Prop := ∃ ws, H p = some (.lst ws) ∧ RowsAt H ws rs
theorem WebAt.same {H H' : Hp} {p : Addr} {rs : List Rw} (h : WebAt H p rs) (s : Same H H') : WebAt H' p rs := by
  obtain ⟨ws, e, r⟩ := h
  exact ⟨ws, s _ _ e, r.keep (K2.same s)⟩
/-- rising numbers within a bound -/
structure Ris (lo hi : Int) (ns : List Int) : Prop where
  pw : ns.Pairwise (· < ·)
  lo : ∀ k ∈ ns, lo ≤ k
  hi : ∀ k ∈ ns, k ≤ hi
structure RowOk (n : Nat) (r : Rw) : Prop where
  rooms : Ris 0 99 r.1
  few : r.1.length ≤ 6
  tos : Ris 0 ((n : Int) - 1) r.2
def allRooms (rs : List Rw) : List Int := (rs.map Prod.fst).flatten
structure WebOk (rs : List Rw) : Prop where
  pos : 1 ≤ rs.length
  few : rs.length ≤ 80
  row : ∀ r ∈ rs, RowOk rs.length r
  all : ∃ S : List Int, S.length ≤ 12 ∧ ∀ k ∈ allRooms rs, k ∈ S
theorem ris_len {ns : List Int} {n : Nat} : Ris 0 ((n : Int) - 1) ns → ns.length ≤ n := by
  induction n generalizing ns with
  | zero =>
    intro h
    cases ns with
    | nil => exact Nat.le_refl _
    | cons a l =>
      have h1 := h.lo a List.mem_cons_self
      have h2 := h.hi a List.mem_cons_self
      omega
  | succ n ih =>
    intro h
    rcases List.eq_nil_or_concat ns with e | ⟨l, a, e⟩
    · rw [e]
      exact Nat.zero_le _
    · rw [List.concat_eq_append] at e
      subst e
      have pw := List.pairwise_append.mp h.pw
      have ha := h.hi a (List.mem_append_right _ List.mem_cons_self)
      have z := ih (ns := l) ⟨pw.1, fun k hk => h.lo k (List.mem_append_left _ hk), fun k hk => by
        have := pw.2.2 k hk a List.mem_cons_self
        omega⟩
      rw [List.length_append]
      show l.length + 1 ≤ n + 1
      omega
section
variable {X : Cx}
/-- a slice of a tuple, whatever it is -/
def rSl2 : V → Option Int → Option Int → Hp → VK → Prop := fun x lo hi H Q => ∃ a xs, x = .ref a ∧ T2 H a xs ∧ ∀ v H', Same H H' → T2 H' v (cutV xs lo hi) → Q (.ref v) H'
theorem sl_tup2 : SlR X rSl2 := by
  intro pins s σ H x v vl vu lo hi sl Q I rx hs pl pu h
  obtain ⟨a, xs, rfl, hx, q⟩ := h
  refine sl_tupA pins s σ H _ v vl vu lo hi sl Q I rx hs pl pu ⟨a, xs, rfl, hx.sq, fun hw => q a H (Same.refl H) ?_, fun _ p np => q p _ (same_upd np) (.inr upd_same)⟩
  have z : cutV xs lo hi = xs := by
    unfold cutV
    rw [hw.1, hw.2, Nat.sub_zero, List.drop_zero, List.take_length]
  rw [z]
  exact hx
end
theorem cut_tail (xs : List V) : cutV xs (some 1) none = xs.drop 1 := by
  cases xs with
  | nil => rfl
  | cons x l =>
    have e1 : HT.sIx (x :: l).length 0 (some 1) = 1 := by
      have z := HT.sIx_nat (x :: l).length 0 1
      have z2 : HT.sIx (x :: l).length 0 (some (1 : Int)) = min 1 (x :: l).length := z
      rw [z2, List.length_cons]
      omega
    unfold cutV
    rw [e1, HT.sIx_none, List.take_of_length_le]
    rw [List.length_drop]
    exact Nat.le_refl _
theorem rep_all (n : Nat) : (List.replicate n true).all id = true := by
  rw [List.all_eq_true]
  intro x hx
  rw [List.eq_of_mem_replicate hx]
  rfl
theorem rep_snoc (n : Nat) : (List.replicate n (V.bl true)) ++ [V.bl true] = List.replicate (n + 1) (V.bl true) := by
  rw [← List.replicate_succ']
theorem rep_map (n : Nat) : (List.replicate n true).map V.bl = List.replicate n (V.bl true) := List.map_replicate
/-! a comprehension over zip of two tuples -/
open RZ in
theorem lc_zipT {K : PySem.W.Frag} {a b : Addr} {xs ys : List V} {g : TG} {tt : TT} {te : TE} {vs : List Nat} {σ : L2.St} {H1 : Hp} {D : Addr} {Qd : Hp → Prop} (hl : ys.length ≤ xs.length) (Pv : Nat → Hp → Prop) (h0 : Pv 0 (upd H1 D (.lst [])))
    (hq : ∀ i H, i ≤ ys.length → Pv i H → SqT K H a xs ∧ SqT K H b ys)
    (hs : ∀ (i : Nat) (x y : V) (T : Addr) (H : Hp), xs[i]? = some x → ys[i]? = some y → Pv i H → H T = none → g (.ref T) (wipe σ vs) (upd H T (.tup [x, y])) fun σ2 H2 => wipe σ2 vs = wipe σ vs ∧ tt σ2 H2 fun b H3 =>
      if b = true then te σ2 H3 fun y H4 => ∃ acc, H4 D = some (.lst acc) ∧ acc.length < sizeLine ∧ Pv (i + 1) (upd H4 D (.lst (acc ++ [y]))) else Pv (i + 1) H3) (hd : ∀ H, Pv ys.length H → Qd H) :
    ∃ W : Nat → Nat → Hp → Prop, (∃ m, W 0 m (upd H1 D (.lst []))) ∧ ∀ i m H, W i m H →
      ((ItzT K a b).stop i H ∧ Qd H) ∨ ((ItzT K a b).go i H ∧ ∃ Nx : Hp → Prop, (∀ H', Nx H' → ∃ m', m' < m ∧ W (i + 1) m' H') ∧ ∀ x H', (ItzT K a b).yld i H x H' → g x (wipe σ vs) H' fun σ2 H2 => wipe σ2 vs = wipe σ vs ∧ tt σ2 H2 fun b H3 =>
        if b = true then te σ2 H3 fun y H4 => ∃ acc, H4 D = some (.lst acc) ∧ acc.length < sizeLine ∧ Nx (upd H4 D (.lst (acc ++ [y]))) else Nx H3) := by
  refine ⟨fun i m H => m = ys.length - i ∧ i ≤ ys.length ∧ Pv i H, ⟨ys.length, (Nat.sub_zero _).symm, Nat.zero_le _, h0⟩, ?_⟩
  rintro i m H ⟨rfl, hi, p⟩
  obtain ⟨qx, qy⟩ := hq i H hi p
  by_cases hlt : i < ys.length
  · have hy : ys[i]? = some ys[i] := List.getElem?_eq_getElem hlt
    have hx : xs[i]? = some xs[i] := List.getElem?_eq_getElem (by omega)
    refine .inr ⟨⟨xs, ys, _, _, qx, qy, hx, hy⟩, Pv (i + 1), fun H' p' => ⟨ys.length - (i + 1), by omega, rfl, hlt, p'⟩, fun v H' y => ?_⟩
    obtain ⟨T, x', y', rfl, nT, rfl, f1, f2⟩ := y
    exact hs i x' y' T H (f1 xs qx) (f2 ys qy) p nT
  · have e : i = ys.length := by omega
    subst e
    exact .inl ⟨⟨xs, ys, qx, qy, .inr (Nat.le_refl _)⟩, hd H p⟩
section
variable {K : PySem.W.Frag} {a : Addr} {xs : List V}
theorem lc_enumS {g : TG} {tt : TT} {te : TE} {vs : List Nat} {σ : L2.St} {H1 : Hp} {D : Addr} {Qd : Hp → Prop} (Pv : Nat → Hp → Prop) (h0 : Pv 0 (upd H1 D (.lst []))) (hl : ∀ i H, i ≤ xs.length → Pv i H → SqL K H a xs)
    (hs : ∀ i x H T, xs[i]? = some x → Pv i H → H T = none → g (.ref T) (wipe σ vs) (upd H T (.tup [.int (i : Nat), x])) fun σ2 H2 => wipe σ2 vs = wipe σ vs ∧ tt σ2 H2 fun b H3 =>
      if b = true then te σ2 H3 fun y H4 => ∃ acc, H4 D = some (.lst acc) ∧ acc.length < sizeLine ∧ Pv (i + 1) (upd H4 D (.lst (acc ++ [y]))) else Pv (i + 1) H3) (hd : ∀ H, Pv xs.length H → Qd H) :
    ∃ W : Nat → Nat → Hp → Prop, (∃ m, W 0 m (upd H1 D (.lst []))) ∧ ∀ i m H, W i m H →
      ((Ite K a).stop i H ∧ Qd H) ∨ ((Ite K a).go i H ∧ ∃ Nx : Hp → Prop, (∀ H', Nx H' → ∃ m', m' < m ∧ W (i + 1) m' H') ∧ ∀ x H', (Ite K a).yld i H x H' → g x (wipe σ vs) H' fun σ2 H2 => wipe σ2 vs = wipe σ vs ∧ tt σ2 H2 fun b H3 =>
        if b = true then te σ2 H3 fun y H4 => ∃ acc, H4 D = some (.lst acc) ∧ acc.length < sizeLine ∧ Nx (upd H4 D (.lst (acc ++ [y]))) else Nx H3) := by
  refine ⟨fun i m H => m = xs.length - i ∧ i ≤ xs.length ∧ Pv i H, ⟨xs.length, (Nat.sub_zero _).symm, Nat.zero_le _, h0⟩, ?_⟩
  rintro i m H ⟨rfl, hi, p⟩
  have q := hl i H hi p
  by_cases hlt : i < xs.length
  · refine .inr ⟨⟨xs, xs[i], q, List.getElem?_eq_getElem hlt⟩, Pv (i + 1), fun H' p' => ⟨xs.length - (i + 1), by omega, rfl, hlt, p'⟩, fun v H' y => ?_⟩
    obtain ⟨T, x, rfl, nT, rfl, y⟩ := y
    exact hs i x H T (y xs q) p nT
  · have e : i = xs.length := by omega
    subst e
    exact .inl ⟨⟨xs, q, Nat.le_refl _⟩, hd H p⟩
theorem for_enumS {g : TG} {tb : TS} {D : Ends} {σ : L2.St} {H : Hp} (Pv : Nat → L2.St → Hp → Prop) (h0 : Pv 0 σ H) (hl : ∀ i σ H, i ≤ xs.length → Pv i σ H → SqL K H a xs)
    (hs : ∀ i x σ H T, xs[i]? = some x → Pv i σ H → H T = none → g (.ref T) σ (upd H T (.tup [.int (i : Nat), x])) fun σ2 H2 => tb { D with nx := Pv (i + 1), ct := Pv (i + 1), bk := D.nx } σ2 H2) (hd : ∀ σ H, Pv xs.length σ H → D.nx σ H) :
    ∃ W : Nat → Nat → L2.St → Hp → Prop, (∃ m, W 0 m σ H) ∧ ∀ i m σ H, W i m σ H →
      ((Ite K a).stop i H ∧ D.nx σ H) ∨ ((Ite K a).go i H ∧ ∃ N : L2.St → Hp → Prop, (∀ σ' H', N σ' H' → ∃ m', m' < m ∧ W (i + 1) m' σ' H') ∧ ∀ v H', (Ite K a).yld i H v H' → g v σ H' fun σ2 H2 => tb { D with nx := N, ct := N, bk := D.nx } σ2 H2) := by
  refine ⟨fun i m σ H => m = xs.length - i ∧ i ≤ xs.length ∧ Pv i σ H, ⟨xs.length, (Nat.sub_zero _).symm, Nat.zero_le _, h0⟩, ?_⟩
  rintro i m σ H ⟨rfl, hi, p⟩
  have q := hl i σ H hi p
  by_cases hlt : i < xs.length
  · refine .inr ⟨⟨xs, xs[i], q, List.getElem?_eq_getElem hlt⟩, Pv (i + 1), fun σ' H' p' => ⟨xs.length - (i + 1), by omega, rfl, hlt, p'⟩, fun v H' y => ?_⟩
    obtain ⟨T, x, rfl, nT, rfl, y⟩ := y
    exact hs i x σ H T (y xs q) p nT
  · have e : i = xs.length := by omega
    subst e
    exact .inl ⟨⟨xs, q, Nat.le_refl _⟩, hd σ H p⟩
end
theorem K2.of {p : Addr} {H H' : Hp} (k : Kept p H H') (hp : PoolAt H p) : K2 H H' := by
  rintro a xs (h | h)
  · exact .inl (h.kept k hp)
  · refine .inr (k _ _ h fun z => ?_)
    subst z
    obtain ⟨o, e, g, m, rfl, _⟩ := hp
    rw [e] at h
    cases h
theorem cut_to (xs : List V) (k : Nat) : cutV xs none (some (k : Int)) = xs.take k := by
  have e1 : HT.sIx xs.length xs.length (some (k : Int)) = min k xs.length := HT.sIx_nat xs.length xs.length k
  unfold cutV
  rw [e1, HT.sIx_none, Nat.sub_zero, List.drop_zero]
  by_cases h : k ≤ xs.length
  · rw [Nat.min_eq_left h]
  · rw [Nat.min_eq_right (by omega), List.take_length, List.take_of_length_le (by omega)]
theorem cut_from (xs : List V) (k : Nat) : cutV xs (some (k : Int)) none = xs.drop k := by
  have e1 : HT.sIx xs.length 0 (some (k : Int)) = min k xs.length := HT.sIx_nat xs.length 0 k
  unfold cutV
  rw [e1, HT.sIx_none]
  by_cases h : k ≤ xs.length
  · rw [Nat.min_eq_left h, List.take_of_length_le (by rw [List.length_drop]; exact Nat.le_refl _)]
  · rw [Nat.min_eq_right (by omega), List.drop_of_length_le (Nat.le_refl _), List.take_nil, List.drop_of_length_le (by omega)]
theorem pw_lt {ms : List Int} (h : ms.Pairwise (· ≤ ·)) (nd : ms.Nodup) : ms.Pairwise (· < ·) := by
  have z := h.and nd
  exact z.imp fun ⟨a, b⟩ => by omega
/-! a web as data, for repr -/
theorem dp_intsS {K : PySem.W.Frag} {H : Hp} : ∀ ns : List Int, DpAll K H (ns.map V.int) (ns.map PyData.int)
  | [] => .nil
  | n :: ns => .cons (.int n) (dp_intsS ns)
def rowD (r : Rw) : PyData := .tuple [.tuple (r.1.map PyData.int), .tuple (r.2.map PyData.int)]
def webD (rs : List Rw) : PyData := .list (rs.map rowD)
theorem rows_dp {K : PySem.W.Frag} {H : Hp} : ∀ {ws : List V} {rs : List Rw}, RowsAt H ws rs → DpAll K H ws (rs.map rowD)
  | [], [], _ => .nil
  | w :: ws, r :: rs, h => by
    obtain ⟨⟨a, b, c, rfl, h1, h2, h3⟩, t⟩ := h
    exact .cons (.tup h1.sq (.cons (.tup h2.sq (dp_intsS _)) (.cons (.tup h3.sq (dp_intsS _)) .nil))) (rows_dp t)
  | [], _ :: _, h => h.elim
  | _ :: _, [], h => h.elim
theorem WebAt.dp {K : PySem.W.Frag} {H : Hp} {p : Addr} {rs : List Rw} (h : WebAt H p rs) : Dp K H (.ref p) (webD rs) := by
  obtain ⟨ws, e, r⟩ := h
  exact .lst (SqL.of e) (rows_dp r)
theorem FineL.up {ds : List PyData} {n m n' m' : Nat} (h : FineL ds n m) (a : n ≤ n') (b : m ≤ m') : FineL ds n' m' := ⟨h.sh, h.nd, Nat.le_trans h.dp a, h.lv, Nat.le_trans h.wt b, h.cl⟩
theorem row_fine {n : Nat} {r : Rw} (ok : RowOk n r) (hn : n ≤ 80) : Fine (rowD r) 2 3600 := by
  have h1 := FineL.ints r.1 fun z hz => by
    have a := ok.rooms.lo z hz
    have b := ok.rooms.hi z hz
    omega
  have h2 := FineL.ints r.2 fun z hz => by
    have a := ok.tos.lo z hz
    have b := ok.tos.hi z hz
    omega
  have l1 := ok.few
  have l2 := ris_len ok.tos
  have z := Fine.tuple (FineL.cons (Fine.tuple h1) (FineL.cons (Fine.tuple h2) FineL.nil))
  exact z.up (Nat.le_refl _) (by omega)
theorem rows_fine {n : Nat} (hn : n ≤ 80) : ∀ {rs : List Rw}, (∀ r ∈ rs, RowOk n r) → FineL (rs.map rowD) 2 (3601 * rs.length)
  | [], _ => FineL.nil
  | r :: rs, h => by
    have a := FineL.cons (row_fine (h r List.mem_cons_self) hn) (rows_fine hn fun y hy => h y (List.mem_cons_of_mem _ hy))
    exact a.up (Nat.le_refl _) (by rw [List.length_cons]; omega)
theorem WebOk.fine {rs : List Rw} (ok : WebOk rs) : Fine (webD rs) 3 300000 := by
  have h := ok.few
  exact (Fine.list (rows_fine h ok.row)).up (Nat.le_refl _) (by omega)
end Su
/-! ### SF: a tuple times 0 or 1, the sorted keys of a dict -/
namespace Su
open PySem PySem.Spec PyProof.Rows L2
theorem tuple_mul0 (l : Addr) (items : Array Value) (n : Nat) (dd : Option Addr) (sl : Array (Option Value)) (u : Tok) (ne : items.isEmpty = false) :
    Meets (Builtin.«tuple.__mul__» ⟨[.ref l, .int 0 u], []⟩) (fun _ R s => s.heap.get? l = some { cls := .type "tuple", dict := dd, data := .seq items n, slots := sl } ∧ R (.ok (.ret (Value.ref s.heap.objs.size))) { s with heap := s.heap.push (tupO []) }) :=
  .of_wp fun prog w A R s h => by
    obtain ⟨hp, g, d, tk, os⟩ := s
    obtain ⟨hl, h⟩ := h
    have f1 := AutoSeq1.idx_int
    wp_walk using wpAny_loadPart' hl
    repeat (first
      | (refine wpAny_ite_false (by rw [ne]; rfl) ?_; wp_walk using wpAny_loadPart' hl)
      | (refine wpAny_ite_true rfl ?_; wp_walk using wpAny_loadPart' hl))
    exact ⟨_, rfl, h⟩
theorem tuple_mul1 (l : Addr) (items : Array Value) (n : Nat) (dd : Option Addr) (sl : Array (Option Value)) (u : Tok) :
    Meets (Builtin.«tuple.__mul__» ⟨[.ref l, .int 1 u], []⟩) (fun _ R s => s.heap.get? l = some { cls := .type "tuple", dict := dd, data := .seq items n, slots := sl } ∧ R (.ok (.ret (Value.ref l))) s) :=
  .of_wp fun prog w A R s h => by
    obtain ⟨hp, g, d, tk, os⟩ := s
    obtain ⟨hl, h⟩ := h
    have f1 := AutoSeq1.idx_int
    wp_walk using wpAny_loadPart' hl
    exact ⟨_, rfl, h⟩
section
variable {X : Cx}
/-- (x, ..) * k, k 0 or 1 -/
def rMul01 : R2 := fun x y H Q => ∃ (a : Addr) (k : Int) (xs : List V), x = .ref a ∧ y = .int k ∧ T2 H a xs ∧ xs ≠ [] ∧ (k = 0 ∨ k = 1) ∧ ∀ v H', Same H H' → T2 H' v (if k = 1 then xs else []) → Q (.ref v) H'
theorem op_mul01 : OpR X (binaryOp .Mult) rMul01 := by
  intro pins s σ H x y v u Q I rx ry h
  obtain ⟨a, k, xs, rfl, rfl, ha, ne, hk, q⟩ := h
  cases rx
  obtain ⟨t, rfl⟩ := ry
  obtain ⟨its, r, ⟨⟨cls, dd, data, sl⟩, ho, hc, n, hd⟩, hs⟩ := I.tuple (ha.sq (K := X.K))
  simp only at hc hd
  subst hc hd
  have ni : its.toArray.isEmpty = false := by
    cases its with
    | nil =>
      cases r
      exact absurd rfl ne
    | cons _ _ => rfl
  rcases hk with rfl | rfl
  · refine wpAny_binaryOp_repeat_ref (T := "tuple") (U := "int") (by decide) ⟨_, ho, rfl⟩ (fun s' => typeIs_int s' 0 t) noFill_tuple_mul F.fills_int_mul F.slot_int_rmul repeat_tuple F.slot_int_index.lookup
      (call_meets F.slot_int_rmul (typeIs_int s 0 t) F.entry_int_rmul (F.args_int_rmul_2 _ _) (int_rmul_tuple 0 t a its.toArray n dd sl)
        ⟨ho, rfl, ⟨_, ho, rfl⟩, call_meets F.slot_tuple_mul ⟨_, ho, rfl⟩ F.entry_tuple_mul (F.args_tuple_mul_2 _ _) (tuple_mul0 a its.toArray n dd sl t ni) ⟨ho, ?_⟩⟩)
    exact newF I .nil (Nat.zero_le _) (fun v H' s' _ h => q v H' s' (.inl h)) s.toks
  · refine wpAny_binaryOp_repeat_ref (T := "tuple") (U := "int") (by decide) ⟨_, ho, rfl⟩ (fun s' => typeIs_int s' 1 t) noFill_tuple_mul F.fills_int_mul F.slot_int_rmul repeat_tuple F.slot_int_index.lookup
      (call_meets F.slot_int_rmul (typeIs_int s 1 t) F.entry_int_rmul (F.args_int_rmul_2 _ _) (int_rmul_tuple 1 t a its.toArray n dd sl)
        ⟨ho, rfl, ⟨_, ho, rfl⟩, call_meets F.slot_tuple_mul ⟨_, ho, rfl⟩ F.entry_tuple_mul (F.args_tuple_mul_2 _ _) (tuple_mul1 a its.toArray n dd sl t) ⟨ho, ?_⟩⟩)
    exact ⟨.ref a, H, I, rfl, q a H (Same.refl H) ha⟩
/-- the keys of a dict, all ints -/
def KeysI (kvs : List (Key × V)) (ks : List Int) : Prop := kvs.map (·.1) = ks.map Sum.inl
theorem KeysI.len {kvs : List (Key × V)} {ks : List Int} (h : KeysI kvs ks) : kvs.length = ks.length := by
  have z := congrArg List.length h
  rwa [List.length_map, List.length_map] at z
theorem KeysI.put {kvs : List (Key × V)} {ks : List Int} (h : KeysI kvs ks) (nd : ks.Nodup) (k : Int) (v : V) : ∃ ks', KeysI (putK kvs (Sum.inl k) v) ks' ∧ ks'.Nodup ∧ ∀ j, j ∈ ks' ↔ j ∈ ks ∨ j = k := by
  unfold putK
  by_cases hk : (kvs.any fun kv => decide (kv.1 = Sum.inl k)) = true
  · rw [if_pos hk]
    refine ⟨ks, ?_, nd, fun j => ⟨.inl, ?_⟩⟩
    · unfold KeysI at h ⊢
      rw [← h, List.map_map]
      refine List.map_congr_left fun q _ => ?_
      show (if q.1 = Sum.inl k then (q.1, v) else q).1 = q.1
      split <;> rfl
    · rintro (z | rfl)
      · exact z
      · obtain ⟨q, hq, e⟩ := List.any_eq_true.mp hk
        have z : (Sum.inl j : Key) ∈ kvs.map (·.1) := by
          rw [← of_decide_eq_true e]
          exact List.mem_map_of_mem hq
        rw [h] at z
        obtain ⟨i, hi, e2⟩ := List.mem_map.mp z
        rw [← Sum.inl.inj e2]
        exact hi
  · rw [if_neg hk]
    have nk : k ∉ ks := fun hm => hk (by
      have z : (Sum.inl k : Key) ∈ kvs.map (·.1) := by
        rw [h]
        exact List.mem_map_of_mem hm
      obtain ⟨q, hq, e⟩ := List.mem_map.mp z
      exact List.any_eq_true.mpr ⟨q, hq, decide_eq_true e⟩)
    refine ⟨ks ++ [k], ?_, ?_, fun j => by rw [List.mem_append, List.mem_singleton]⟩
    · unfold KeysI at h ⊢
      rw [List.map_append, List.map_append, h]
      rfl
    · rw [List.nodup_append]
      refine ⟨nd, by simp, fun a ha b hb => ?_⟩
      rw [List.mem_singleton.mp hb]
      rintro rfl
      exact nk ha
/-- sorted(d), all keys ints -/
def rSortedDI : List V → Hp → VK → Prop := fun xs H Q => ∃ (a : Addr) (kvs : List (Key × V)) (ks : List Int), xs = [.ref a] ∧ H a = some (.dK kvs) ∧ KeysI kvs ks ∧ ks.length ≤ 4000 ∧
  ∀ (ys : List Int) (p : Addr), ys.Perm ks → ys.Pairwise (· ≤ ·) → H p = none → Q (.ref p) (upd H p (.lst (ys.map V.int)))
theorem cr_sortedDI (hc : X.calm = true) : CallR X (.builtin "sorted") rSortedDI := by
  intro pins s σ H xs us Q I r h
  obtain ⟨a, kvs, ks, rfl, hd, hks, few, q⟩ := h
  rw [Vals.ref1 r]
  obtain ⟨z, lo, vs, rel, dd⟩ := dk_rd I.hok (.inl hd)
  obtain ⟨ep, hat⟩ := dd.dictAt
  have keys : vs.map (·.1) = ks.map Sum.inl := rel.keys.symm.trans hks
  have len : vs.length = ks.length := by
    have y := congrArg List.length keys
    rwa [List.length_map, List.length_map] at y
  have small : vs.length ≤ sizeLine := by
    rw [len, sizeLine_eq]
    omega
  refine Calls.call_function_entry kind_sorted plain_sorted entry_sorted (args_sorted1 _) ?_
  unfold Builtin.«sorted»
  refine wpAny_bind (m := checkCount "sorted" 1 1 _) (wpAny_pure (wpAny_bind (PySem.W.kdu_collect (A := X.A.in1) (PySem.W.kdl_dict (knd := mixKind X.prog X.w) (kvs := vs) (ep := ep) lo) (I.ok.hd hc) hat small fun h' tk acc hk hacc => ?_)))
  have rv : Vals (vs.map fun p => kV p.1) acc.toList := keys_at (by rw [Array.length_toList, hacc.1]) fun j v e => hacc.2 j v (by rw [← Array.getElem?_toList]; exact e)
  have rv2 : Vals (ks.map V.int) acc.toList := by
    have y : (vs.map fun p => kV p.1) = ks.map V.int := by
      have y1 : (vs.map fun p => kV p.1) = (vs.map (·.1)).map kV := by rw [List.map_map]; rfl
      rw [y1, keys, List.map_map]
      rfl
    rwa [y] at rv
  have hI := rv2.ints
  have alen : acc.toList.length ≤ sizeLine := by
    rw [Array.length_toList, hacc.1]
    exact small
  have I1 : Inv X pins σ H { s with heap := h', toks := tk } := I.kept hk
  refine wpAny_bind (wpAny_newList ?_ alen)
  have at1 : (h'.push (seqObj "list" acc.toList.toArray 0)).get? h'.objs.size = some (seqObj "list" acc.toList.toArray 0) := Heap.get?_push_size _ rfl
  show wpAny _ _ _ _ _ { s with heap := h'.push (seqObj "list" acc.toList.toArray 0), toks := tk }
  refine wpAny_bind (wpAny_holding (wpAny_call_entry slot_list_sort ⟨_, at1, rfl⟩ entry_list_sort (SrtO.list_sort_ord SrtO.swo_int (s := { s with heap := h'.push (seqObj "list" acc.toList.toArray 0), toks := tk }) at1 alen (fun h2 => SrtO.ints_sortable hI h2) fun out h1 h2 => ⟨_, rfl, ?_⟩) (args_list_sort _)))
  obtain ⟨k3, k4, k5⟩ := SrtO.ints_out hI h1 h2
  obtain ⟨c, hcc⟩ := sortedHeap_at (vs := acc.toList) (out := out.toArray) at1
  have olen : ((out.map SrtO.iv).map V.int).length ≤ sizeLine := by
    rw [List.length_map, k4.length_eq, sizeLine_eq]
    omega
  refine wpAny_pure ⟨_, rfl, .ref h'.objs.size, upd H h'.objs.size (.lst ((out.map SrtO.iv).map V.int)), I1.laid (t' := tk) (fun b u e => ?_) (Nat.le_refl _) (show ObjOk X.prog X.w _ _ _ (.lst _) from ⟨olen, out, c, vals_of_ints k3, hcc⟩), rfl, q _ _ k4 k5 (I1.hok.fresh (Nat.le_refl _))⟩
  have lt : b < h'.objs.size := Heap.lt_size e
  rw [sortedHeap_old (Nat.ne_of_lt lt) (by rw [size_push']; exact Nat.lt_succ_of_lt lt)]
  exact Heap.get?_push_of_some _ e
end
end Su
/-! ### SG: l.extend(t), t a tuple; rows that are written -/
namespace Su
open PySem PySem.Spec PyProof.Rows L2
theorem ext_tup (l : Addr) (items : Array Value) (n : Nat) (b : Addr) (more : Array Value) (m : Nat) (dd : Option Addr) (sl : Array (Option Value)) (h0 : ¬(!items.isEmpty && Builtin.List.listTooLong (items.size + more.size)) = true) (h1 : items.size ≤ sizeLine) (h2 : items.size + more.size ≤ sizeLine + 1) :
    Meets (Builtin.«list.extend» ⟨[.ref l, .ref b], []⟩) (fun _ R s => s.heap.get? l = some { cls := .type "list", data := .seq items n } ∧ s.heap.get? b = some { cls := .type "tuple", dict := dd, data := .seq more m, slots := sl } ∧
      R (.ok (.ret .none)) { s with heap := s.heap.update l (Obj.mapSeq fun x => x ++ more) }) :=
  .of_wp fun prog w A R s h => by
    obtain ⟨hp, g, d, tk, os⟩ := s
    obtain ⟨hl, hb, h⟩ := h
    have f1 := AutoSeq1.idx_int
    have f2 := F.sub_tuple_tuple
    have f3 := F.sub_list_list
    have f4 := F.sub_tuple_list
    have f5 := F.sub_list_tuple
    have fits : (items ++ more).size ≤ sizeLine + 1 := by
      rw [Array.size_append]
      exact h2
    wp_walk using (wpAny_updateSeq hl rfl (hz := h1) (_hz' := fits)), wpAny_loadPart' hl, wpAny_loadPart' hb
    exact ⟨_, rfl, h⟩
section
variable {X : Cx}
def rExtT (K : PySem.W.Frag) : V → List V → Hp → VK → Prop := fun x vs H Q => ∃ l b xs zs, x = .ref l ∧ vs = [.ref b] ∧ H l = some (.lst xs) ∧ SqT K H b zs ∧ xs.length + zs.length ≤ sizeLine ∧ Q .non (upd H l (.lst (xs ++ zs)))
theorem mt_extT : MtM X "list.extend" (rExtT X.K) := by
  intro pins s σ H x vs v us Q I rx rv h
  obtain ⟨l, b, xs, zs, rfl, rfl, hH, hB, hz, q⟩ := h
  cases rx
  obtain ⟨u, rfl, ru⟩ := rv.one
  cases ru
  obtain ⟨z, its, n, r, hl, e⟩ := I.lstM hH
  obtain ⟨it2, r2, ⟨⟨cls, dd, data, sl⟩, ho, hc, m, hd⟩, _⟩ := I.tuple hB
  simp only at hc hd
  subst hc hd
  have hl2 := r2.length
  have fit : its.toArray.size + it2.toArray.size ≤ sizeLine := by
    rw [List.size_toArray, List.size_toArray]
    omega
  have short : ¬ (!its.toArray.isEmpty && Builtin.List.listTooLong (its.toArray.size + it2.toArray.size)) = true := by
    rw [notLongL fit, Bool.and_false]
    exact Bool.false_ne_true
  refine call_meets F.slot_list_extend ⟨_, e, rfl⟩ F.entry_list_extend (F.args_list_extend_2 _ _) (ext_tup l its.toArray n b it2.toArray m dd sl short (by rw [List.size_toArray]; omega) (by omega)) ⟨e, ho, ?_⟩
  refine ⟨.non, _, I.lset (its' := its ++ it2) hH e (by simp) (r.append r2) ?_, rfl, q⟩
  rw [List.length_append]
  omega
end
/-! written rows -/
def risB (hi : Int) : Int → List Int → Bool
  | _, [] => true
  | lo, k :: r => decide (lo ≤ k) && decide (k ≤ hi) && risB hi (k + 1) r
theorem ris_of {hi : Int} : ∀ {lo : Int} {l : List Int}, risB hi lo l = true → Ris lo hi l
  | _, [], _ => ⟨List.Pairwise.nil, fun _ h => (List.not_mem_nil h).elim, fun _ h => (List.not_mem_nil h).elim⟩
  | lo, k :: r, h => by
    unfold risB at h
    rw [Bool.and_eq_true, Bool.and_eq_true, decide_eq_true_eq, decide_eq_true_eq] at h
    have z := ris_of h.2
    refine ⟨List.pairwise_cons.mpr ⟨fun x hx => by have := z.lo x hx; omega, z.pw⟩, fun x hx => ?_, fun x hx => ?_⟩
    · rcases List.mem_cons.mp hx with e | e
      · rw [e]
        exact h.1.1
      · have := z.lo x e
        omega
    · rcases List.mem_cons.mp hx with e | e
      · rw [e]
        exact h.1.2
      · exact z.hi x e
def rowB (n : Nat) (r : Rw) : Bool := risB 99 0 r.1 && decide (r.1.length ≤ 6) && risB ((n : Int) - 1) 0 r.2
theorem row_of {n : Nat} {r : Rw} (h : rowB n r = true) : RowOk n r := by
  unfold rowB at h
  rw [Bool.and_eq_true, Bool.and_eq_true, decide_eq_true_eq] at h
  exact ⟨ris_of h.1.1, h.1.2, ris_of h.2⟩
def webB (A : List Int) (rs : List Rw) : Bool := decide (1 ≤ rs.length) && decide (rs.length ≤ 80) && rs.all (rowB rs.length) && decide (A.length ≤ 12) && (allRooms rs).all (fun k => decide (k ∈ A))
theorem web_of {A : List Int} {rs : List Rw} (h : webB A rs = true) : WebOk rs := by
  unfold webB at h
  simp only [Bool.and_eq_true, decide_eq_true_eq, List.all_eq_true] at h
  exact ⟨h.1.1.1.1, h.1.1.1.2, fun r hr => row_of (h.1.1.2 r hr), A, h.1.2, h.2⟩
def upto (n : Nat) : List Int := (List.range n).map fun i => ((i : Nat) : Int)
theorem upto_rg (n : Nat) : rgV 0 (n : Int) = (upto n).map V.int := by
  unfold rgV upto
  rw [List.map_map, show ((n : Int) - 0).toNat = n by omega]
  refine List.map_congr_left fun i _ => ?_
  show V.int (0 + (i : Nat)) = V.int (i : Int)
  rw [Int.zero_add]
theorem upto_mem {n : Nat} {k : Int} : k ∈ upto n ↔ 0 ≤ k ∧ k < n := by
  unfold upto
  rw [List.mem_map]
  constructor
  · rintro ⟨i, hi, rfl⟩
    have := List.mem_range.mp hi
    omega
  · intro h
    exact ⟨k.toNat, List.mem_range.mpr (by omega), by omega⟩
theorem upto_pw (n : Nat) : (upto n).Pairwise (· < ·) := by
  unfold upto
  rw [List.pairwise_map]
  exact List.pairwise_lt_range.imp fun h => by omega
end Su
/-! ### SI: a comprehension within another one -/
namespace Su
open PySem PySem.Spec PyProof.Rows L2
theorem blkOk_in {N : List Str} {sc scope : Scope} {own : List (Str × Nat)} (fr : List Str) (h : blkC N { kind := .function, names := fr.map fun x => (x, NameKind.cell), isGenerator := false, isCoroutine := false } scope own = true)
    (h2 : ∀ x ∈ fr, sc.names.lookup x = some .cell ∨ sc.names.lookup x = some .free) : BlkOk N sc scope own := by
  have b := blkOk_by h
  refine ⟨b.kind, b.uniq, b.ix, fun y hy e => ?_, b.own⟩
  refine h2 y.1 ?_
  have key : ∀ (l : List Str) (x : Str) (k : NameKind), (l.map fun x => (x, NameKind.cell)).lookup x = some k → x ∈ l := by
    intro l
    induction l with
    | nil =>
      intro x k e
      simp at e
    | cons a l ih =>
      intro x k e
      rw [List.map_cons, List.lookup_cons] at e
      by_cases hx : (x == a) = true
      · rw [eq_of_beq hx]
        exact List.mem_cons_self
      · rw [Bool.not_eq_true] at hx
        rw [hx] at e
        exact List.mem_cons_of_mem _ (ih x k e)
  rcases b.free y hy e with z | z
  · exact key _ _ _ z
  · exact key _ _ _ z
end Su
/-! ### XA: an exception that is caught and kept -/
namespace Su
open PySem PySem.Spec PyProof.Rows L2
/-- at a: an exception of the class cls, its dict at d -/
def exK (a : Addr) (cls : Value) (d : Option Addr) : HO := .ext fun h => ∃ (oe : Obj) (vs : Array Value), h.get? a = some oe ∧ Zc cls d oe ∧ oe.data = .fields vs
theorem exK_ok {P : Program} {w : World} {H : Hp} {h : Heap} {a : Addr} {cls : Value} {d : Option Addr} {oe : Obj} {vs : Array Value} (e : h.get? a = some oe) (z : Zc cls d oe) (hd : oe.data = .fields vs) : ObjOk P w H h a (exK a cls d) := by
  refine ⟨⟨oe, vs, e, z, hd⟩, ⟨oe, e⟩, fun h1 h2 p k => ?_⟩
  obtain ⟨o, v, e1, z1, d1⟩ := p
  exact ⟨o, v, k _ e1, z1, d1⟩
section
variable {X : Cx} {pins : List (Addr × Obj)} {σ : L2.St} {H : Hp} {s : Shared}
/-- what is new since the entry may be tracked from now on -/
theorem track {a : Addr} {o : HO} (I : Inv X pins σ H s) (ha : H a = none) (h0 : X.s_0.heap.get? a = none) (nl : a ≠ X.env.locals) (nc : ∀ x c, X.env.cells.lookup x = some c → c ≠ a) (np : ∀ p ∈ X.pn ++ pins, p.1 ≠ a)
    (new : ObjOk X.prog X.w (upd H a o) s.heap a o) : Inv X pins σ (upd H a o) s where
  ok := I.ok
  os := I.os
  bare := I.bare
  base := {
    keep := I.base.keep
    slot := I.base.slot
    free := fun b u q n x => by
      rw [upd_ne fun z => by rw [z, h0] at q; cases q]
      exact I.base.free b u q n x
    there := I.base.there
    tups := fun b xs q => by
      have z := I.base.tups b xs q
      rw [upd_ne (ne_of_none z ha)]
      exact z
    frzs := fun b u v q => by
      have z := I.base.frzs b u v q
      rw [upd_ne (ne_of_none z ha)]
      exact z
    tbls := fun b ps q => by
      obtain ⟨more, z⟩ := I.base.tbls b ps q
      exact ⟨more, by rw [upd_ne (ne_of_none z ha)]; exact z⟩ }
  loc := I.loc
  cell := I.cell
  free := by
    rw [upd_ne nl.symm]
    exact I.free
  freeC := fun x c e => by
    rw [upd_ne (nc x c e)]
    exact I.freeC x c e
  pin := fun p hp => by
    obtain ⟨p1, p2, p3⟩ := I.pin p hp
    exact ⟨p1, by rw [upd_ne (np p hp)]; exact p2, p3⟩
  hok := HOk.laidN I.hok (fun _ _ q => q) ha new
  len := I.len
end
def wKeep (K : PySem.W.Frag) (c : Value) (i : Nat) (ts : Addr → TS) (Wo : WX) (D : Ends) : WX := fun cls d σ H =>
  ∃ b, PySem.W.exmOne K cls c = some b ∧
    (b = true → ∀ a, H a = none → ts a { nx := fun σ' H' => D.nx (σ'.set i none) (upd H' a (exK a cls d)), rt := fun _ _ => False, bk := fun _ _ => False, ct := fun _ _ => False } (σ.set i (some (.ref a))) H) ∧
    (b = false → Wo cls d σ H)
section
variable {X : Cx} {x n : Str} {c : Value} {i : Nat} {body suite : List Stmt} {b0 : Stmt} {np pos pos' : Pos} {tb : WX → TS} {ts : Addr → TS} {Wo : WX}
/-- try: .. except x as n: suite, the exception tracked behind the suite -/
theorem ps_try_keep (hex : X.ex = []) (hs : X.stack = X.env :: X.outer) (hf : X.env.frame = some X.env.locals) (hN : X.N.Nodup) (hi : X.N[i]? = some n) (hln : X.env.kindOf n = some .local) (hc : Names X x c) (tk : Takes X Wo)
    (hb : ∀ (W : WX) (pn : List (Addr × Obj)) (xe : Value → Shared → Prop), Takes (X.tr pn xe) W → PassesOwn (model X.prog X.w) X.A X.env xe → PSs (X.tr pn xe) body (tb W))
    (hsu : ∀ (a : Addr) (oe : Obj) (pn : List (Addr × Obj)), PSs (X.suite a ((a, oe) :: pn)) (b0 :: suite) (ts a)) :
    PS X (.Try body [.ExceptHandler (some (.Name x np)) (some n) (b0 :: suite) pos'] [] [] pos) (fun D σ H => tb (wKeep X.K c i ts Wo D) D σ H) := by
  refine ⟨fun pins s σ H D I h => ?_⟩
  have ok := I.ok
  have frm : X.A.frames = some (X.env :: X.outer) := by
    rw [ok.frames, hs]
  refine wpAny_Try_except ?_
  refine wpAny_mono ((hb (wKeep X.K c i ts Wo D) (X.pn ++ pins) (fun u t => wpAny (model X.prog X.w) X.A (noteFrame u X.env) (fun _ t2 => wpAny (model X.prog X.w) X.A (setFlight u none) (fun _ t3 =>
    wpAny (model X.prog X.w) X.A (handleBy u X.env [.ExceptHandler (some (.Name x np)) (some n) (b0 :: suite) pos']) (SP X pins D) X.xe t3) X.xe t2) X.xe t) (fun u t xx => ?_) PassesOwn.looking).run [] s σ H D (I.toTry _) h) (fun fl t hsp => ?_) (fun _ _ z => z)
  · obtain ⟨a, B, sI, pins2, τ, G, cls, d, rfl, Jt, nb, up, sky, na, os, ag, b, hb1, hyes, hno⟩ := xx
    have J : Inv X pins τ G sI := Jt.ofTry ok
    have sky2 : Sky B (X.env :: X.outer) a (Zc cls d) X.env.locals t.heap := by
      rw [← hs]
      exact sky
    show wpAny (model X.prog X.w) X.A (noteFrame (.ref a) X.env) _ _ _
    refine Sky.land Zc.steady frm hf sky2 fun g3 fl3 up3 => ?_
    have J3 : Inv X pins τ G { t with heap := g3 } := J.landed nb fl3.1 (up.trans up3) os ag
    obtain ⟨oe3, vs3, at3, zc3, dt3⟩ := fl3.there
    have nofr : a ∉ frs (X.env :: X.outer) := by
      intro hm
      obtain ⟨_, o', e', hnf⟩ := fl3.2.2.1.mem hm
      rw [at3] at e'
      cases e'
      exact hnf _ dt3
    have nL : a ≠ X.env.locals := fun z => nofr (List.mem_filterMap.mpr ⟨X.env, List.mem_cons_self, by rw [hf, z]⟩)
    have nF : a ∉ X.fs := by
      intro hm
      obtain ⟨e, he, q⟩ := List.mem_filterMap.mp hm
      exact nofr (List.mem_filterMap.mpr ⟨e, List.mem_cons_of_mem _ he, q⟩)
    -- it wasn't there ahead
    have gone : sI.heap.get? a = none := by
      cases z : sI.heap.get? a with
      | none => rfl
      | some o =>
        have y := nb a o z (by rw [hs]; exact nofr)
        rw [fl3.2.1] at y
        cases y
    have gone0 : X.s_0.heap.get? a = none := by
      cases z : X.s_0.heap.get? a with
      | none => rfl
      | some o =>
        obtain ⟨o', y⟩ := J.base.there a o z (by rw [hex]; simp)
        rw [gone] at y
        cases y
    have noc : ∀ y k, X.env.cells.lookup y = some k → k ≠ a := by
      rintro y k e rfl
      obtain ⟨v, o, e1, _⟩ := J.cell y k e
      rw [gone] at e1
      cases e1
    have nop : ∀ q ∈ X.pn ++ pins, q.1 ≠ a := by
      intro q hq e
      have y := (J.pin q hq).1
      rw [e, gone] at y
      cases y
    have S3 := J3.suite at3 dt3 na nL nF
    refine wpAny_handleBy_cons (codeAny_handlers_test ?_) (by intro q; cases q)
    have LT : PySem.W.Looks (model X.prog X.w) g3 (typeOf (.ref a)) cls := fun A Q E s k q => wpAny_typeOf_ref (k _ _ at3) (by rw [zc3.1]; exact q)
    have LM := PySem.W.exm_one (M := model X.prog X.w) (J3.kIn) LT hb1
    have asked : ∀ {Q : Value → Shared → Prop} {E : Value → Shared → Prop}, Q c { t with heap := g3 } → wpAny (model X.prog X.w) (X.A.mark (some (.ref a))) (eval (.Name x np) X.env) Q E { t with heap := g3 } := by
      intro Q E q
      obtain ⟨hg, hdbg, hm | ⟨hm, hv, hnn⟩⟩ := hc
      · exact ld_glob (X := X.suite a ((a, oe3) :: (X.pn ++ pins))) S3 hg hm q hdbg
      · exact ld_blt (X := X.suite a ((a, oe3) :: (X.pn ++ pins))) S3 hg hm hv q hnn hdbg
    refine asked (LM.here ?_)
    cases b with
    | true =>
      refine codeAny_handlers_suite_as (HandSPX.lands_againZ fl3 fun g4 fl4 up4 => ?_)
      have J4 : Inv X pins τ G { t with heap := g4 } := J.landed nb fl4.1 ((up.trans up3).trans up4) os ag
      obtain ⟨oe4, vs4, at4, zc4, dt4⟩ := fl4.there
      have S4 := J4.suite at4 dt4 na nL nF
      refine store_ok (X := X.suite a ((a, oe4) :: (X.pn ++ pins))) (v := .ref a) S4 hN hi (.inl hln) rfl (fun t5 S5 => ?_) (.inr hln)
      refine wpAny_mono ((hsu a oe4 (X.pn ++ pins)).run [] t5 _ G _ S5 (hyes rfl a na)) (fun fl t6 hsp => ?_) (fun _ _ z => False.elim z)
      cases fl with
      | next =>
        obtain ⟨τ6, G6, S6, q6⟩ := hsp
        obtain ⟨p1, p2, _⟩ := S6.pin (a, oe4) (List.mem_append_left _ List.mem_cons_self)
        have J6 : Inv X pins τ6 (upd G6 a (exK a cls d)) t6 := track (S6.unsuite ok) p2 gone0 nL noc nop (exK_ok p1 zc4 dt4)
        exact gone_ok J6 hN hi hln fun t7 J7 => ⟨_, _, J7, q6⟩
      | brk =>
        obtain ⟨_, _, _, q6⟩ := hsp
        exact False.elim q6
      | cont =>
        obtain ⟨_, _, _, q6⟩ := hsp
        exact False.elim q6
      | ret u =>
        obtain ⟨_, _, _, _, _, q6⟩ := hsp
        exact False.elim q6
    | false =>
      show wpAny _ X.A (handleBy (.ref a) X.env []) _ _ _
      refine wpAny_handleBy_nil ?_
      obtain ⟨k1, k2, k3, oe, vs, T, oT, ts', he, hz, hd, h1, hr⟩ := id fl3
      unfold PySem.passOn
      refine wpAny_bind (wpAny_field he hd h1 ?_)
      rw [if_neg (show ¬ ((Value.ref T == Value.none) = true) from by simp)]
      have away : wpAny (model X.prog X.w) X.A (setFlight (.ref a) X.env.frame) (fun _ t4 => wpAny (model X.prog X.w) X.A (throw (.ref a) : Sem Flow) (SP X pins D) X.xe t4) X.xe { t with heap := g3 } := by
        rw [hf]
        refine HandSPX.setFlight_upZ fl3 fun g4 hh4 up4 => wpAny_throw (tk _ _ ?_)
        exact ⟨a, B, sI, pins, τ, G, cls, d, rfl, J, nb, (up.trans up3).trans up4, .inr (.inr (by rw [hs]; exact hh4)), na, os, ag, hno rfl⟩
      first
        | exact wpAny_bind (wpAny_pure (wpAny_bind away))
        | exact wpAny_bind away
  · cases fl with
    | next =>
      obtain ⟨τ, G, J, q⟩ := hsp
      exact wpAny_execs_nil ⟨τ, G, J.ofTry ok, q⟩
    | brk =>
      obtain ⟨τ, G, J, q⟩ := hsp
      exact ⟨τ, G, J.ofTry ok, q⟩
    | cont =>
      obtain ⟨τ, G, J, q⟩ := hsp
      exact ⟨τ, G, J.ofTry ok, q⟩
    | ret u =>
      obtain ⟨v, τ, G, J, r, q⟩ := hsp
      exact ⟨v, τ, G, J.ofTry ok, r, q⟩
end
end Su
/-! ### XB: what is asked of a kept exception: isinstance, a field -/
namespace Su
open PySem PySem.Spec PyProof.Rows L2
/-- what the written part says of an own exception class -/
structure ExcT (K : PySem.W.Frag) (C : Addr) : Prop where
  cl : (PySem.W.clsIn K C).isSome = true
  ga : PySem.W.findIn K (.ref C) "__getattribute__" = some (some (.builtin "BaseException.__getattribute__"))
  gg : PySem.W.findIn K (.ref C) "__getattr__" = some none
  sub : PySem.W.subIn K (.ref C) (.type "BaseException") = some true
  cc : PySem.W.findIn K (.ref C) "__class__" = some (some (.builtin "object.__class__"))
  sp : PySem.W.specialIn K (.builtin "object.__class__") "__get__" = some (some (.builtin "getset_descriptor.__get__"))
  tk : PySem.W.takesIn K (.builtin "object.__class__") = some true
  mr : PySem.W.mroIn K C (.type "object") = some true
  hd : PySem.W.hasDictIn K C = true
/-- its dict, if it has one, is told -/
def XdAt (H : Hp) (d : Option Addr) : Prop := ∀ dd, d = some dd → ∃ fs, H dd = some (.xd fs)
section
variable {X : Cx} {pins : List (Addr × Obj)} {σ : L2.St} {H : Hp} {s : Shared}
theorem exK_inst {a C : Addr} {d : Option Addr} (I : Inv X pins σ H s) (e : H a = some (exK a (.ref C) d)) (hd : XdAt H d) : ∃ (ox : Obj) (od : Option Obj), PySem.W.InstAt s.heap a ox C od := by
  obtain ⟨oe, vs, e1, z, dt⟩ := (I.hok a _ e).1
  have no : PySem.W.notCls oe = true := by
    unfold PySem.W.notCls
    rw [dt]
  cases d with
  | none => exact ⟨oe, none, e1, z.1, no, by rw [z.2]; trivial⟩
  | some dd =>
    obtain ⟨fs, hx⟩ := hd dd rfl
    obtain ⟨mA, hns, _⟩ := (show ObjOk X.prog X.w H s.heap dd (.xd fs) from I.hok dd _ hx)
    obtain ⟨od, ho, _⟩ := lookIn_ns hns
    exact ⟨oe, some od, e1, z.1, no, by rw [z.2]; exact ho⟩
theorem exK_kit {a C : Addr} {d : Option Addr} (T : ExcT X.K C) (I : Inv X pins σ H s) (e : H a = some (exK a (.ref C) d)) (hd : XdAt H d) : ∃ P : Heap → Prop, PySem.W.KitX X.K (.ref a) (.ref C) P ∧ P s.heap := by
  obtain ⟨ox, od, J⟩ := exK_inst I e hd
  exact ⟨_, PySem.W.kitx_exc T.cl T.ga T.gg T.sub T.cc T.sp T.tk T.mr, J⟩
/-- isinstance(e, c) -/
def rIsiE (K : PySem.W.Frag) : List V → Hp → VK → Prop := fun xs H Q => ∃ (a C : Addr) (d : Option Addr) (c : V) (u : Value) (b : Bool), xs = [.ref a, c] ∧ ClsV c u ∧ ExcT K C ∧ H a = some (exK a (.ref C) d) ∧ XdAt H d ∧ PySem.W.kitOne K (.ref C) u = some b ∧ Q (.bl b) H
theorem call_isiE : CallR X (.builtin "isinstance") (rIsiE X.K) := by
  intro pins s σ H xs us Q I r h
  obtain ⟨a, C, d, c, u, b, rfl, k, T, e, hd, ek, q⟩ := h
  obtain ⟨u1, u2, rfl, r1, r2⟩ := vals2 r
  cases r1
  have e2 := k.eq r2
  subst e2
  obtain ⟨P, Z, p⟩ := exK_kit T I e hd
  exact PySem.W.kia_one Z I.kIn p ek (fun z => nomatch z) fun tk => ⟨.bl b, H, I.tok tk, rfl, q⟩
/-- isinstance(e, (c, ..)) -/
def rIsiET (K : PySem.W.Frag) : List V → Hp → VK → Prop := fun xs H Q => ∃ (a C tp : Addr) (d : Option Addr) (cs : List V) (us : List Value) (b : Bool), xs = [.ref a, .ref tp] ∧ T2 H tp cs ∧ Paired ClsV cs us ∧ ExcT K C ∧ H a = some (exK a (.ref C) d) ∧ XdAt H d ∧
  PySem.W.kitAny K (.ref C) us = some b ∧ Q (.bl b) H
theorem call_isiET : CallR X (.builtin "isinstance") (rIsiET X.K) := by
  intro pins s σ H xs us Q I r h
  obtain ⟨a, C, tp, d, cs, ws, b, rfl, hT, k, T, e, hd, ek, q⟩ := h
  obtain ⟨u1, u2, rfl, r1, r2⟩ := vals2 r
  cases r1
  cases r2
  obtain ⟨P, Z, p⟩ := exK_kit T I e hd
  obtain ⟨its, rv, ⟨⟨oc, od, dt, sl⟩, h1, h2, n, h3⟩, _⟩ := I.tuple (hT.sq (K := X.K))
  have e3 := ClsV.all k rv
  subst e3
  simp only at h2 h3
  subst h2 h3
  exact PySem.W.kia_tup Z I.kIn p h1 ek (fun z => nomatch z) fun tk => ⟨.bl b, H, I.tok tk, rfl, q⟩
/-- e.f -/
def tXfld (K : PySem.W.Frag) (f : Str) (te : TE) : TE := fun σ H Q => te σ H fun x H1 => ∃ (a C dd : Addr) (fs : List (Str × V)) (v : V), x = .ref a ∧ ExcT K C ∧ PySem.W.findIn K (.ref C) f = some none ∧ H1 a = some (exK a (.ref C) (some dd)) ∧ H1 dd = some (.xd fs) ∧ fs.lookup f = some v ∧ Q v H1
theorem pe_xfld {e : Expr} {f : Str} {te : TE} {pos : Pos} (he : PE X e te) (hb : attributeBase e f X.env (eval e X.env) = eval e X.env := by rfl) : PE X (.Attribute e f pos) (tXfld X.K f te) := by
  refine ⟨fun pins s σ H Q I h => ?_⟩
  refine attr_of hb (thn (he.run pins s σ H _ I h) fun u s1 ⟨x, H1, I1, rx, a, C, dd, fs, v, ex, T, no, ea, ed, ef, q⟩ => ?_)
  subst ex
  cases rx
  obtain ⟨oe, vs, e1, z, dt⟩ := (I1.hok a _ ea).1
  obtain ⟨mA, hns, hr⟩ := (show ObjOk X.prog X.w H1 s1.heap dd (.xd fs) from I1.hok dd _ ed)
  obtain ⟨od, ho, hl⟩ := lookIn_ns hns
  obtain ⟨u, hu, ru⟩ := RelO.some_of (v := v) (o := mA f) (by rw [← ef]; exact hr f)
  have J : PySem.W.InstAt s1.heap a oe C (some od) := ⟨e1, z.1, by unfold PySem.W.notCls; rw [dt], by rw [z.2]; exact ho⟩
  exact HandSPX.exc_get I1.kIn J T.ga T.gg T.sub (PySem.W.findObj_own T.hd no rfl (by rw [hl, hu])) (handed_of ru) ⟨v, H1, I1.tok _, ru, q⟩
end
end Su
/-! ### XC: an own exception class, over another one, whose __init__ calls that of the built-in above and keeps a field -/
namespace Su
namespace XC
open PySem PySem.W PySem.Calls PyProof.Rows PySem.HandSPX Builtin Builtin.ObjectAttr
def inA (f : Str) (p1 p2 : Pos) : Arguments :=
  { posonlyargs := [], args := [{ arg := "self", annotation := none, pos := p1 }, { arg := f, annotation := none, pos := p2 }], vararg := none, kwonlyargs := [], kw_defaults := [], kwarg := none, defaults := [] }
def inB (f t : Str) (r1 r2 r3 r4 r5 r6 q1 q2 q3 q4 : Pos) : List Stmt :=
  [.Expr (.Call (.Attribute (.Call (.Name "super" r1) [] [] r2) "__init__" r3) [.Constant (.str t) 0 r4] [] r5) r6, .Assign [.Attribute (.Name "self" q1) f q2] (.Name f q3) q4]
def inS (f : Str) : Scope :=
  { kind := .function, names := [(PySem.Str.ofString "self", .local), (f, .local), (PySem.Str.ofString "__class__", .free), (PySem.Str.ofString "super", .globalImplicit)], isGenerator := false, isCoroutine := false, more := [] }
/-- a field's name -/
structure Fld (f : Str) : Prop where
  self : f ≠ "self"
  cl : f ≠ "__class__"
  su : f ≠ "super"
  db : (f == ("__debug__" : Str)) = false
  bnd : ∀ (q : Str) (p1 p2 : Pos) (bd : List Stmt) (doc pm : Value) (an : Option Addr) (cd ct : Value) (cc : Addr) (a b : Value), bindArgs (ksFn "__init__" q (inA f p1 p2) bd (inS f) .none .none doc pm an cd ct cc) ⟨[a, b], []⟩ = pure ([("self", a), (f, b)] : List (Str × Value))
  sw : ∀ (q : Str) (L a : Addr) (cd : Value) (cc : Addr) (t : Str) (r1 r2 r3 r4 r5 : Pos) (k : Nat), swapsWith (.Call (.Attribute (.Call (.Name "super" r1) [] [] r2) "__init__" r3) [.Constant (.str t) 0 r4] [] r5) none k (ksEnv q (inS f) L a cd cc) = pure false
  sx : ∀ (q : Str) (L a : Addr) (cd : Value) (cc : Addr) (q1 q2 q3 : Pos) (k : Nat), swapsWith (.Name f q3) (some (.Attribute (.Name "self" q1) f q2)) k (ksEnv q (inS f) L a cd cc) = pure false
theorem fld_row : Fld "row" := ⟨by decide, by decide, by decide, by decide, fun _ _ _ _ _ _ _ _ _ _ _ _ => by first | rfl | with_unfolding_all rfl, fun _ _ _ _ _ _ _ _ _ _ _ _ => by first | rfl | with_unfolding_all rfl, fun _ _ _ _ _ _ _ _ _ => by first | rfl | with_unfolding_all rfl⟩
theorem fld_number : Fld "number" := ⟨by decide, by decide, by decide, by decide, fun _ _ _ _ _ _ _ _ _ _ _ _ => by first | rfl | with_unfolding_all rfl, fun _ _ _ _ _ _ _ _ _ _ _ _ => by first | rfl | with_unfolding_all rfl, fun _ _ _ _ _ _ _ _ _ => by first | rfl | with_unfolding_all rfl⟩
theorem fld_part : Fld "part" := ⟨by decide, by decide, by decide, by decide, fun _ _ _ _ _ _ _ _ _ _ _ _ => by first | rfl | with_unfolding_all rfl, fun _ _ _ _ _ _ _ _ _ _ _ _ => by first | rfl | with_unfolding_all rfl, fun _ _ _ _ _ _ _ _ _ => by first | rfl | with_unfolding_all rfl⟩
theorem fld_room : Fld "room" := ⟨by decide, by decide, by decide, by decide, fun _ _ _ _ _ _ _ _ _ _ _ _ => by first | rfl | with_unfolding_all rfl, fun _ _ _ _ _ _ _ _ _ _ _ _ => by first | rfl | with_unfolding_all rfl, fun _ _ _ _ _ _ _ _ _ => by first | rfl | with_unfolding_all rfl⟩
theorem fld_to : Fld "to" := ⟨by decide, by decide, by decide, by decide, fun _ _ _ _ _ _ _ _ _ _ _ _ => by first | rfl | with_unfolding_all rfl, fun _ _ _ _ _ _ _ _ _ _ _ _ => by first | rfl | with_unfolding_all rfl, fun _ _ _ _ _ _ _ _ _ => by first | rfl | with_unfolding_all rfl⟩
theorem fld_name : Fld "name" := ⟨by decide, by decide, by decide, by decide, fun _ _ _ _ _ _ _ _ _ _ _ _ => by first | rfl | with_unfolding_all rfl, fun _ _ _ _ _ _ _ _ _ _ _ _ => by first | rfl | with_unfolding_all rfl, fun _ _ _ _ _ _ _ _ _ => by first | rfl | with_unfolding_all rfl⟩
/-- what the written part says of the class n at C, over the built-in B, with the field f, its __init__ at fI -/
structure Own (P : Program) (K : Frag) (mg : Str → Option Value) (n f : Str) (C fI : Addr) (B newId initId : String) (bmB : List Value) : Prop where
  fld : Fld f
  gC : mg n = some (.ref C)
  ini : excInitIn K C bmB newId = true
  ovr : excOver K C bmB = true
  base : ExcBaseFacts B newId initId bmB
  stor : StoreFacts B bmB "object.__setattr__" "object"
  kx : KxsFacts B initId
  sa : findIn K (.ref C) "__setattr__" = some (some (.builtin "object.__setattr__"))
  noN : findIn K (.ref C) f = some none
  iC : findIn K (.ref C) "__init__" = some (some (.ref fI))
  fC : isFn K (.ref fI) = true
  kC : keepIn K (.ref C) = true
  exC : subIn K (.ref C) (.type "BaseException") = some true
  tyC : typeIn K (.ref C) = some (.type "type")
  hdC : hasDictIn K C = true
  isB : subIn K (.ref C) (.type B) = some true
  sup : ks_superIn K C C "__init__" = some (some (.builtin initId))
  own : mroIn K C (.ref C) = some true
  nos : mg "super" = none
  opq : nsIn K cStatics "thirdparty.any" = some none
  ntop : (P.main.scope.names.lookup ("super" : Str)).isSome = false
  fn : ∃ (oc : Value) (od : Option Addr) (q : Str) (doc pm : Value) (an : Option Addr) (cda cc : Addr) (ct : Value) (osl : Array (Option Value)) (t : Str) (p1 p2 r1 r2 r3 r4 r5 r6 q1 q2 q3 q4 : Pos)
      (ccl : Value) (cdd : Option Addr) (vs : Array Value) (ccs : Array (Option Value)) (file : Str) (tf : Tok) (cl : Value) (cld : Option Addr) (csl : Array (Option Value)),
    K.lookup fI = some ⟨oc, od, .func (ksFn "__init__" q (inA f p1 p2) (inB f t r1 r2 r3 r4 r5 r6 q1 q2 q3 q4) (inS f) .none .none doc pm an (.ref cda) ct cc), osl⟩ ∧ codeIn K (.ref cda) q = true ∧
    K.lookup cda = some ⟨ccl, cdd, .fields vs, ccs⟩ ∧ vs[2]? = some (.str file tf) ∧ ((P.main.file : Str) == file) = true ∧ (r3.endLine == r5.line) = true ∧ K.lookup cc = some ⟨cl, cld, .cell (some (.ref C)), csl⟩
/-- what __init__ leaves of a fresh exception at x -/
structure Left (h h' : Heap) (x C dx t1 : Addr) (f : Str) (v : Value) : Prop where
  keep : ∀ b o, b ≠ x → h.get? b = some o → h'.get? b = some o
  obj : h'.get? x = some { cls := .ref C, dict := some dx, data := .fields #[.ref t1, .none, .none, .none, .bool false, .none] }
  dbig : h.objs.size ≤ dx
  dne : dx ≠ x
  ns : h'.Ns1 dx (fun y => if y = f then some v else none)
section
variable {P : Program} {w : World} {A : Around} {E : Value → Shared → Prop} {R : Result → Shared → Prop} {s : Shared} {K : Frag} {mg : Str → Option Value} {n f : Str} {C fI : Addr} {B newId initId : String} {bmB : List Value}
theorem ev_init {env : Env} {o : Expr} {m : Str} {t : Str} {r3 r4 r5 : Pos} (hl : (r3.endLine == r5.line) = true) : ∃ pl, eval (.Call (.Attribute o m r3) [.Constant (.str t) 0 r4] [] r5) env = (do
    let ov ← attributeBase o m env (eval o env); standAt r3.atName
    let (g, first) ← holding [ov] (getMethod ov m pl); callWith r5 g first (backTo r5 (starEach [.Constant (.str t) 0 r4] env)) []) := by
  have e1 : methodCallForm 1 (backTo r5 (starEach [.Constant (.str t) 0 r4] env)) (backToKw r5 (keywordEach [] env)) = true := rfl
  have e2 : methodCallPos true o env r3 r5 = pure r5 := by
    unfold methodCallPos
    rw [hl]
    rfl
  refine ⟨do return (← importBound o env).getD true, ?_⟩
  rw [arm_eval_Call]
  show (do let ov ← attributeBase o m env (eval o env); standAt r3.atName; methodCall o m r3 r5 env ov 1 (backTo r5 (starEach [.Constant (.str t) 0 r4] env)) (backToKw r5 (keywordEach [] env))) = _
  unfold methodCall
  rw [e1, e2]
  simp only [calleeOf, if_true, pure_bind]
  rfl
theorem put_new {x t1 : Addr} {v : Value} {tk : Tok} (T : Own P K mg n f C fI B newId initId bmB) (X : K.In s.heap) (hx : s.heap.get? x = some (excO C t1))
    (hq : ∀ h' tk' dx, (∀ b o, b ≠ x → s.heap.get? b = some o → h'.get? b = some o) → s.heap.objs.size ≤ dx → dx ≠ x → h'.get? x = some { cls := .ref C, dict := some dx, data := .fields #[.ref t1, .none, .none, .none, .bool false, .none] } →
      h'.Ns1 dx (fun y => if y = f then some v else none) → R (.ok (.ret .none)) { s with heap := h', toks := tk' }) :
    codeAny (model P w) A (.call (.builtin "object.__setattr__") ⟨[.ref x, .str f tk, v], []⟩) R s := by
  obtain ⟨cd, hc, hd⟩ := any_some T.hdC
  have hxs : x ≠ s.heap.objs.size := Nat.ne_of_lt (Heap.lt_size hx)
  refine osa_openX (od := none) (r := none) T.stor X ⟨hx, rfl, rfl, trivial⟩ T.ovr (by unfold takerIn; rw [T.noN]; rfl) fun b => ?_
  obtain ⟨hp, g, d, t, os⟩ := s
  refine wpAny_bind (wpAny_pure (wpAny_bind (instanceDict_exc hx (looks_clsIn X hc) hd ?_)))
  show wpAny _ _ (storeInDict hp.objs.size (.str f tk) f v) _ _ _
  refine store_in_new ?_ fun h' tk' hn' hs => ?_
  · exact ⟨_, #[], _, (Heap.get?_update_ne _ _ _ _ hxs.symm).trans (Heap.get?_push_at rfl rfl), rfl, fun e he => absurd he (by simp), fun _ => rfl⟩
  · have e1 : (hp.push (dictOf [] 0)).get? x = some (excO C t1) := Heap.get?_push_of_some _ hx
    exact hq h' tk' hp.objs.size (fun b o hb ho => (hs.2 b (Nat.ne_of_lt (Heap.lt_size ho))).trans ((Heap.get?_update_ne _ _ _ _ hb).trans (Heap.get?_push_of_some _ ho))) (Nat.le_refl _) hxs.symm ((hs.2 x hxs).trans (Heap.get?_update_self _ e1 rfl)) hn'
theorem kind_f (F : Fld f) : (inS f).names.lookup f = some .local := by
  show List.lookup f ((PySem.Str.ofString "self", NameKind.local) :: (f, NameKind.local) :: _) = _
  rw [List.lookup_cons, show (f == PySem.Str.ofString "self") = false from by simpa using F.self, List.lookup_cons, beq_self_eq_true]
theorem kind_c (F : Fld f) : (inS f).names.lookup ("__class__" : Str) = some .free := by
  show List.lookup ("__class__" : Str) ((PySem.Str.ofString "self", NameKind.local) :: (f, NameKind.local) :: (PySem.Str.ofString "__class__", NameKind.free) :: _) = _
  rw [List.lookup_cons, show (("__class__" : Str) == PySem.Str.ofString "self") = false from by decide, List.lookup_cons, show (("__class__" : Str) == f) = false from by simpa using Ne.symm F.cl, List.lookup_cons, show (("__class__" : Str) == PySem.Str.ofString "__class__") = true from by decide]
theorem kind_s (F : Fld f) : (inS f).names.lookup ("super" : Str) = some .globalImplicit := by
  show List.lookup ("super" : Str) ((PySem.Str.ofString "self", NameKind.local) :: (f, NameKind.local) :: (PySem.Str.ofString "__class__", NameKind.free) :: (PySem.Str.ofString "super", NameKind.globalImplicit) :: _) = _
  rw [List.lookup_cons, show (("super" : Str) == PySem.Str.ofString "self") = false from by decide, List.lookup_cons, show (("super" : Str) == f) = false from by simpa using Ne.symm F.su, List.lookup_cons, show (("super" : Str) == PySem.Str.ofString "__class__") = false from by decide, List.lookup_cons, show (("super" : Str) == PySem.Str.ofString "super") = true from by decide]
/-- the built-in's __init__, bound to x, called: its args are laid anew -/
theorem call_mw {u x t0 : Addr} {a : Value} {Q : Value → Shared → Prop} (T : Own P K mg n f C fI B newId initId bmB) (X : K.In s.heap) (hx : s.heap.get? x = some (excO C t0)) (hu : s.heap.get? u = some (kxs_mw initId x))
    (hq : ∀ h' t1, (∀ b o, b ≠ x → s.heap.get? b = some o → h'.get? b = some o) → h'.get? x = some (excO C t1) → Q .none { s with heap := h' }) : wpAny (model P w) A (call (.ref u) [a]) Q E s := by
  obtain ⟨nm, N', qn, bs, bm, hdct, sn, sub, ab, col, dd, k0, k1, k2, k3, k5, hC, hT⟩ := excInit_of X T.ini
  obtain ⟨hp, g, d, tk, os⟩ := s
  have z1 : (Value.type "method-wrapper" == Value.type "method" || Value.type "method-wrapper" == Value.type "builtin_function_or_method" || Value.type "method-wrapper" == Value.type "method-wrapper") = true := by decide
  refine wpAny_call (codeAny_of_tree (show wpAny _ A.in1 (callAny (.ref u) ⟨[a], []⟩) _ _ _ from ?_))
  simp only [callAny]
  refine wpAny_bind (wpAny_load hu (by simp only [kxs_mw, z1, if_true]; refine KFB.if_so (by decide) (wpAny_bind (check_bound_init T.base.toExcCallFacts hC hx rfl (wpAny_bind (wpAny_pure (wpAny_pure ?_))))); exact ⟨plainId_quiet T.base.init.plain _, codeAny_builtin T.base.initEntry (exc_init_tree (cls := .ref C) (t0 := t0) (dv := none) (c2 := .none) (c3 := .none) (b4 := .bool false) hx (by rw [sizeLine_eq]; exact (by decide : 1 ≤ 16777216)) fun h' k e _ => hq h' _ k e)⟩))
theorem x_init (T : Own P K mg n f C fI B newId initId bmB) {x t0 : Addr} {v : Value} (X : K.In s.heap) (hG : s.heap.Ns mainGlobals mg) (hB : ∃ mb, s.heap.Ns builtinsNs mb ∧ ∀ y : Str, y ≠ "__name__" → mb y = bootBuiltins y) (hlim : s.heap.NoLimit)
    (hx : s.heap.get? x = some (excO C t0)) (hnx : K.lookup x = none) (hroom : A.depth < recursionLimit) (hq : ∀ h' tk dx t1, Left s.heap h' x C dx t1 f v → R (.ok (.ret .none)) { s with heap := h', toks := tk }) :
    codeAny (model P w) A (.call (.ref fI) ⟨[.ref x, v], []⟩) R s := by
  obtain ⟨oc, od, q, doc, pm, an, cda, cc, ct, osl, t, p1, p2, r1, r2, r3, r4, r5, r6, q1, q2, q3, q4, ccl, cdd, vs, ccs, file, tf, cl, cld, csl, ho, hcd, hcode, hvs, hfile, hln, hcell⟩ := T.fn
  obtain ⟨hp, g, d, tk0, os⟩ := s
  refine ks_codeAny_call_defAt (fd := ksFn "__init__" q (inA f p1 p2) (inB f t r1 r2 r3 r4 r5 r6 q1 q2 q3 q4) (inS f) .none .none doc pm an (.ref cda) ct cc) (body := inB f t r1 r2 r3 r4 r5 r6 q1 q2 q3 q4) (binds := [("self", .ref x), (f, v)]) hroom (X _ _ ho) rfl hlim (codeRec_of X hcd) rfl
    (BindsTo.of_eq ?b) ?c ?l (fun h₁ hns k₁ => ?_) rfl rfl rfl
  case b => exact T.fld.bnd _ _ _ _ _ _ _ _ _ _ _ _
  case c =>
    intro y hy e
    rcases List.mem_cons.mp hy with rfl | hy
    · cases e
    rcases List.mem_cons.mp hy with rfl | hy
    · cases e
    rcases List.mem_cons.mp hy with rfl | hy
    · cases e
    rcases List.mem_cons.mp hy with rfl | hy
    · cases e
    cases hy
  case l =>
    intro y hy
    rcases List.mem_cons.mp hy with rfl | hy
    · rfl
    rcases List.mem_cons.mp hy with rfl | hy
    · exact kind_f T.fld
    cases hy
  have X1 : K.In h₁ := X.keeps k₁
  have hx1 := k₁ _ _ hx
  obtain ⟨mb, hb1, hb2⟩ := hB
  obtain ⟨cd, hc, hd⟩ := any_some T.hdC
  have lself : (fun y => List.lookup y ([("self", .ref x), (f, v)] : List (Str × Value)).reverse) "self" = some (.ref x) := by
    show List.lookup ("self" : Str) [(f, v), ("self", .ref x)] = _
    rw [List.lookup_cons, show (("self" : Str) == f) = false from by simpa using Ne.symm T.fld.self, List.lookup_cons, beq_self_eq_true]
  have lf : (fun y => List.lookup y ([("self", .ref x), (f, v)] : List (Str × Value)).reverse) f = some v := by
    show List.lookup f [(f, v), ("self", .ref x)] = _
    rw [List.lookup_cons, beq_self_eq_true]
  obtain ⟨oD, hD1, hD2⟩ : ∃ oD, h₁.get? C = some oD ∧ oD.data = .cls cd := by
    unfold clsIn at hc
    split at hc
    · rename_i c d cd' sl ho
      cases hc
      exact ⟨_, X1 _ _ ho, rfl⟩
    · cases hc
  show _root_.PySem.wpAt _ _ (.func _ (ksEnv q (inS f) hp.objs.size fI (.ref cda) cc)) (execs _ (ksEnv q (inS f) hp.objs.size fI (.ref cda) cc)) _ _ _
  obtain ⟨pl, ev⟩ := ev_init (env := ksEnv q (inS f) hp.objs.size fI (.ref cda) cc) (o := .Call (.Name "super" r1) [] [] r2) (m := "__init__") (t := t) (r4 := r4) hln
  refine ks_wpAt_execs_cons (ks_wpAt_Expr_any (ks_wpAt_MethodCall (pl := pl) ?_ ev) rfl (T.fld.sw _ _ _ _ _ _ _ _ _ _ _ _))
  refine ks_wpAt_super_base (env := ksEnv q (inS f) hp.objs.size fI (.ref cda) cc) (kind_s T.fld) (kind_c T.fld) (by decide) rfl (X1 _ _ ho) rfl rfl rfl (X1 _ _ hcode) rfl hvs hfile T.ntop ?_
  refine ks_loadName_global rfl (kind_s T.fld) (loadGlobal_builtin (env := ksEnv q (inS f) hp.objs.size fI (.ref cda) cc) (hG.keeps k₁) T.nos (hb1.keeps k₁) ((hb2 _ (by decide)).trans (show bootBuiltins "super" = some (.type "super") from by first | rfl | decide +kernel)) ⟨rfl, ?_⟩)
  refine wpAny_loadName_free rfl (kind_c T.fld) rfl ⟨_, X1 _ _ hcell, rfl⟩ (wpAny_loadName_local rfl rfl hns lself (ks_wpAny_isType_cls hD1 hD2 ⟨rfl, ?_⟩))
  refine ks_wpAny_call_super hD1 hD2 hx1 rfl (fun c e => by cases e) (looks_mroIn X1 T.own) (fun h2 e2 k2 => ?_)
  have X2 : K.In h2 := X1.keeps k2
  have hx2 := k2 _ _ hx1
  have Ix : InstAt h2 x (excO C t0) C none := ⟨hx2, rfl, rfl, trivial⟩
  have hm := T.sup
  unfold ks_superIn at hm
  rw [hc] at hm
  refine kxs_getMethod T.kx e2 (looks_opaque X2 T.opq) (l₀ := cd.mro) (fun A Q E s k q => wpAny_bind ((looks_clsIn X2 hc) A _ E s k (wpAny_pure q))) rfl X2 hm (Ix.type.andThen (looks_subIn X2 T.isB)) (ks_ne X2 Ix hc) (by decide) ?_
  have k3 : ∀ b o, h2.get? b = some o → (h2.push (kxs_mw initId x)).get? b = some o := fun b o e => Heap.get?_push_of_some _ e
  refine kxs_callWith (i := initId) (x := x) rfl (evalArgs_plain (spliced_more (wpAny_Constant_str (spliced_none ⟨Heap.get?_push_at rfl rfl, ?_⟩))))
  refine call_mw T (X2.keeps k3) (k3 _ _ hx2) (Heap.get?_push_at rfl rfl) fun h4 t1 k4 hx4 => ?_
  have kk : ∀ b o, h₁.get? b = some o → (h2.push (kxs_mw initId x)).get? b = some o := fun b o e => k3 _ _ (k2 _ _ e)
  have hxL : hp.objs.size ≠ x := Nat.ne_of_gt (Heap.lt_size hx)
  have n4 : h4.Ns hp.objs.size (fun y => List.lookup y ([("self", .ref x), (f, v)] : List (Str × Value)).reverse) := by
    obtain ⟨oL, es, ep, hL, r⟩ := hns.keeps kk
    exact ⟨oL, es, ep, k4 _ _ hxL hL, r⟩
  have X4 : K.In h4 := fun b o e => k4 b o (fun z => by rw [z, hnx] at e; cases e) (X2.keeps k3 b o e)
  have lt : hp.objs.size < h4.objs.size := n4.lt
  show _root_.PySem.wpAt _ _ _ (execs _ (ksEnv q (inS f) hp.objs.size fI (.ref cda) cc)) _ _ _
  refine ks_wpAt_execs_cons (ks_wpAt_Assign_Attr (wpAt_of_wpAny ?_) (T.fld.sx _ _ _ _ _ _ _ _ _))
  refine wpAny_Name (wpAny_loadName_local rfl (kind_f T.fld) n4 lf (wpAny_Name (wpAny_loadName_local rfl rfl n4 lself ?_) (by decide))) T.fld.db
  refine set_plain X4 (ox := excO C t1) (od := none) ⟨hx4, rfl, rfl, trivial⟩ T.sa (put_new T X4 hx4 fun h5 tk5 dx k5 dn dne hx5 hn5 => ?_)
  show _root_.PySem.wpAt _ _ _ (execs [] _) _ _ _
  refine wpAt_of_wpAny (wpAny_execs_nil (hq h5 tk5 dx t1 ⟨fun b o hb e => k5 b o hb (k4 b o hb (kk _ _ (k₁ _ _ e))), hx5, Nat.le_trans (Nat.le_of_lt lt) dn, dne, hn5⟩))
/-- n(v), made: its own dict at d holds the field -/
structure Made (h h' : Heap) (e C d : Addr) (f : Str) (v : Value) : Prop where
  keep : ∀ b o, h.get? b = some o → h'.get? b = some o
  new : h.objs.size ≤ e
  obj : ∃ oe us, h'.get? e = some oe ∧ oe.cls = .ref C ∧ oe.dict = some d ∧ oe.data = .fields us ∧ us[1]? = some .none
  dbig : h.objs.size ≤ d
  dne : d ≠ e
  ns : h'.Ns1 d (fun y => if y = f then some v else none)
theorem x_made (T : Own P K mg n f C fI B newId initId bmB) {v : Value} (X : K.In s.heap) (hG : s.heap.Ns mainGlobals mg) (hB : ∃ mb, s.heap.Ns builtinsNs mb ∧ ∀ y : Str, y ≠ "__name__" → mb y = bootBuiltins y) (hlim : s.heap.NoLimit) (hroom : A.depth + 1 < recursionLimit)
    (hq : ∀ h' tk e d, Made s.heap h' e C d f v → R (.ok (.ret (.ref e))) { s with heap := h', toks := tk }) : codeAny (model P w) A (.call (.ref C) ⟨[v], []⟩) R s := by
  obtain ⟨nm, N', qn, bs, bm, hdct, sn, sub, ab, col, dd, k0, k1, k2, k3, k5, hC, hT⟩ := excInit_of X T.ini
  obtain ⟨oI, hoI, hcI⟩ : ∃ oI, s.heap.get? fI = some oI ∧ oI.cls = .type "function" := by
    obtain ⟨o, ho, hc⟩ := Option.map_eq_some_iff.mp (show (K.lookup fI).map (fun z => z.cls) = some (.type "function") from beq_iff_eq.mp T.fC)
    exact ⟨o, X _ _ ho, hc⟩
  obtain ⟨hp, g, dr, tk, os⟩ := s
  have k : ∀ b o, hp.get? b = some o → ((hp.push (kdv_tup [v])).push (excO C hp.objs.size)).get? b = some o := fun b o e => Heap.get?_push_of_some _ (Heap.get?_push_of_some _ e)
  have hnx : K.lookup (hp.objs.size + 1) = none := by
    cases e : K.lookup (hp.objs.size + 1) with
    | none => rfl
    | some o => exact absurd (Nat.lt_of_succ_lt (Heap.lt_size (show hp.get? (hp.objs.size + 1) = some o from X _ _ e))) (Nat.lt_irrefl _)
  refine call_own T.base hT hC (looks_findIn X T.iC) (fun self => exc_bind hoI hcI self) (by rw [sizeLine_eq]; exact (by decide : 1 ≤ 16777216)) ?_
  obtain ⟨mb, hb1, hb2⟩ := hB
  refine x_init (s := ⟨(hp.push (kdv_tup [v])).push (excO C hp.objs.size), g, dr, tk, os⟩) T (X.keeps k) (hG.keeps k) ⟨mb, hb1.keeps k, hb2⟩ (hlim.keeps k) (by heap_get) hnx (show A.depth + 1 < recursionLimit from hroom) fun h' tk' dx t1 L => ?_
  have z : hp.objs.size + 1 + 1 ≤ dx := by
    have q := L.dbig
    first
      | (simpa only [Heap.size_push] using q)
      | exact q
      | (rw [Heap.size_push, Heap.size_push] at q; exact q)
  refine ⟨rfl, hq h' tk' (hp.objs.size + 1) dx ⟨fun b o e => L.keep b o (Nat.ne_of_lt (Nat.lt_succ_of_lt (Heap.lt_size e))) (k b o e), Nat.le_succ _, ⟨_, _, L.obj, rfl, rfl, rfl, rfl⟩, Nat.le_trans (Nat.le_trans (Nat.le_succ _) (Nat.le_succ _)) z, L.dne, L.ns⟩⟩
end
end XC
open PySem PySem.Spec PyProof.Rows L2
theorem relO_fld {f : Str} {v : V} {u : Value} (r : RelV v u) (y : Str) : RelO (List.lookup y [(f, v)]) (if y = f then some u else none) := by
  by_cases e : y = f
  · subst e
    rw [if_pos rfl, List.lookup_cons, beq_self_eq_true]
    exact r
  · rw [if_neg e, List.lookup_cons, show (y == f) = false from by simpa using e]
    trivial
section
variable {X : Cx} {n f : Str} {C fI : Addr} {B newId initId : String} {bmB : List Value}
/-- n(e): a new exception, its dict at d -/
def tMkX (C : Addr) (f : Str) (ta : TA) : L2.St → Hp → XK → Prop := fun σ H Q => ta σ H fun vs H1 => ∃ v, vs = [v] ∧ ∀ d, H1 d = none → Q (.ref C) (some d) (upd H1 d (.xd [(f, v)]))
theorem pmk_x {a : Expr} {ta : TA} {p pos : Pos} {k : Nat} (T : XC.Own X.prog X.K X.mg n f C fI B newId initId bmB) (hr : Room k X.A) (ha : PA X [a] ta) (hg : Gl X n := by rfl)
    (he : starEach (a :: []) X.env = (false, eval a X.env) :: starEach [] X.env := by rfl) (hpl : (backTo pos (starEach [] X.env)).any (·.1) = false := by rfl) (hdb : (n == ("__debug__" : Str)) = false := by decide) : PMk X (.Call (.Name n p) [a] [] pos) (tMkX C f ta) := by
  intro pins s σ H Q I h
  refine wpAny_Call_Name_kw (ld_glob I hg T.gC (PySem.W.callWith_K (h₀ := X.base) I.ok.mod.kin T.kC (thn (ha.run pos pins s σ H _ I h) fun us s1 ⟨vs, H1, I1, r1, v, ev, q1⟩ => ?_) he hpl) hdb)
  subst ev
  refine ⟨I1.kIn, ?_⟩
  obtain ⟨u1, rfl, rv⟩ := vals1 r1
  show wpAny _ _ (call (.ref C) [u1]) _ _ _
  have hlim := I1.nolimit
  obtain ⟨mb, hb1, hb2⟩ := I1.mod.blt
  have hG := I1.mod.glob.keeps I1.bk
  have hb := hb1.keeps I1.bk
  obtain ⟨hp, g, dr, tk, os⟩ := s1
  refine wpAny_call (XC.x_made T I1.kIn hG ⟨mb, hb, hb2⟩ hlim (by have := hr.dp; omega) fun h' tk' e d M => ?_)
  show MkP X pins σ Q (.ref e) ⟨h', g, dr, tk', os⟩
  obtain ⟨oe, fv, hoe, hc, hd, hdat, h1⟩ := M.obj
  obtain ⟨G', g1, g2⟩ := restrict h' fun b => decide (b ≠ e)
  have gk : ∀ b, b ≠ e → G'.get? b = h'.get? b := fun b hb => g1 b (decide_eq_true hb)
  have ge : G'.get? e = none := g2 e (by simp)
  have ob : ObjOk X.prog X.w (upd H1 d (.xd [(f, v)])) G' d (.xd [(f, v)]) := ⟨_, M.ns.at (fun o q => (gk d M.dne).trans q), fun y => relO_fld rv y⟩
  have J : Inv X pins σ (upd H1 d (.xd [(f, v)])) ⟨G', g, dr, tk', os⟩ := I1.laid (t' := tk') (fun b o q => (gk b (Nat.ne_of_lt (Nat.lt_of_lt_of_le (Heap.lt_size q) M.new))).trans (M.keep b o q)) M.dbig ob
  refine ⟨e, oe, fv, ⟨G', g, dr, tk', os⟩, _, .ref C, some d, rfl, J, fun b o q => ?_, ge, hoe, ⟨hc, hd⟩, hdat, h1, by rw [upd_ne (Ne.symm M.dne)]; exact I1.hok.fresh M.new, rfl, I1.bare, raises_own T.exC T.tyC, q1 d (I1.hok.fresh M.dbig)⟩
  by_cases hb : b = e
  · rw [hb] at q
    cases ge.symm.trans (show G'.get? e = some o from q)
  · exact (gk b hb).symm.trans q
/-- raise n(e) -/
def tRaiseX (C : Addr) (f : Str) (W : WX) (ta : TA) : TS := fun _ σ H => tMkX C f ta σ H fun cls d H' => W cls d σ H'
theorem ps_raiseX {a : Expr} {ta : TA} {W : WX} {p pos pos2 : Pos} {k : Nat} (hc : X.calm = true) (T : XC.Own X.prog X.K X.mg n f C fI B newId initId bmB) (hr : Room k X.A) (tk : Takes X W) (ha : PA X [a] ta) (hg : Gl X n := by rfl)
    (he : starEach (a :: []) X.env = (false, eval a X.env) :: starEach [] X.env := by rfl) (hpl : (backTo pos (starEach [] X.env)).any (·.1) = false := by rfl) (hdb : (n == ("__debug__" : Str)) = false := by decide) :
    PS X (.Raise (some (.Call (.Name n p) [a] [] pos)) none pos2) (tRaiseX C f W ta) := ps_raise hc tk (pmk_x T hr ha hg he hpl hdb)
end
end Su
/-! ### XD: defs that may let an exception out -/
namespace Su
open PySem PySem.Spec PyProof.Rows L2
structure CalX (P : Program) (w : World) (K : PySem.W.Frag) (mg : Str → Option Value) (base : Heap) (k : Nat) (x : Str) (ps : List Str) (sp : Sp) : Prop where
  ex : ∃ (f : Addr) (fd : FuncData), FnOk P w K mg base (L2.CX P w) k f fd ps sp ∧ mg x = some (.ref f) ∧ PySem.W.keepIn K (.ref f) = true ∧ Binds K fd ps [] ∧ ∃ o : Obj, K.lookup f = some o ∧ o.data = .func fd
section
variable {P : Program} {w : World} {K : PySem.W.Frag} {mg : Str → Option Value} {base : Heap}
theorem cal_ofX {x : Str} {st : Stmt} {N ps : List Str} {k : Nat} {sp : Sp} (T : At K mg x st ps) (S : FnScope N ps (defScope st)) (len : ∀ vs H Q E, sp vs H Q E → vs.length = ps.length)
    (hb : ∀ (f : Addr) (cdv : Value) (A : Around) (outer : List Env) (s : Shared) (H : Hp) (vs : List V) (Q : VK) (E : XK), Room k (A.deeper (envOfC x (defScope st) s.heap.objs.size f cdv)) → sp vs H Q E →
      ∃ t, PSs (cxOf (L2.CX P w) P w K mg base N x (defScope st) f cdv A outer s H E) (defBody st) t ∧ t { nx := fun _ H' => Q .non H', rt := Q } (start N vs) H) : CalX P w K mg base (k + 1) x ps sp := by
  obtain ⟨f, fd, F, hm, b⟩ := T.ex
  have z : ∃ o : Obj, K.lookup f = some o ∧ o.data = .func fd := by
    obtain ⟨oc, od, kV, doc, pm, an, cdv, ct, osl, _, lk, _⟩ := F.ex
    exact ⟨_, lk, rfl⟩
  exact ⟨f, fd, F.okX S len (fun cdv A outer s H vs Q E => hb f cdv A outer s H vs Q E), hm, F.kp, b, z⟩
end
section
variable {X : Cx} {x : Str} {ps : List Str} {sp : Sp} {k j : Nat} {e : Expr} {es : List Expr} {t : TA} {p pos : Pos} {W : WX}
theorem pe_ownX (tk : Takes X W) (C : CalX X.prog X.w X.K X.mg X.base k x ps sp) (hr : Room j X.A) (hk : k ≤ j) (hg : Gl X x) (ha : PA X (e :: es) t)
    (hdb : (x == ("__debug__" : Str)) = false := by decide) (he : starEach (e :: es) X.env = (false, eval e X.env) :: starEach es X.env := by rfl) (hpl : (backTo pos (starEach es X.env)).any (·.1) = false := by rfl) :
    PE X (.Call (.Name x p) (e :: es) [] pos) (tCallS sp (WE W) t) := by
  obtain ⟨f, fd, F, hm, kp, b, _⟩ := C.ex
  exact pe_callS F (hr.mono hk) hg hm kp b (fun σ => passAt tk σ) ha hdb he hpl
end
end Su
/-! ### XE: raise X('..'), X an own exception class without own __init__ -/
namespace Su
open PySem PySem.Spec PyProof.Rows L2
/-- what the written part says of the class n at C, over the built-in B -/
structure Own0 (K : PySem.W.Frag) (mg : Str → Option Value) (n : Str) (C : Addr) (B newId initId : String) (bmB : List Value) : Prop where
  base : ExcBaseFacts B newId initId bmB
  ini : PySem.W.excIn K C bmB newId = true
  gC : mg n = some (.ref C)
  kC : PySem.W.keepIn K (.ref C) = true
  exC : PySem.W.subIn K (.ref C) (.type "BaseException") = some true
  tyC : PySem.W.typeIn K (.ref C) = some (.type "type")
def tRaiseT (C : Addr) (W : WX) : TS := fun _ σ H => W (.ref C) none σ H
theorem ps_raiseT {X : Cx} {n m : Str} {C : Addr} {B newId initId : String} {bmB : List Value} {W : WX} {j : Nat} {p p2 pos pos2 : Pos} (hc : X.calm = true) (T : Own0 X.K X.mg n C B newId initId bmB) (tk : Takes X W) (hg : Gl X n := by rfl)
    (hdb : (n == ("__debug__" : Str)) = false := by decide) : PS X (.Raise (some (.Call (.Name n p) [.Constant (.str m) j p2] [] pos)) none pos2) (tRaiseT C W) :=
  ps_raise hc tk (pmk_own T.base T.ini T.gC T.kC (raises_own T.exC T.tyC) hg hdb)
end Su
/-! ### GA: things of any kind -/
namespace Su
open PySem PySem.Spec PyProof.Rows L2
inductive G where
  | non
  | bl (b : Bool)
  | int (i : Int)
  | str (s : Str)
  | lst (l : List G)
  | tup (l : List G)
  | dct
mutual
/-- the value is such a thing; its lists stand apart from p -/
inductive Tg (p : Addr) (H : Hp) : V → G → Prop
  | non : Tg p H .non .non
  | bl (b : Bool) : Tg p H (.bl b) (.bl b)
  | int (i : Int) : Tg p H (.int i) (.int i)
  | str (s : Str) : Tg p H (.str s) (.str s)
  | lst {a : Addr} {vs : List V} {ds : List G} (n : a ≠ p) (e : H a = some (.lst vs)) (t : TgL p H vs ds) : Tg p H (.ref a) (.lst ds)
  | tup {a : Addr} {vs : List V} {ds : List G} (e : T2 H a vs) (t : TgL p H vs ds) : Tg p H (.ref a) (.tup ds)
  | dct {a : Addr} (e : H a = some (.dK [])) : Tg p H (.ref a) .dct
inductive TgL (p : Addr) (H : Hp) : List V → List G → Prop
  | nil : TgL p H [] []
  | cons {v : V} {vs : List V} {d : G} {ds : List G} (h : Tg p H v d) (t : TgL p H vs ds) : TgL p H (v :: vs) (d :: ds)
end
/-- what keeps such things -/
structure Keeps (p : Addr) (H H' : Hp) : Prop where
  ls : ∀ a vs, a ≠ p → H a = some (.lst vs) → H' a = some (.lst vs)
  tw : ∀ a vs, T2 H a vs → T2 H' a vs
  dk : ∀ a kvs, H a = some (.dK kvs) → H' a = some (.dK kvs)
theorem Keeps.of {p : Addr} {H H' : Hp} (k : Kept p H H') (hp : PoolAt H p) : Keeps p H H' := by
  refine ⟨fun a vs n z => k _ _ z n, fun a vs h => K2.of k hp _ _ h, fun a kvs z => ?_⟩
  obtain ⟨o, e, g, m, rfl, _⟩ := hp
  exact k _ _ z (ne_of z e (by intro y; cases y))
theorem Keeps.same {p : Addr} {H H' : Hp} (s : Same H H') : Keeps p H H' := ⟨fun a vs n z => s _ _ z, fun a vs h => h.same s, fun a kvs z => s _ _ z⟩
mutual
theorem Tg.keep {p : Addr} {H H' : Hp} (k : Keeps p H H') : ∀ {v : V} {g : G}, Tg p H v g → Tg p H' v g
  | _, _, .non => .non
  | _, _, .bl b => .bl b
  | _, _, .int i => .int i
  | _, _, .str s => .str s
  | _, _, .lst n e t => .lst n (k.ls _ _ n e) (TgL.keep k t)
  | _, _, .tup e t => .tup (k.tw _ _ e) (TgL.keep k t)
  | _, _, .dct e => .dct (k.dk _ _ e)
theorem TgL.keep {p : Addr} {H H' : Hp} (k : Keeps p H H') : ∀ {vs : List V} {gs : List G}, TgL p H vs gs → TgL p H' vs gs
  | _, _, .nil => .nil
  | _, _, .cons h t => .cons (Tg.keep k h) (TgL.keep k t)
end
theorem TgL.len {p : Addr} {H : Hp} : ∀ {vs : List V} {gs : List G}, TgL p H vs gs → vs.length = gs.length
  | _, _, .nil => rfl
  | _, _, .cons _ t => by
    rw [List.length_cons, List.length_cons, TgL.len t]
theorem TgL.get {p : Addr} {H : Hp} : ∀ {vs : List V} {gs : List G}, TgL p H vs gs → ∀ {i : Nat} {v : V}, vs[i]? = some v → ∃ g, gs[i]? = some g ∧ Tg p H v g
  | _, _, .nil, i, v, e => by simp at e
  | _, _, .cons h t, 0, v, e => by
    obtain rfl := (by simpa using e : _ = v)
    exact ⟨_, rfl, h⟩
  | _, _, .cons h t, i + 1, v, e => TgL.get t (i := i) (by simpa using e)
theorem TgL.ints {p : Addr} {H : Hp} : ∀ ns : List Int, TgL p H (ns.map V.int) (ns.map G.int)
  | [] => .nil
  | n :: ns => .cons (.int n) (TgL.ints ns)
theorem TgL.app {p : Addr} {H : Hp} : ∀ {vs ws : List V} {gs hs : List G}, TgL p H vs gs → TgL p H ws hs → TgL p H (vs ++ ws) (gs ++ hs)
  | _, _, _, _, .nil, h => h
  | _, _, _, _, .cons x t, h => .cons x (TgL.app t h)
/-! kinds -/
def tyG : G → String
  | .non => "NoneType"
  | .bl _ => "bool"
  | .int _ => "int"
  | .str _ => "str"
  | .lst _ => "list"
  | .tup _ => "tuple"
  | .dct => "dict"
theorem Tg.ty {K : PySem.W.Frag} {p : Addr} {H : Hp} {v : V} {g : G} (h : Tg p H v g) : TyX K H v (.type (tyG g)) := by
  cases h with
  | non => exact .base .non
  | bl b => exact .base (.bl b)
  | int i => exact .base (.int i)
  | str s => exact .base (.str s)
  | lst n e t => exact .base (.lst e)
  | tup e t => exact e.ty
  | dct e => exact .base (.dK e)
def isInt : G → Bool
  | .non => false
  | .bl _ => true
  | .int _ => true
  | .str _ => false
  | .lst _ => false
  | .tup _ => false
  | .dct => false
theorem kit_int {K : PySem.W.Frag} (g : G) : PySem.W.kitOne K (.type (tyG g)) (.type "int") = some (isInt g) := by
  refine kit_ty ?_
  cases g
  · exact (by decide +kernel : kitB "NoneType" "int" = some false)
  · exact (by decide +kernel : kitB "bool" "int" = some true)
  · exact (by decide +kernel : kitB "int" "int" = some true)
  · exact (by decide +kernel : kitB "str" "int" = some false)
  · exact (by decide +kernel : kitB "list" "int" = some false)
  · exact (by decide +kernel : kitB "tuple" "int" = some false)
  · exact (by decide +kernel : kitB "dict" "int" = some false)
def isBool : G → Bool
  | .non => false
  | .bl _ => true
  | .int _ => false
  | .str _ => false
  | .lst _ => false
  | .tup _ => false
  | .dct => false
theorem kit_bool {K : PySem.W.Frag} (g : G) : PySem.W.kitOne K (.type (tyG g)) (.type "bool") = some (isBool g) := by
  refine kit_ty ?_
  cases g
  · exact (by decide +kernel : kitB "NoneType" "bool" = some false)
  · exact (by decide +kernel : kitB "bool" "bool" = some true)
  · exact (by decide +kernel : kitB "int" "bool" = some false)
  · exact (by decide +kernel : kitB "str" "bool" = some false)
  · exact (by decide +kernel : kitB "list" "bool" = some false)
  · exact (by decide +kernel : kitB "tuple" "bool" = some false)
  · exact (by decide +kernel : kitB "dict" "bool" = some false)
def isStr : G → Bool
  | .non => false
  | .bl _ => false
  | .int _ => false
  | .str _ => true
  | .lst _ => false
  | .tup _ => false
  | .dct => false
theorem kit_str {K : PySem.W.Frag} (g : G) : PySem.W.kitOne K (.type (tyG g)) (.type "str") = some (isStr g) := by
  refine kit_ty ?_
  cases g
  · exact (by decide +kernel : kitB "NoneType" "str" = some false)
  · exact (by decide +kernel : kitB "bool" "str" = some false)
  · exact (by decide +kernel : kitB "int" "str" = some false)
  · exact (by decide +kernel : kitB "str" "str" = some true)
  · exact (by decide +kernel : kitB "list" "str" = some false)
  · exact (by decide +kernel : kitB "tuple" "str" = some false)
  · exact (by decide +kernel : kitB "dict" "str" = some false)
def isTuple : G → Bool
  | .non => false
  | .bl _ => false
  | .int _ => false
  | .str _ => false
  | .lst _ => false
  | .tup _ => true
  | .dct => false
theorem kit_tuple {K : PySem.W.Frag} (g : G) : PySem.W.kitOne K (.type (tyG g)) (.type "tuple") = some (isTuple g) := by
  refine kit_ty ?_
  cases g
  · exact (by decide +kernel : kitB "NoneType" "tuple" = some false)
  · exact (by decide +kernel : kitB "bool" "tuple" = some false)
  · exact (by decide +kernel : kitB "int" "tuple" = some false)
  · exact (by decide +kernel : kitB "str" "tuple" = some false)
  · exact (by decide +kernel : kitB "list" "tuple" = some false)
  · exact (by decide +kernel : kitB "tuple" "tuple" = some true)
  · exact (by decide +kernel : kitB "dict" "tuple" = some false)
def isList : G → Bool
  | .non => false
  | .bl _ => false
  | .int _ => false
  | .str _ => false
  | .lst _ => true
  | .tup _ => false
  | .dct => false
theorem kit_list {K : PySem.W.Frag} (g : G) : PySem.W.kitOne K (.type (tyG g)) (.type "list") = some (isList g) := by
  refine kit_ty ?_
  cases g
  · exact (by decide +kernel : kitB "NoneType" "list" = some false)
  · exact (by decide +kernel : kitB "bool" "list" = some false)
  · exact (by decide +kernel : kitB "int" "list" = some false)
  · exact (by decide +kernel : kitB "str" "list" = some false)
  · exact (by decide +kernel : kitB "list" "list" = some true)
  · exact (by decide +kernel : kitB "tuple" "list" = some false)
  · exact (by decide +kernel : kitB "dict" "list" = some false)
end Su
namespace Su
open PySem PySem.Spec PyProof.Rows L2
def topS (i : Nat) : Stmt := PySem.Challenge.pw_surehand_k53_webs_that_end.main.body.getD i (.Pass ⟨0, 0, 0, 0⟩)
abbrev s_HandError : Stmt := topS 1
abbrev s_NoWeb : Stmt := topS 2
abbrev s_is_whole : Stmt := topS 5
abbrev s_is_room : Stmt := topS 6
abbrev s_are_rising : Stmt := topS 7
abbrev s_are_rooms : Stmt := topS 8
abbrev s_are_tos : Stmt := topS 12
abbrev s_is_row : Stmt := topS 13
abbrev s_rooms_in : Stmt := topS 14
abbrev s_look_at_web : Stmt := topS 15
abbrev s_ended_rows : Stmt := topS 17
abbrev s_is_ending : Stmt := topS 18
abbrev s_law_pool : Stmt := topS 20
abbrev s_law_take : Stmt := topS 21
abbrev s_law_picked : Stmt := topS 22
abbrev s_law_ending_web : Stmt := topS 23
abbrev s_law_web_rooms : Stmt := topS 24
abbrev s_law_come_to : Stmt := topS 25
abbrev s_law_due : Stmt := topS 26
abbrev s_law_with_ties : Stmt := topS 27
abbrev s_law_refused : Stmt := topS 28
abbrev s_law : Stmt := topS 29
end Su
namespace Su
open PySem PySem.Spec PyProof.Rows L2
theorem sc_law_take : FnScope ["_law_pool_here", "_law_many", "_law_found"] ["_law_pool_here", "_law_many"] (defScope s_law_take) := ⟨rfl, rfl, rfl, by decide +kernel, rfl, by decide +kernel, by decide +kernel⟩
theorem sc_law_pool : FnScope ["_law_script", "_law_k", "_law_cell", "_law_size", "_law_mixed"] ["_law_script", "_law_k"] (defScope s_law_pool) := ⟨rfl, rfl, rfl, by decide +kernel, rfl, by decide +kernel, by decide +kernel⟩
section
variable {P : Program} {w : World} {K : PySem.W.Frag} {mg : Str → Option Value} {base : Heap}
theorem ok_take (T : At K mg "_law_take" s_law_take ["_law_pool_here", "_law_many"]) : Cal P w K mg base 1 "_law_take" ["_law_pool_here", "_law_many"] spTake := by
  refine cal_of T sc_law_take (fun vs H Q E h => ?_) (fun f cdv A outer s H vs Q E hr h => ?_)
  · obtain ⟨p, many, rfl, _⟩ := h
    rfl
  · obtain ⟨p, many, rfl, ⟨o, hp, g, m, rfl, g0, m0, m1⟩, n1, n2, q⟩ := h
    refine ⟨_, (pss_cons (ps_if (pt_cmpR op_gt (pe_ix ix_list (pv 0) pe_int (fun _ _ => rfl)) pe_int (nomark _)) (pss_cons (ps_set (i := 2) sc_law_take.nd rfl (Or.inl rfl) (pe_op op_mod (pe_ix ix_list (pv 0) pe_int (fun _ _ => rfl)) (pv 1)))
      (pss_cons (ps_asg (pe_op op_fdiv (pe_ix ix_list (pv 0) pe_int (fun _ _ => rfl)) (pv 1)) (pg_sub (pv 0) pe_int set_list))
      (pss_one (ps_ret (pv 2))))) pss_nil)
      (pss_cons (ps_asg (pe_op op_mod (pe_op op_add (pe_op op_mul (pe_ix ix_list (pv 0) pe_int (fun _ _ => rfl)) pe_int) pe_int) pe_int) (pg_sub (pv 0) pe_int set_list))
      (pss_one (ps_ret (pe_op op_mod (pe_op op_fdiv (pe_op op_mod (pe_op op_mul (pe_ix ix_list (pv 0) pe_int (fun _ _ => rfl)) (pe_ix ix_list (pv 0) pe_int (fun _ _ => rfl))) pe_int) pe_int) (pv 1)))))), ?_⟩
    refine ⟨_, rfl, p, _, _, _, rfl, rfl, SqL.of hp, atI_nat (j := 0) rfl, _, _, rfl, rfl, _, rfl, ite2 (fun e => ?_) (fun e => ?_)⟩
    · refine ⟨_, rfl, p, _, _, _, rfl, rfl, SqL.of hp, atI_nat (j := 0) rfl, _, rfl, _, _, rfl, rfl, (by omega), ?_⟩
      refine ⟨_, rfl, p, _, _, _, rfl, rfl, SqL.of hp, atI_nat (j := 0) rfl, _, rfl, _, _, rfl, rfl, ⟨by omega, by omega⟩, ?_⟩
      refine ⟨_, rfl, p, _, _, 0, rfl, rfl, hp, rfl, ?_⟩
      refine ⟨_, rfl, q _ _ (Int.emod_nonneg _ (by omega)) (Int.emod_lt_of_pos _ (by omega)) ⟨_, _, rfl, Int.ediv_nonneg g0 (by omega), m0, m1⟩⟩
    · refine ⟨_, rfl, p, _, _, _, rfl, rfl, SqL.of hp, atI_nat (j := 1) rfl, _, _, rfl, rfl, .inl ⟨by omega, by omega⟩, _, _, rfl, rfl, _, _, rfl, rfl, (by show (0 : Int) < 2147483647; decide), ?_⟩
      refine ⟨_, rfl, p, _, _, 1, rfl, rfl, hp, rfl, ?_⟩
      have e0 : 0 ≤ (m * 48271 + 11) % 2147483647 := Int.emod_nonneg _ (by decide)
      have e1 : (m * 48271 + 11) % 2147483647 < 2147483647 := Int.emod_lt_of_pos _ (by decide)
      refine ⟨_, rfl, p, _, _, _, rfl, rfl, SqL.of upd_same, atI_nat (j := 1) rfl, _, rfl, p, _, _, _, rfl, rfl, SqL.of upd_same, atI_nat (j := 1) rfl, _, _, rfl, rfl, .inl ⟨by omega, by omega⟩, _, _, rfl, rfl, (by show (0 : Int) < 2147483629; decide), _, _, rfl, rfl, ⟨by decide, by decide⟩, _, rfl, _, _, rfl, rfl, (by omega), ?_⟩
      exact q _ _ (Int.emod_nonneg _ (by omega)) (Int.emod_lt_of_pos _ (by omega)) ⟨_, _, rfl, g0, e0, e1⟩
theorem ok_pool (T : At K mg "_law_pool" s_law_pool ["_law_script", "_law_k"]) (B : Bt mg) : Cal P w K mg base 1 "_law_pool" ["_law_script", "_law_k"] (spPool K) := by
  refine cal_of T sc_law_pool (fun vs H Q E h => ?_) (fun f cdv A outer s H vs Q E hr h => ?_)
  · obtain ⟨a, ns, k, rfl, _⟩ := h
    rfl
  · obtain ⟨a, ns, k, rfl, hS, k0, k1, q⟩ := h
    refine ⟨_, (pss_cons (ps_set (i := 2) sc_law_pool.nd rfl (Or.inl rfl) (pe_op op_add (pe_op op_mul pe_int (pe_callB (cr_sum rfl) (by rfl) B.sum (by decide +kernel) (pa_cons (pe_slice sl_list (pv 0) po_none (po_some pe_int)) pa_nil))) (pv 1)))
      (pss_cons (ps_if (pt_cmpR op_lt (pv 1) (pe_callB call_len_seq (by rfl) B.len PySem.boot_len (pa_cons (pv 0) pa_nil)) (nomark _)) (pss_one (ps_set (i := 2) sc_law_pool.nd rfl (Or.inl rfl) (pe_ix ix_list (pv 0) (pv 1) (fun _ _ => rfl)))) pss_nil)
      (pss_cons (ps_set (i := 3) sc_law_pool.nd rfl (Or.inl rfl) (pe_callB call_abs (by rfl) B.abs (by decide +kernel) (pa_cons (pv 2) pa_nil)))
      (pss_cons (ps_set (i := 4) sc_law_pool.nd rfl (Or.inl rfl) (pe_op op_mod (pe_op op_mul (pe_op op_add (pe_op op_add (pe_op op_add (pe_op op_mod (pv 3) pe_int) (pe_op op_mul (pe_op op_mul pe_int (pv 1)) (pv 1))) (pe_op op_mul pe_int (pv 1))) pe_int) pe_int) pe_int))
      (pss_one (ps_ret (pe_lst (pa_cons (pe_op op_mul (pv 3) (pe_callTy call_int1 (by rfl) B.int (by decide +kernel) (pa_cons (pe_cmpR op_ge (pv 3) (pe_op op_pow pe_int pe_int) (nomark _)) pa_nil))) (pa_cons (pe_op op_mod (pe_op op_mul (pv 4) (pv 4)) pe_int) pa_nil))))))))), ?_⟩
    obtain ⟨ms, ems⟩ := cutV_ints ns none (some 63)
    refine ⟨_, rfl, 63, rfl, a, _, rfl, hS, fun c nc => ?_⟩
    rw [ems]
    have s1 : Same H (upd H c (.lst (ms.map V.int))) := same_upd nc
    refine ⟨c, ms, rfl, SqL.of upd_same, _, _, rfl, rfl, .inl ⟨by decide, by decide⟩, _, rfl, _, _, rfl, rfl, ?_⟩
    refine ⟨_, rfl, _, rfl, a, _, rfl, .inl (s1.seq hS), _, _, rfl, rfl, _, rfl, ite2 (fun e => ?_) (fun e => ?_)⟩
    rw [decide_eq_true_eq, List.length_map] at e
    obtain ⟨z, g⟩ : ∃ z : Int, atI (ns.map V.int) k = some (V.int z) := by
      have hk : k.toNat < ns.length := by omega
      exact ⟨_, atI_int (v := V.int ns[k.toNat]) k0 (by rw [List.getElem?_map, List.getElem?_eq_getElem hk]; rfl)⟩
    refine ⟨_, rfl, _, rfl, a, _, k, .int z, rfl, rfl, s1.seq hS, g, ?_⟩
    all_goals
      refine ⟨_, rfl, _, rfl, ?_⟩
      refine ⟨_, rfl, _, _, rfl, rfl, (by show (0 : Int) < 2147483629; decide), _, rfl, _, _, rfl, rfl, .inl ⟨by decide, by decide⟩, _, rfl, _, _, rfl, rfl, .inr ⟨by omega, by omega⟩, _, _, rfl, rfl, _, rfl, _, _, rfl, rfl, .inl ⟨by decide, by decide⟩, _, _, rfl, rfl, _, _, rfl, rfl, _, _, rfl, rfl, .inr ⟨by decide, by decide⟩, _, _, rfl, rfl, (by show (0 : Int) < 2147483647; decide), ?_⟩
      refine ⟨_, rfl, _, rfl, _, _, rfl, rfl, ⟨by decide, by decide, by decide⟩, _, _, rfl, rfl, .inr ⟨_, rfl, _, _, rfl, rfl, .inr ?_, ?_⟩⟩
      · exact b01 _
      refine ⟨_, rfl, _, rfl, _, _, rfl, rfl, .inl ?_, _, _, rfl, rfl, (by show (0 : Int) < 2147483629; decide), (by show 2 ≤ sizeLine; decide), fun p np => ?_⟩
      · refine ⟨Int.lt_of_lt_of_le (by decide) (Int.emod_nonneg _ (by decide)), Int.lt_trans (Int.emod_lt_of_pos _ (by decide)) (by decide)⟩
      refine q p _ (s1.trans (same_upd np)) (s1.free np) ⟨_, upd_same, _, _, rfl, ?_, Int.emod_nonneg _ (by decide), Int.lt_trans (Int.emod_lt_of_pos _ (by decide)) (by decide)⟩
      refine Int.mul_nonneg ?_ ?_ <;> split <;> omega
end
theorem sc_law_picked : FnScope ["_law_pool_here", "_law_some", "_law_many", "_law_left", "_law_k"] ["_law_pool_here", "_law_some", "_law_many"] (defScope s_law_picked) := ⟨rfl, rfl, rfl, by decide +kernel, rfl, by decide +kernel, by decide +kernel⟩
section
variable {P : Program} {w : World} {K : PySem.W.Frag} {mg : Str → Option Value} {base : Heap}
theorem ok_picked (T : At K mg "_law_picked" s_law_picked ["_law_pool_here", "_law_some", "_law_many"]) (B : Bt mg) (c_take : Cal P w K mg base 1 "_law_take" ["_law_pool_here", "_law_many"] spTake) :
    Cal P w K mg base 2 "_law_picked" ["_law_pool_here", "_law_some", "_law_many"] (spPicked K) := by
  refine cal_of T sc_law_picked (fun vs H Q E h => ?_) (fun f cdv A outer s H vs Q E hr h => ?_)
  · obtain ⟨p, b, ns, many, rfl, _⟩ := h
    rfl
  · obtain ⟨p, b, ns, many, rfl, hp, hS, hbp, nd, hl, m0, q⟩ := h
    refine ⟨_, (pss_cons (ps_set (i := 3) sc_law_picked.nd rfl (Or.inr rfl) (pe_callTy call_list_of (by rfl) B.list (by decide +kernel) (pa_cons (pv 1) pa_nil)))
      (pss_one (ps_ret (pe_callB cr_sortedI (by rfl) B.sorted (by decide +kernel) (pa_cons (pe_lc (own := [("_law_k", 4)]) (g := gName 4) (tt := tYes) (te := (tBM K "list" rPopAt (tVar 3) (tCons (tCall spTake [] E0 (tCons (tVar 0) (tCons (tCB (rLenK K) (tCons (tVar 3) tNil)) tNil))) tNil))) (by rfl) sc_law_picked.nd (pi_range1 (by rfl) B.range (pa_cons (pe_callB (call_min2 rfl) (by rfl) B.min (by decide +kernel) (pa_cons (pv 2) (pa_cons (pe_callB call_len_seq (by rfl) B.len PySem.boot_len (pa_cons (pv 3) pa_nil)) pa_nil))) pa_nil)) (blkOk_by (own := [("_law_k", 4)]) (N := ["_law_pool_here", "_law_some", "_law_many", "_law_left", "_law_k"]) (sc := defScope s_law_picked) (by decide +kernel)) (fun _ _ _ _ _ => (pg_name (i := 4) sc_law_picked.nd rfl (Or.inl rfl))) (fun _ _ _ _ _ => pts_nil) (fun _ _ _ _ _ => (pe_bm PySem.F.plainAttrs_list PySem.F.slot_list_pop PySem.F.type_list_pop mt_popAt (pv 3) (pa_cons (pe_own c_take hr (by decide) (by rfl) (pa_cons (pv 0) (pa_cons (pe_callB call_len_seq (by rfl) B.len PySem.boot_len (pa_cons (pv 3) pa_nil)) pa_nil))) pa_nil)))) pa_nil))))), ?_⟩
    refine ⟨_, rfl, b, _, rfl, .inl hS, fun l nl => ?_⟩
    have elp : l ≠ p := pool_ne hp nl
    have hl0 : (if ((ns.map V.int).length : Int) < many then ((ns.map V.int).length : Int) else many) = ((min many.toNat ns.length : Nat) : Int) := by
      rw [List.length_map]
      split <;> omega
    refine ⟨_, rfl, _, rfl, l, _, rfl, .inl (SqL.of upd_same), _, _, rfl, _, rfl, (by omega), (by omega), fun D nD => ?_⟩
    rw [hl0]
    refine lc_range (lo := 0) (n := min many.toNat ns.length) (fun i H2 => ∃ lf acc : List Int, H2 l = some (.lst (lf.map V.int)) ∧ H2 D = some (.lst (acc.map V.int)) ∧ acc.length = i ∧ (acc ++ lf).Perm ns ∧ PoolAt H2 p ∧ Kept p H H2) ?_ ?_ ?_
    · obtain ⟨eDl, nD0⟩ := free_upd nD
      refine ⟨ns, [], (by rw [upd_ne eDl.symm, upd_same]), upd_same, rfl, List.Perm.refl _, (hp.upd elp.symm).upd (pool_ne hp nD0).symm, ((Kept.refl p H).set nl).set nD0⟩
    · rintro i H2 hi ⟨lf, acc, h1, h2, hlen, hpm, hpo, hk⟩
      obtain ⟨eDl, nD0⟩ := free_upd nD
      have eDp : D ≠ p := pool_ne hp nD0
      have hll : acc.length + lf.length = ns.length := by
        have := hpm.length_eq
        rw [List.length_append] at this
        exact this
      refine ⟨rfl, tyes ?_⟩
      refine ⟨_, rfl, .inl ⟨rfl, _, SqL.of h1⟩, _, rfl, _, rfl, l, _, rfl, .inl (SqL.of h1), p, _, rfl, hpo, ?_, ?_, fun r o r0 r1 po => ?_⟩
      · rw [List.length_map]
        omega
      · rw [List.length_map]
        omega
      · rw [List.length_map] at r1
        have hr1 : r.toNat < lf.length := by omega
        refine ⟨l, lf.map V.int, r, r.toNat, V.int lf[r.toNat], rfl, rfl, (by rw [upd_ne elp]; exact h1), by omega, by omega, seqIx r0 (by rw [List.length_map]; exact r1), (by rw [List.getElem?_map, List.getElem?_eq_getElem hr1]; rfl), ?_⟩
        have hg : lf[r.toNat]? = some lf[r.toNat] := List.getElem?_eq_getElem hr1
        generalize lf[r.toNat] = y at *
        refine ⟨acc.map V.int, (by rw [upd_ne eDl, upd_ne eDp]; exact h2), ?_, lf.eraseIdx r.toNat, acc ++ [y], ?_, ?_, ?_, ?_, ?_, ?_⟩
        · rw [List.length_map]
          exact small1000 (by omega)
        · rw [upd_ne eDl.symm, upd_same, erase_map]
        · rw [upd_same, List.map_append]
          rfl
        · rw [List.length_append, hlen]
          rfl
        · rw [List.append_assoc]
          exact ((erase_perm lf r.toNat y hg).append_left acc).trans hpm
        · refine PoolAt.upd (PoolAt.upd ⟨o, upd_same, po⟩ elp.symm) eDp.symm
        · exact (((hk.trans (Kept.upd p H2 o)).set nl).set nD0)
    · rintro H2 ⟨lf, acc, h1, h2, hlen, hpm, hpo, hk⟩
      obtain ⟨eDl, nD0⟩ := free_upd nD
      refine ⟨D, acc, rfl, SqL.of h2, fun ms c pm so nc => ?_⟩
      have ecp : c ≠ p := pool_ne hpo nc
      have hsub : ∀ x ∈ ms, x ∈ ns := fun x hx => hpm.subset (List.mem_append_left _ (pm.subset hx))
      have hnd : (acc ++ lf).Nodup := hpm.nodup_iff.mpr nd
      exact q c _ ms (hk.free ecp nc) (hk.trans (Kept.same (same_upd nc))) (hpo.upd ecp.symm) upd_same (pm.nodup_iff.mpr (List.nodup_append.mp hnd).1) hsub (by rw [pm.length_eq, hlen]) so
end
end Su
/-! ### W1G: how a row of a web is looked at, of a thing of any kind -/
namespace Su
open PySem PySem.Spec PyProof.Rows L2
structure GbW (mg : Str → Option Value) : Prop where
  last : ∃ t, mg "LAST_ROOM" = some (.int 99 t)
  rows : ∃ t, mg "MOST_ROWS" = some (.int 80 t)
  rooms : ∃ t, mg "MOST_ROOMS" = some (.int 12 t)
def wholeG : G → Bool
  | .int _ => true
  | _ => false
/-- a whole number from 0, below n -/
def inG (n : Int) : G → Bool
  | .int i => decide (0 ≤ i) && decide (i < n)
  | _ => false
def valI : G → Int
  | .int i => i
  | _ => 0
def ups (ns : List Int) : List Bool := (ns.zip (ns.drop 1)).map fun p => decide (p.1 < p.2)
def risG (n : Int) (gs : List G) : Bool := (gs.map (inG n)).all id && (ups (gs.map valI)).all id
def roomsG (lo hi : Int) : G → Bool
  | .tup gs => (decide (lo ≤ (gs.length : Int)) && decide ((gs.length : Int) ≤ hi)) && risG 100 gs
  | _ => false
def tosG (n : Int) : G → Bool
  | .tup gs => decide ((gs.length : Int) ≤ n) && risG n gs
  | _ => false
def rowG (n : Int) : G → Bool
  | .tup [x, y] => roomsG 0 6 x && tosG n y
  | _ => false
theorem ups_get {ns : List Int} {i : Nat} {a b : Int} (e1 : ns[i]? = some a) (e2 : ns[1 + i]? = some b) : (ups ns)[i]? = some (decide (a < b)) := by
  unfold ups
  have z : (ns.zip (ns.drop 1))[i]? = some (a, b) := List.getElem?_zip_eq_some.mpr ⟨e1, by rw [List.getElem?_drop]; exact e2⟩
  rw [List.getElem?_map, z]
  rfl
theorem take_one {α : Type} {l : List α} {i : Nat} {x : α} (e : l[i]? = some x) : l.take (i + 1) = l.take i ++ [x] := by
  rw [List.take_add_one, e]
  rfl
theorem ints_of_all {p : Addr} {H : Hp} {n : Int} : ∀ {vs : List V} {gs : List G}, TgL p H vs gs → (gs.map (inG n)).all id = true → vs = (gs.map valI).map V.int
  | _, _, .nil, _ => rfl
  | _, _, .cons (d := d) h t, e => by
    rw [List.map_cons, List.all_cons, Bool.and_eq_true] at e
    rw [List.map_cons, List.map_cons, ← ints_of_all t e.2]
    cases h with
    | int i => rfl
    | _ => cases e.1
def spWhole : Sp := fun vs H Q _ => ∃ (p : Addr) (v : V) (g : G), vs = [v] ∧ Tg p H v g ∧ Q (.bl (wholeG g)) H
def spRoom : Sp := fun vs H Q _ => ∃ (p : Addr) (v : V) (g : G), vs = [v] ∧ Tg p H v g ∧ Q (.bl (inG 100 g)) H
def spRising : Sp := fun vs H Q _ => ∃ (a : Addr) (ns : List Int), vs = [.ref a] ∧ T2 H a (ns.map V.int) ∧ ns.length ≤ 1000 ∧ ∀ H', Same H H' → Q (.bl ((ups ns).all id)) H'
def spRooms : Sp := fun vs H Q _ => ∃ (p : Addr) (v : V) (g : G) (lo hi : Int), vs = [v, .int lo, .int hi] ∧ Tg p H v g ∧ hi ≤ 1000 ∧ ∀ H', Same H H' → Q (.bl (roomsG lo hi g)) H'
def spTos : Sp := fun vs H Q _ => ∃ (p : Addr) (v : V) (g : G) (n : Int), vs = [v, .int n] ∧ Tg p H v g ∧ n ≤ 1000 ∧ ∀ H', Same H H' → Q (.bl (tosG n g)) H'
def spRow : Sp := fun vs H Q _ => ∃ (p : Addr) (v : V) (g : G) (n : Int), vs = [v, .int n] ∧ Tg p H v g ∧ n ≤ 1000 ∧ ∀ H', Same H H' → Q (.bl (rowG n g)) H'
theorem sc_is_whole : FnScope ["thing"] ["thing"] (defScope s_is_whole) := ⟨rfl, rfl, rfl, by decide +kernel, rfl, by decide +kernel, by decide +kernel⟩
theorem sc_is_room : FnScope ["thing"] ["thing"] (defScope s_is_room) := ⟨rfl, rfl, rfl, by decide +kernel, rfl, by decide +kernel, by decide +kernel⟩
theorem sc_are_rising : FnScope ["numbers", "one", "other"] ["numbers"] (defScope s_are_rising) := ⟨rfl, rfl, rfl, by decide +kernel, rfl, by decide +kernel, by decide +kernel⟩
theorem sc_are_rooms : FnScope ["thing", "least", "most", "room"] ["thing", "least", "most"] (defScope s_are_rooms) := ⟨rfl, rfl, rfl, by decide +kernel, rfl, by decide +kernel, by decide +kernel⟩
theorem sc_are_tos : FnScope ["thing", "rows", "to"] ["thing", "rows"] (defScope s_are_tos) := ⟨rfl, rfl, rfl, by decide +kernel, rfl, by decide +kernel, by decide +kernel⟩
theorem sc_is_row : FnScope ["thing", "rows"] ["thing", "rows"] (defScope s_is_row) := ⟨rfl, rfl, rfl, by decide +kernel, rfl, by decide +kernel, by decide +kernel⟩
section
variable {P : Program} {w : World} {K : PySem.W.Frag} {mg : Str → Option Value} {base : Heap}
theorem whole_int {p : Addr} {H : Hp} {v : V} {g : G} (h : Tg p H v g) (e : wholeG g = true) : ∃ i, v = .int i ∧ g = .int i := by
  cases h with
  | int i => exact ⟨i, rfl, rfl⟩
  | _ => cases e
theorem ok_whole (T : At K mg "is_whole" s_is_whole ["thing"]) (B : Bt mg) : Cal P w K mg base 1 "is_whole" ["thing"] spWhole := by
  refine cal_of T sc_is_whole (fun vs H Q E h => ?_) (fun f cdv A outer s H vs Q E hr h => ?_)
  · obtain ⟨p, v, g, rfl, _⟩ := h
    rfl
  · obtain ⟨p, v, g, rfl, hv, q⟩ := h
    refine ⟨_, (pss_one (ps_ret (pe_and (pe_callB call_isi (by rfl) B.isinstance (by decide +kernel) (pa_cons (pv 0) (pa_cons (pe_bltn (v := .ty "int") (u := .type "int") (by rfl) B.int (by decide +kernel) rfl) pa_nil))) (pe_one (pe_not (pe_callB call_isi (by rfl) B.isinstance (by decide +kernel) (pa_cons (pv 0) (pa_cons (pe_bltn (v := .ty "bool") (u := .type "bool") (by rfl) B.bool (by decide +kernel) rfl) pa_nil)))))))), ?_⟩
    refine ⟨_, rfl, v, .ty "int", _, _, _, rfl, .ty "int", hv.ty, kit_int g, _, rfl, iteB (fun e => ?_) (fun e => ?_)⟩
    · refine ⟨_, rfl, v, .ty "bool", _, _, _, rfl, .ty "bool", hv.ty, kit_bool g, _, rfl, ?_⟩
      rw [show (!isBool g) = wholeG g from by cases g <;> first | rfl | cases e]
      exact q
    · rw [show false = wholeG g from by cases g <;> first | rfl | cases e]
      exact q
theorem ok_room (T : At K mg "is_room" s_is_room ["thing"]) (D : GbW mg) (c_is_whole : Cal P w K mg base 1 "is_whole" ["thing"] spWhole) : Cal P w K mg base 2 "is_room" ["thing"] spRoom := by
  obtain ⟨tl, mLast⟩ := D.last
  refine cal_of T sc_is_room (fun vs H Q E h => ?_) (fun f cdv A outer s H vs Q E hr h => ?_)
  · obtain ⟨p, v, g, rfl, _⟩ := h
    rfl
  · obtain ⟨p, v, g, rfl, hv, q⟩ := h
    refine ⟨_, (pss_one (ps_ret (pe_and (pe_own c_is_whole hr (by decide) (by rfl) (pa_cons (pv 0) pa_nil)) (pe_one (pe_chain op_le op_le pe_int (pv 0) (pe_glob (v := .int 99) rfl mLast ⟨_, rfl⟩)))))), ?_⟩
    refine ⟨_, rfl, p, v, g, rfl, hv, _, rfl, iteB (fun e => ?_) (fun e => ?_)⟩
    · obtain ⟨i, rfl, rfl⟩ := whole_int hv e
      refine ⟨_, rfl, _, _, rfl, rfl, _, rfl, iteB (fun e1 => ?_) (fun e1 => ?_)⟩
      · refine ⟨_, _, rfl, rfl, ?_⟩
        have z : decide (i ≤ 99) = inG 100 (.int i) := by
          show decide (i ≤ 99) = (decide (0 ≤ i) && decide (i < 100))
          rw [e1, Bool.true_and]
          exact decide_eq_decide.mpr (by omega)
        rw [← z] at q
        exact q
      · rw [show false = inG 100 (.int i) from by show false = (decide (0 ≤ i) && decide (i < 100)); rw [e1, Bool.false_and]]
        exact q
    · rw [show false = inG 100 g from by cases g <;> first | rfl | cases e]
      exact q
theorem ok_rising (T : At K mg "are_rising" s_are_rising ["numbers"]) (B : Bt mg) : Cal P w K mg base 1 "are_rising" ["numbers"] spRising := by
  refine cal_of T sc_are_rising (fun vs H Q E h => ?_) (fun f cdv A outer s H vs Q E hr h => ?_)
  · obtain ⟨a, ns, rfl, _⟩ := h
    rfl
  · obtain ⟨a, ns, rfl, ha, hl, q⟩ := h
    refine ⟨_, (pss_one (ps_ret (pe_callB (cr_all rfl) (by rfl) B.all (by decide +kernel) (pa_cons (pe_lc (own := [("one", 1), ("other", 2)]) (g := gTup K 2 (gCons (gName 1) (gCons (gName 2) gNil))) (tt := tYes) (te := (tOp (rI0 fun i j => .bl (decide (i < j))) (tVar 1) (tVar 2))) (by rfl) sc_are_rising.nd (RZ.pi_zipA (by rfl) B.zip (pa_cons (pv 0) (pa_cons (pe_slice sl_tup2 (pv 0) (po_some pe_int) po_none) pa_nil))) (blkOk_by (own := [("one", 1), ("other", 2)]) (N := ["numbers", "one", "other"]) (sc := defScope s_are_rising) (by decide +kernel)) (fun _ _ _ _ _ => (pg_tup (by rfl) (pgs_cons (pg_name (i := 1) sc_are_rising.nd rfl (Or.inl rfl)) (pgs_cons (pg_name (i := 2) sc_are_rising.nd rfl (Or.inl rfl)) pgs_nil)))) (fun _ _ _ _ _ => pts_nil) (fun _ _ _ _ _ => (pe_cmpR op_lt (pv 1) (pv 2) (nomark _)))) pa_nil)))), ?_⟩
    refine ⟨_, rfl, _, rfl, 1, rfl, a, _, rfl, ha, fun b H1 s1 hb => ?_⟩
    rw [cut_tail, ← List.map_drop] at hb
    refine ⟨a, b, _, _, rfl, .inr ⟨(ha.same s1).sq, hb.sq, fun D nD => ?_⟩⟩
    refine lc_zipT (K := K) (a := a) (b := b) (xs := ns.map V.int) (ys := (ns.drop 1).map V.int) (by rw [List.length_map, List.length_map, List.length_drop]; omega) (fun i H2 => Same H H2 ∧ T2 H2 a (ns.map V.int) ∧ T2 H2 b ((ns.drop 1).map V.int) ∧ H2 D = some (.lst (((ups ns).take i).map V.bl))) ?_ ?_ ?_ ?_
    · have sD : Same H1 (upd H1 D (.lst [])) := same_upd nD
      exact ⟨s1.trans sD, (ha.same s1).same sD, hb.same sD, upd_same⟩
    · rintro i H2 _ ⟨_, h1, h2, _⟩
      exact ⟨h1.sq, h2.sq⟩
    · rintro i x y T H2 hx hy ⟨s2, h1, h2, hD⟩ nT
      have sT : Same H2 (upd H2 T (.tup [x, y])) := same_upd nT
      rw [List.getElem?_map] at hx hy
      rw [List.getElem?_drop] at hy
      obtain ⟨n1, e1, rfl⟩ := Option.map_eq_some_iff.mp hx
      obtain ⟨n2, e2, rfl⟩ := Option.map_eq_some_iff.mp hy
      have hi : i < ns.length := (List.getElem?_eq_some_iff.mp e1).1
      refine ⟨T, _, rfl, SqT.of upd_same, rfl, _, _, rfl, _, _, rfl, rfl, rfl, tyes ?_⟩
      refine ⟨_, rfl, _, rfl, _, _, rfl, rfl, ((ups ns).take i).map V.bl, sT _ _ hD, ?_, ?_⟩
      · rw [List.length_map, List.length_take]
        exact small1000 (by omega)
      · have h3 := sT _ _ hD
        have k3 := (K2.same sT).trans (K2.lst (u := .lst (((ups ns).take (i + 1)).map V.bl)) h3)
        show _ ∧ _ ∧ _ ∧ _
        rw [take_one (ups_get e1 e2), List.map_append] at k3 ⊢
        refine ⟨fun c o ec => ?_, k3 _ _ h1, k3 _ _ h2, upd_same⟩
        rw [upd_ne (ne_of_none (s1 _ _ ec) nD)]
        exact sT _ _ (s2 _ _ ec)
    · rintro H2 ⟨s2, h1, h2, hD⟩
      refine ⟨D, ups ns, rfl, ?_, ?_⟩
      · rw [List.take_of_length_le (by unfold ups; rw [List.length_map, List.length_zip, List.length_map]; omega)] at hD
        exact SqL.of hD
      · exact q H2 s2
theorem ok_rooms (T : At K mg "are_rooms" s_are_rooms ["thing", "least", "most"]) (B : Bt mg) (c_is_room : Cal P w K mg base 2 "is_room" ["thing"] spRoom) (c_are_rising : Cal P w K mg base 1 "are_rising" ["numbers"] spRising) :
    Cal P w K mg base 3 "are_rooms" ["thing", "least", "most"] spRooms := by
  refine cal_of T sc_are_rooms (fun vs H Q E h => ?_) (fun f cdv A outer s H vs Q E hr h => ?_)
  · obtain ⟨p, v, g, lo, hi, rfl, _⟩ := h
    rfl
  · obtain ⟨p, v, g, lo, hi, rfl, hv, hm, q⟩ := h
    refine ⟨_, (pss_cons (ps_if (PW.pt (pw_or (pt_not (pt_val (pe_callB call_isi (by rfl) B.isinstance (by decide +kernel) (pa_cons (pv 0) (pa_cons (pe_bltn (v := .ty "tuple") (u := .type "tuple") (by rfl) B.tuple (by decide +kernel) rfl) pa_nil))))) (pw_or1 (pt_not (pt_chain op_le op_le (pv 1) (pe_callB call_len_seq (by rfl) B.len PySem.boot_len (pa_cons (pv 0) pa_nil)) (pv 2)))))) (pss_one (ps_ret pe_bl)) pss_nil)
      (pss_one (ps_ret (pe_and (pe_callB (cr_all rfl) (by rfl) B.all (by decide +kernel) (pa_cons (pe_lc (own := [("room", 3)]) (g := gName 3) (tt := tYes) (te := (tCall spRoom [] E0 (tCons (tVar 3) tNil))) (by rfl) sc_are_rooms.nd (pi_tup (pv 0)) (blkOk_by (own := [("room", 3)]) (N := ["thing", "least", "most", "room"]) (sc := defScope s_are_rooms) (by decide +kernel)) (fun _ _ _ _ _ => (pg_name (i := 3) sc_are_rooms.nd rfl (Or.inl rfl))) (fun _ _ _ _ _ => pts_nil) (fun _ _ _ _ _ => (pe_own c_is_room hr (by decide) (by rfl) (pa_cons (pv 3) pa_nil)))) pa_nil)) (pe_one (pe_own c_are_rising hr (by decide) (by rfl) (pa_cons (pv 0) pa_nil))))))), ?_⟩
    refine ⟨_, rfl, v, .ty "tuple", _, _, _, rfl, .ty "tuple", hv.ty, kit_tuple g, _, rfl, iteB (fun e => ?_) (fun e => ?_)⟩
    · refine iteT ?_
      rw [show false = roomsG lo hi g from by cases g <;> first | rfl | cases e]
      exact q H (Same.refl H)
    cases hv with
    | @tup a vs gs ha t =>
      have hlen : vs.length = gs.length := t.len
      refine ⟨_, rfl, _, rfl, a, _, rfl, .inr ha.sq, _, _, rfl, rfl, _, rfl, iteB (fun e1 => ?_) (fun e1 => ?_)⟩
      · refine ⟨_, rfl, _, _, rfl, rfl, _, rfl, ?_⟩
        rw [hlen] at e1 ⊢
        refine iteB (fun e2 => ?_) (fun e2 => ?_)
        · have e3 : decide ((gs.length : Int) ≤ hi) = false := by simpa using e2
          have z : false = roomsG lo hi (.tup gs) := by
            show false = ((decide (lo ≤ (gs.length : Int)) && decide ((gs.length : Int) ≤ hi)) && risG 100 gs)
            rw [e3, Bool.and_false, Bool.false_and]
          rw [z]
          exact q H (Same.refl H)
        · have e3 : decide ((gs.length : Int) ≤ hi) = true := by simpa using e2
          have small : gs.length ≤ 1000 := by
            have := of_decide_eq_true e3
            omega
          have z : roomsG lo hi (.tup gs) = risG 100 gs := by
            show ((decide (lo ≤ (gs.length : Int)) && decide ((gs.length : Int) ≤ hi)) && risG 100 gs) = _
            rw [e1, e3, Bool.true_and, Bool.true_and]
          refine ⟨_, rfl, a, rfl, ⟨_, ha.sq⟩, fun D nD => ?_⟩
          refine lc_tup (K := K) (a := a) (xs := vs) (fun i H2 => Same H H2 ∧ T2 H2 a vs ∧ H2 D = some (.lst (((gs.map (inG 100)).take i).map V.bl))) ?_ ?_ ?_ ?_
          · have sD : Same H (upd H D (.lst [])) := same_upd nD
            exact ⟨sD, ha.same sD, upd_same⟩
          · rintro i H2 _ ⟨_, h3, _⟩
            exact h3.sq
          · rintro i x H2 hx ⟨s2, h3, hD⟩
            obtain ⟨g1, e4, tg⟩ := t.get hx
            have hi : i < gs.length := (List.getElem?_eq_some_iff.mp e4).1
            refine ⟨rfl, tyes ?_⟩
            refine ⟨_, rfl, p, x, g1, rfl, tg.keep (Keeps.same s2), ((gs.map (inG 100)).take i).map V.bl, hD, (by rw [List.length_map, List.length_take, List.length_map]; exact small1000 (by omega)), ?_⟩
            rw [take_one (x := inG 100 g1) (by rw [List.getElem?_map, e4]; rfl), List.map_append]
            refine ⟨fun c o ec => ?_, K2.lst hD _ _ h3, upd_same⟩
            rw [upd_ne (ne_of_none ec nD)]
            exact s2 _ _ ec
          · rintro H2 ⟨s2, h3, hD⟩
            rw [List.take_of_length_le (by rw [List.length_map]; omega)] at hD
            refine ⟨D, gs.map (inG 100), rfl, SqL.of hD, _, rfl, iteB (fun e5 => ?_) (fun e5 => ?_)⟩
            · rw [ints_of_all t e5] at h3
              refine ⟨_, rfl, a, _, rfl, h3, (by rw [List.length_map]; exact small), fun H3 s3 => ?_⟩
              have q3 := q H3 (s2.trans s3)
              rw [z] at q3
              unfold risG at q3
              rw [e5, Bool.true_and] at q3
              exact q3
            · have q3 := q H2 s2
              rw [z] at q3
              unfold risG at q3
              rw [e5, Bool.false_and] at q3
              exact q3
      · refine ⟨_, rfl, iteT ?_⟩
        rw [hlen] at e1
        have z : false = roomsG lo hi (.tup gs) := by
          show false = ((decide (lo ≤ (gs.length : Int)) && decide ((gs.length : Int) ≤ hi)) && risG 100 gs)
          rw [e1, Bool.false_and, Bool.false_and]
        rw [z]
        exact q H (Same.refl H)
    | _ => cases e
theorem ok_tos (T : At K mg "are_tos" s_are_tos ["thing", "rows"]) (B : Bt mg) (c_is_whole : Cal P w K mg base 1 "is_whole" ["thing"] spWhole) (c_are_rising : Cal P w K mg base 1 "are_rising" ["numbers"] spRising) :
    Cal P w K mg base 2 "are_tos" ["thing", "rows"] spTos := by
  refine cal_of T sc_are_tos (fun vs H Q E h => ?_) (fun f cdv A outer s H vs Q E hr h => ?_)
  · obtain ⟨p, v, g, n, rfl, _⟩ := h
    rfl
  · obtain ⟨p, v, g, n, rfl, hv, hm, q⟩ := h
    refine ⟨_, (pss_cons (ps_if (PW.pt (pw_or (pt_not (pt_val (pe_callB call_isi (by rfl) B.isinstance (by decide +kernel) (pa_cons (pv 0) (pa_cons (pe_bltn (v := .ty "tuple") (u := .type "tuple") (by rfl) B.tuple (by decide +kernel) rfl) pa_nil))))) (pw_or1 (pt_cmpR op_gt (pe_callB call_len_seq (by rfl) B.len PySem.boot_len (pa_cons (pv 0) pa_nil)) (pv 1) (nomark _))))) (pss_one (ps_ret pe_bl)) pss_nil)
      (pss_one (ps_ret (pe_and (pe_callB (cr_all rfl) (by rfl) B.all (by decide +kernel) (pa_cons (pe_lc (own := [("to", 2)]) (g := gName 2) (tt := tYes) (te := (tAndV (tCall spWhole [] E0 (tCons (tVar 2) tNil)) (tChain (rI0 fun i j => .bl (decide (i ≤ j))) (rI0 fun i j => .bl (decide (i < j))) (tC (.int 0)) (tVar 2) (tVar 1)))) (by rfl) sc_are_tos.nd (pi_tup (pv 0)) (blkOk_by (own := [("to", 2)]) (N := ["thing", "rows", "to"]) (sc := defScope s_are_tos) (by decide +kernel)) (fun _ _ _ _ _ => (pg_name (i := 2) sc_are_tos.nd rfl (Or.inl rfl))) (fun _ _ _ _ _ => pts_nil) (fun _ _ _ _ _ => (pe_and (pe_own c_is_whole hr (by decide) (by rfl) (pa_cons (pv 2) pa_nil)) (pe_one (pe_chain op_le op_lt pe_int (pv 2) (pv 1)))))) pa_nil)) (pe_one (pe_own c_are_rising hr (by decide) (by rfl) (pa_cons (pv 0) pa_nil))))))), ?_⟩
    refine ⟨_, rfl, v, .ty "tuple", _, _, _, rfl, .ty "tuple", hv.ty, kit_tuple g, _, rfl, iteB (fun e => ?_) (fun e => ?_)⟩
    · refine iteT ?_
      rw [show false = tosG n g from by cases g <;> first | rfl | cases e]
      exact q H (Same.refl H)
    cases hv with
    | @tup a vs gs ha t =>
      have hlen : vs.length = gs.length := t.len
      refine ⟨_, rfl, a, _, rfl, .inr ha.sq, _, rfl, _, _, rfl, rfl, _, rfl, ?_⟩
      rw [hlen]
      refine iteB (fun e1 => ?_) (fun e1 => ?_)
      · have e3 : decide ((gs.length : Int) ≤ n) = false := decide_eq_false (by have := of_decide_eq_true e1; omega)
        have z : false = tosG n (.tup gs) := by
          show false = (decide ((gs.length : Int) ≤ n) && risG n gs)
          rw [e3, Bool.false_and]
        rw [z]
        exact q H (Same.refl H)
      · have e3 : decide ((gs.length : Int) ≤ n) = true := decide_eq_true (by have := of_decide_eq_false e1; omega)
        have small : gs.length ≤ 1000 := by
          have := of_decide_eq_true e3
          omega
        have z : tosG n (.tup gs) = risG n gs := by
          show (decide ((gs.length : Int) ≤ n) && risG n gs) = _
          rw [e3, Bool.true_and]
        refine ⟨_, rfl, a, rfl, ⟨_, ha.sq⟩, fun D nD => ?_⟩
        refine lc_tup (K := K) (a := a) (xs := vs) (fun i H2 => Same H H2 ∧ T2 H2 a vs ∧ H2 D = some (.lst (((gs.map (inG n)).take i).map V.bl))) ?_ ?_ ?_ ?_
        · have sD : Same H (upd H D (.lst [])) := same_upd nD
          exact ⟨sD, ha.same sD, upd_same⟩
        · rintro i H2 _ ⟨_, h3, _⟩
          exact h3.sq
        · rintro i x H2 hx ⟨s2, h3, hD⟩
          obtain ⟨g1, e4, tg⟩ := t.get hx
          have hi : i < gs.length := (List.getElem?_eq_some_iff.mp e4).1
          have fin : ∀ b : Bool, b = inG n g1 → ∃ acc, H2 D = some (.lst acc) ∧ acc.length < sizeLine ∧ (Same H (upd H2 D (.lst (acc ++ [V.bl b]))) ∧ T2 (upd H2 D (.lst (acc ++ [V.bl b]))) a vs ∧ (upd H2 D (.lst (acc ++ [V.bl b]))) D = some (.lst (((gs.map (inG n)).take (i + 1)).map V.bl))) := by
            rintro b rfl
            refine ⟨((gs.map (inG n)).take i).map V.bl, hD, (by rw [List.length_map, List.length_take, List.length_map]; exact small1000 (by omega)), ?_⟩
            rw [take_one (x := inG n g1) (by rw [List.getElem?_map, e4]; rfl), List.map_append]
            refine ⟨fun c o ec => ?_, K2.lst hD _ _ h3, upd_same⟩
            rw [upd_ne (ne_of_none ec nD)]
            exact s2 _ _ ec
          refine ⟨rfl, tyes ?_⟩
          refine ⟨_, rfl, p, x, g1, rfl, tg.keep (Keeps.same s2), _, rfl, iteB (fun e5 => ?_) (fun e5 => ?_)⟩
          · obtain ⟨j, rfl, rfl⟩ := whole_int tg e5
            refine ⟨_, rfl, _, _, rfl, rfl, _, rfl, iteB (fun e6 => ?_) (fun e6 => ?_)⟩
            · refine ⟨_, rfl, _, _, rfl, rfl, fin _ ?_⟩
              show decide (j < n) = (decide (0 ≤ j) && decide (j < n))
              rw [e6, Bool.true_and]
            · refine fin _ ?_
              show false = (decide (0 ≤ j) && decide (j < n))
              rw [e6, Bool.false_and]
          · refine fin _ ?_
            cases g1 <;> first | rfl | cases e5
        · rintro H2 ⟨s2, h3, hD⟩
          rw [List.take_of_length_le (by rw [List.length_map]; omega)] at hD
          refine ⟨D, gs.map (inG n), rfl, SqL.of hD, _, rfl, iteB (fun e5 => ?_) (fun e5 => ?_)⟩
          · rw [ints_of_all t e5] at h3
            refine ⟨_, rfl, a, _, rfl, h3, (by rw [List.length_map]; exact small), fun H3 s3 => ?_⟩
            have q3 := q H3 (s2.trans s3)
            rw [z] at q3
            unfold risG at q3
            rw [e5, Bool.true_and] at q3
            exact q3
          · have q3 := q H2 s2
            rw [z] at q3
            unfold risG at q3
            rw [e5, Bool.false_and] at q3
            exact q3
    | _ => cases e
theorem ok_row (T : At K mg "is_row" s_is_row ["thing", "rows"]) (B : Bt mg) (c_are_rooms : Cal P w K mg base 3 "are_rooms" ["thing", "least", "most"] spRooms) (c_are_tos : Cal P w K mg base 2 "are_tos" ["thing", "rows"] spTos) :
    Cal P w K mg base 4 "is_row" ["thing", "rows"] spRow := by
  refine cal_of T sc_is_row (fun vs H Q E h => ?_) (fun f cdv A outer s H vs Q E hr h => ?_)
  · obtain ⟨p, v, g, n, rfl, _⟩ := h
    rfl
  · obtain ⟨p, v, g, n, rfl, hv, hm, q⟩ := h
    refine ⟨_, (pss_cons (ps_if (PW.pt (pw_or (pt_not (pt_val (pe_callB call_isi (by rfl) B.isinstance (by decide +kernel) (pa_cons (pv 0) (pa_cons (pe_bltn (v := .ty "tuple") (u := .type "tuple") (by rfl) B.tuple (by decide +kernel) rfl) pa_nil))))) (pw_or1 (pt_cmpR op_ne (pe_callB call_len_seq (by rfl) B.len PySem.boot_len (pa_cons (pv 0) pa_nil)) pe_int (nomark _))))) (pss_one (ps_ret pe_bl)) pss_nil)
      (pss_one (ps_ret (pe_and (pe_own c_are_rooms hr (by decide) (by rfl) (pa_cons (pe_ix ix_tup (pv 0) pe_int (fun _ _ => rfl)) (pa_cons pe_int (pa_cons pe_int pa_nil)))) (pe_one (pe_own c_are_tos hr (by decide) (by rfl) (pa_cons (pe_ix ix_tup (pv 0) pe_int (fun _ _ => rfl)) (pa_cons (pv 1) pa_nil)))))))), ?_⟩
    refine ⟨_, rfl, v, .ty "tuple", _, _, _, rfl, .ty "tuple", hv.ty, kit_tuple g, _, rfl, iteB (fun e => ?_) (fun e => ?_)⟩
    · refine iteT ?_
      rw [show false = rowG n g from by cases g <;> first | rfl | cases e]
      exact q H (Same.refl H)
    cases hv with
    | @tup a vs gs ha t =>
      have hlen : vs.length = gs.length := t.len
      refine ⟨_, rfl, a, _, rfl, .inr ha.sq, rfl, _, rfl, ?_⟩
      match gs, vs, t, hlen, ha, q with
      | [], [], _, _, _, q => exact iteT (q H (Same.refl H))
      | [_], [_], _, _, _, q => exact iteT (q H (Same.refl H))
      | _ :: _ :: _ :: _, _ :: _ :: _ :: _, _, _, _, q =>
        refine iteB (fun _ => q H (Same.refl H)) (fun z => ?_)
        simp at z
        omega
      | [x, y], [v1, v2], .cons tx (.cons ty _), _, ha, q =>
        refine iteNS rfl ?_
        refine ⟨_, rfl, _, _, _, _, rfl, rfl, ha.sq, atI_nat (j := 0) rfl, p, v1, x, 0, 6, rfl, tx, by decide, fun H1 s1 => ?_⟩
        refine ⟨_, rfl, iteB (fun e5 => ?_) (fun e5 => ?_)⟩
        · refine ⟨_, rfl, _, _, _, _, rfl, rfl, (ha.same s1).sq, atI_nat (j := 1) rfl, _, rfl, p, v2, y, n, rfl, ty.keep (Keeps.same s1), hm, fun H2 s2 => ?_⟩
          have q3 := q H2 (s1.trans s2)
          rw [show rowG n (.tup [x, y]) = (roomsG 0 6 x && tosG n y) from rfl, e5, Bool.true_and] at q3
          exact q3
        · have q3 := q H1 s1
          rw [show rowG n (.tup [x, y]) = (roomsG 0 6 x && tosG n y) from rfl, e5, Bool.false_and] at q3
          exact q3
    | _ => cases e
end
end Su
/-! ### W2G: the rooms of a web; how a thing of any kind is looked at as a web -/
namespace Su
open PySem PySem.Spec PyProof.Rows L2
def spRoomsIn (w : World) : Sp := fun vs H Q _ => ∃ (p : Addr) (rs : List Rw) (A : List Int), vs = [.ref p] ∧ WebAt H p rs ∧ A.length < 1000 ∧ (∀ k ∈ allRooms rs, k ∈ A) ∧
  ∀ (ms : List Int) (u : Addr) (H' : Hp), ms.Pairwise (· < ·) → (∀ k : Int, k ∈ ms ↔ k ∈ allRooms rs) → Same H H' → H u = none → H' u = some (.lst (ms.map V.int)) → Q (.ref u) H'
def rwOf : G → Rw
  | .tup [.tup rs, .tup ts] => (rs.map valI, ts.map valI)
  | _ => ([], [])
/-- the first that is not so -/
def badAt (f : G → Bool) : List G → Option Nat
  | [] => none
  | g :: gs => if f g = true then (badAt f gs).map (· + 1) else some 0
/-- the rooms, each once -/
def oneEach : List Int → List Int
  | [] => []
  | a :: l => if a ∈ oneEach l then oneEach l else a :: oneEach l
theorem oneEach_mem (k : Int) : ∀ l : List Int, k ∈ oneEach l ↔ k ∈ l
  | [] => Iff.rfl
  | a :: l => by
    unfold oneEach
    by_cases h : a ∈ oneEach l
    · rw [if_pos h, oneEach_mem k l, List.mem_cons]
      constructor
      · exact .inr
      · rintro (rfl | z)
        · exact (oneEach_mem k l).mp h
        · exact z
    · rw [if_neg h, List.mem_cons, List.mem_cons, oneEach_mem k l]
theorem oneEach_nodup : ∀ l : List Int, (oneEach l).Nodup
  | [] => List.nodup_nil
  | a :: l => by
    unfold oneEach
    by_cases h : a ∈ oneEach l
    · rw [if_pos h]
      exact oneEach_nodup l
    · rw [if_neg h]
      exact List.nodup_cons.mpr ⟨h, oneEach_nodup l⟩
theorem len_same {a b : List Int} (na : a.Nodup) (nb : b.Nodup) (h : ∀ k, k ∈ a ↔ k ∈ b) : a.length = b.length :=
  Nat.le_antisymm (nodup_few na fun k hk => (h k).mp hk) (nodup_few nb fun k hk => (h k).mpr hk)
theorem badAt_none {f : G → Bool} : ∀ {gs : List G}, (∀ g ∈ gs, f g = true) → badAt f gs = none
  | [], _ => rfl
  | g :: gs, h => by
    unfold badAt
    rw [if_pos (h g List.mem_cons_self), badAt_none fun x hx => h x (List.mem_cons_of_mem _ hx)]
    rfl
theorem badAt_some {f : G → Bool} : ∀ {gs : List G} {i : Nat} {g : G}, (∀ (j : Nat) (x : G), j < i → gs[j]? = some x → f x = true) → gs[i]? = some g → f g = false → badAt f gs = some i
  | [], _, _, _, e, _ => by simp at e
  | x :: gs, 0, g, _, e, b => by
    obtain rfl := (by simpa using e : x = g)
    unfold badAt
    rw [if_neg (by rw [b]; exact Bool.false_ne_true)]
  | x :: gs, i + 1, g, h, e, b => by
    unfold badAt
    rw [if_pos (h 0 x (Nat.succ_pos _) rfl), badAt_some (gs := gs) (i := i) (fun j y hj ey => h (j + 1) y (Nat.succ_lt_succ hj) (by simpa using ey)) (by simpa using e) b]
    rfl
theorem inG_val {n : Int} {g : G} (h : inG n g = true) : 0 ≤ valI g ∧ valI g < n := by
  cases g with
  | int i =>
    have z : (decide (0 ≤ i) && decide (i < n)) = true := h
    rw [Bool.and_eq_true, decide_eq_true_eq, decide_eq_true_eq] at z
    exact z
  | _ => cases h
theorem rowG_shape {n : Int} {g : G} (e : rowG n g = true) : ∃ x y, g = .tup [x, y] ∧ roomsG 0 6 x = true ∧ tosG n y = true := by
  unfold rowG at e
  split at e
  · rw [Bool.and_eq_true] at e
    exact ⟨_, _, rfl, e.1, e.2⟩
  · cases e
theorem roomsG_shape {lo hi : Int} {g : G} (e : roomsG lo hi g = true) : ∃ rs, g = .tup rs ∧ risG 100 rs = true := by
  unfold roomsG at e
  split at e
  · rw [Bool.and_eq_true] at e
    exact ⟨_, rfl, e.2⟩
  · cases e
theorem tosG_shape {n : Int} {g : G} (e : tosG n g = true) : ∃ rs, g = .tup rs ∧ risG n rs = true := by
  unfold tosG at e
  split at e
  · rw [Bool.and_eq_true] at e
    exact ⟨_, rfl, e.2⟩
  · cases e
theorem tup_at {p : Addr} {H : Hp} {v : V} {gs : List G} {n : Int} (h : Tg p H v (.tup gs)) (e : risG n gs = true) : ∃ a, v = .ref a ∧ T2 H a ((gs.map valI).map V.int) ∧ ∀ k ∈ gs.map valI, 0 ≤ k ∧ k < n := by
  unfold risG at e
  rw [Bool.and_eq_true] at e
  cases h with
  | @tup a vs _ ha t =>
    rw [ints_of_all t e.1] at ha
    refine ⟨a, rfl, ha, fun k hk => ?_⟩
    obtain ⟨gk, hg, rfl⟩ := List.mem_map.mp hk
    exact inG_val ((List.all_eq_true.mp e.1) _ (List.mem_map.mpr ⟨gk, hg, rfl⟩))
theorem rowG_at {p : Addr} {H : Hp} {v : V} {g : G} {n : Int} (h : Tg p H v g) (e : rowG n g = true) : RowAt H v (rwOf g) ∧ ∀ k ∈ (rwOf g).1, 0 ≤ k ∧ k < 100 := by
  obtain ⟨x, y, rfl, ex, ey⟩ := rowG_shape e
  obtain ⟨rs, rfl, e1⟩ := roomsG_shape ex
  obtain ⟨ts, rfl, e2⟩ := tosG_shape ey
  cases h with
  | @tup a vs _ ha t =>
    cases t with
    | cons tx t1 =>
      cases t1 with
      | cons ty t2 =>
        cases t2
        obtain ⟨b, rfl, hb, kb⟩ := tup_at tx e1
        obtain ⟨c, rfl, hc, _⟩ := tup_at ty e2
        exact ⟨⟨a, b, c, rfl, ha, hb, hc⟩, kb⟩
theorem rows_at {p : Addr} {H : Hp} {n : Int} : ∀ {vs : List V} {gs : List G}, TgL p H vs gs → (∀ g ∈ gs, rowG n g = true) → RowsAt H vs (gs.map rwOf) ∧ ∀ k ∈ allRooms (gs.map rwOf), 0 ≤ k ∧ k < 100
  | _, _, .nil, _ => ⟨trivial, fun k hk => by cases hk⟩
  | _, _, .cons (d := d) (ds := ds) h t, e => by
    obtain ⟨a1, a2⟩ := rowG_at h (e d List.mem_cons_self)
    obtain ⟨b1, b2⟩ := rows_at t fun g hg => e g (List.mem_cons_of_mem _ hg)
    refine ⟨⟨a1, b1⟩, fun k hk => ?_⟩
    rcases List.mem_append.mp (show k ∈ (rwOf d).1 ++ allRooms (ds.map rwOf) from hk) with z | z
    · exact a2 k z
    · exact b2 k z
/-- none: a web; some r: it is refused, its row r -/
def lookG : G → Option (Option Nat)
  | .lst gs => if 1 ≤ gs.length ∧ gs.length ≤ 80 then (match badAt (rowG gs.length) gs with
    | some i => some (some i)
    | none => if 12 < (oneEach (allRooms (gs.map rwOf))).length then some none else none) else some none
  | _ => some none
def rowV : Option Nat → V
  | none => .non
  | some i => .int i
def spLook (C : Addr) : Sp := fun vs H Q E => ∃ (p : Addr) (v : V) (g : G), vs = [v] ∧ Tg p H v g ∧ (lookG g = none → ∀ H', Same H H' → Q .non H') ∧
  ∀ r, lookG g = some r → ∀ (H' : Hp) (d : Addr), Same H H' → H d = none → H' d = some (.xd [("row", rowV r)]) → E (.ref C) (some d) H'
theorem allRooms_app (a b : List Rw) : allRooms (a ++ b) = allRooms a ++ allRooms b := by
  unfold allRooms
  rw [List.map_append, List.flatten_append]
theorem allRooms_take {rs : List Rw} {i : Nat} {r : Rw} (h : rs[i]? = some r) : allRooms (rs.take (i + 1)) = allRooms (rs.take i) ++ r.1 := by
  rw [List.take_add_one, h, allRooms_app]
  show _ ++ (r.1 ++ []) = _
  rw [List.append_nil]
theorem allRooms_sub {rs : List Rw} {i : Nat} {k : Int} (h : k ∈ allRooms (rs.take i)) : k ∈ allRooms rs := by
  rw [← List.take_append_drop i rs, allRooms_app]
  exact List.mem_append_left _ h
theorem sc_rooms_in : FnScope ["rows", "rooms", "tos", "room"] ["rows"] (defScope s_rooms_in) := ⟨rfl, rfl, rfl, by decide +kernel, rfl, by decide +kernel, by decide +kernel⟩
theorem sc_look_at_web : FnScope ["thing", "number", "row"] ["thing"] (defScope s_look_at_web) := ⟨rfl, rfl, rfl, by decide +kernel, rfl, by decide +kernel, by decide +kernel⟩
section
variable {P : Program} {w : World} {K : PySem.W.Frag} {mg : Str → Option Value} {base : Heap}
theorem ok_rooms_in (T : At K mg "rooms_in" s_rooms_in ["rows"]) (B : Bt mg) : Cal P w K mg base 1 "rooms_in" ["rows"] (spRoomsIn w) := by
  refine cal_of T sc_rooms_in (fun vs H Q E h => ?_) (fun f cdv A outer s H vs Q E hr h => ?_)
  · obtain ⟨p, rs, A, rfl, _⟩ := h
    rfl
  · obtain ⟨p, rs, A, rfl, ⟨ws, hp, hrs⟩, hA, hin, q⟩ := h
    refine ⟨_, (pss_one (ps_ret (pe_callB (cr_sortedS rfl) (by rfl) B.sorted (by decide +kernel) (pa_cons (pe_sc2 (own := [("rooms", 1), ("tos", 2), ("room", 3)]) (vs1 := [3]) (go := (gTup K 2 (gCons (gName 1) (gCons (gName 2) gNil)))) (wn := iTup K (tVar 1)) (gn := (gName 3)) (te := (tVar 3)) (by rfl) sc_rooms_in.nd (pi_list (pv 0)) (blkOk_by (own := [("rooms", 1), ("tos", 2), ("room", 3)]) (N := ["rows", "rooms", "tos", "room"]) (sc := defScope s_rooms_in) (by decide +kernel)) (by decide) (fun _ _ _ _ _ => (pg_tup (by rfl) (pgs_cons (pg_name (i := 1) sc_rooms_in.nd rfl (Or.inl rfl)) (pgs_cons (pg_name (i := 2) sc_rooms_in.nd rfl (Or.inl rfl)) pgs_nil)))) (fun _ _ _ _ _ => (pi_tup (pv 1))) (fun _ _ _ _ _ => (pg_name (i := 3) sc_rooms_in.nd rfl (Or.inl rfl))) (fun _ _ _ _ _ => (pv 3))) pa_nil)))), ?_⟩
    have hwl := hrs.len
    refine ⟨_, rfl, p, rfl, ⟨_, SqL.of hp⟩, fun D nD => ?_⟩
    refine ⟨fun i m H2 => m = ws.length - i ∧ i ≤ ws.length ∧ Same H H2 ∧ SetIs w H2 D (allRooms (rs.take i)), ⟨ws.length, (Nat.sub_zero _).symm, Nat.zero_le _, same_upd nD, ⟨_, 0, [], upd_same, List.nodup_nil, rfl, fun k => by simp, fun k => by simp [allRooms]⟩⟩, ?_⟩
    rintro i m H2 ⟨rfl, hi, s2, set2⟩
    by_cases hlt : i < ws.length
    · have hx : ws[i]? = some ws[i] := List.getElem?_eq_getElem hlt
      obtain ⟨r, er, a, b, c, ea, ha, hb, hc⟩ := hrs.get hx
      refine .inr ⟨⟨ws, ws[i], SqL.of (s2 _ _ hp), hx⟩, fun H3 => Same H H3 ∧ SetIs w H3 D (allRooms (rs.take (i + 1))), fun H' h => ⟨ws.length - (i + 1), by omega, rfl, hlt, h⟩, fun x H' y => ?_⟩
      obtain ⟨e1, y⟩ := y
      have ex : x = .ref a := by
        have z := y ws (SqL.of (s2 _ _ hp))
        rw [hx] at z
        injection z with z
        rw [← z, ea]
      rw [e1]
      clear e1 y
      subst ex
      refine ⟨a, _, rfl, (ha.same s2).sq, rfl, _, _, rfl, _, _, rfl, rfl, rfl, ?_⟩
      refine ⟨_, rfl, b, rfl, ⟨_, (hb.same s2).sq⟩, ?_⟩
      refine ⟨fun j k H3 => k = r.1.length - j ∧ j ≤ r.1.length ∧ Same H H3 ∧ SetIs w H3 D (allRooms (rs.take i) ++ r.1.take j), ⟨r.1.length, (Nat.sub_zero _).symm, Nat.zero_le _, s2, by rw [List.take_zero, List.append_nil]; exact set2⟩, ?_⟩
      rintro j k H3 ⟨rfl, hj, s3, set3⟩
      by_cases hjt : j < r.1.length
      · have hy : (r.1.map V.int)[j]? = some (V.int r.1[j]) := by
          rw [List.getElem?_map, List.getElem?_eq_getElem hjt]
          rfl
        refine .inr ⟨⟨_, _, (hb.same s3).sq, hy⟩, fun H4 => Same H H4 ∧ SetIs w H4 D (allRooms (rs.take i) ++ r.1.take (j + 1)), fun H' h => ⟨r.1.length - (j + 1), by omega, rfl, hjt, h⟩, fun y H' yl => ?_⟩
        obtain ⟨e2, yl⟩ := yl
        have ey : y = .int r.1[j] := by
          have z := yl _ (hb.same s3).sq
          rw [hy] at z
          injection z with z
          exact z.symm
        rw [e2]
        clear e2 yl
        subst ey
        refine ⟨rfl, _, rfl, ?_⟩
        have sub3 : ∀ k ∈ allRooms (rs.take i) ++ r.1.take j, k ∈ A := by
          intro k hk
          rcases List.mem_append.mp hk with z | z
          · exact hin k (allRooms_sub z)
          · refine hin k (allRooms_sub (i := i + 1) ?_)
            rw [allRooms_take er]
            exact List.mem_append_right _ (List.mem_of_mem_take z)
        obtain ⟨S, n, eD, few, nx⟩ := set3.add (A := A) (by omega) sub3 r.1[j]
        refine ⟨_, S, n, rfl, eD, few, fun c o ec => ?_, ?_⟩
        · rw [upd_ne (ne_of_none ec nD)]
          exact s3 _ _ ec
        · rw [List.take_add_one, List.getElem?_eq_getElem hjt, ← List.append_assoc]
          exact nx _ upd_same
      · have e : j = r.1.length := by omega
        subst e
        rw [List.take_length] at set3
        refine .inl ⟨⟨_, (hb.same s3).sq, by rw [List.length_map]; exact Nat.le_refl _⟩, s3, ?_⟩
        rw [allRooms_take er]
        exact set3
    · have e : i = ws.length := by omega
      subst e
      rw [hwl, List.take_length] at set2
      refine .inl ⟨⟨ws, SqL.of (s2 _ _ hp), Nat.le_refl _⟩, ?_⟩
      refine ⟨D, _, rfl, set2, fun ms u pw mem nu => ?_⟩
      exact q ms u _ pw mem (s2.trans (same_upd nu)) (s2.free nu) upd_same
theorem ok_look {C fI : Addr} {newId initId : String} {bmB : List Value} (OW : XC.Own P K mg "NoWeb" "row" C fI "ValueError" newId initId bmB) (T : At K mg "look_at_web" s_look_at_web ["thing"]) (B : Bt mg) (D : GbW mg) (c_is_row : Cal P w K mg base 4 "is_row" ["thing", "rows"] spRow) (c_rooms_in : Cal P w K mg base 1 "rooms_in" ["rows"] (spRoomsIn w)) :
    CalX P w K mg base 5 "look_at_web" ["thing"] (spLook C) := by
  obtain ⟨tr, mRows⟩ := D.rows
  obtain ⟨tm, mRooms⟩ := D.rooms
  refine cal_ofX T sc_look_at_web (fun vs H Q E h => ?_) (fun f cdv A outer s H vs Q E hr h => ?_)
  · obtain ⟨p, v, g, rfl, _⟩ := h
    rfl
  · obtain ⟨p, v, g, rfl, hv, qy, qn⟩ := h
    refine ⟨_, (pss_cons (ps_if (PW.pt (pw_or (pt_not (pt_val (pe_callB call_isi (by rfl) B.isinstance (by decide +kernel) (pa_cons (pv 0) (pa_cons (pe_bltn (v := .ty "list") (u := .type "list") (by rfl) B.list (by decide +kernel) rfl) pa_nil))))) (pw_or1 (pt_not (pt_chain op_le op_le pe_int (pe_callB call_len_seq (by rfl) B.len PySem.boot_len (pa_cons (pv 0) pa_nil)) (pe_glob (v := .int 80) rfl mRows ⟨_, rfl⟩)))))) (pss_one (ps_raiseX rfl OW hr (takes_of rfl rfl rfl rfl) (pa_cons pe_non pa_nil))) pss_nil)
      (pss_cons (ps_for (passes_of rfl) rfl (pi_enum (by rfl) B.enumerate (pa_cons (pv 0) pa_nil)) (pg_tup (by rfl) (pgs_cons (pg_name (i := 1) sc_look_at_web.nd rfl (Or.inl rfl)) (pgs_cons (pg_name (i := 2) sc_look_at_web.nd rfl (Or.inl rfl)) pgs_nil))) (pss_one (ps_if (pt_not (pt_val (pe_own c_is_row hr (by decide) (by rfl) (pa_cons (pv 2) (pa_cons (pe_callB call_len_seq (by rfl) B.len PySem.boot_len (pa_cons (pv 0) pa_nil)) pa_nil))))) (pss_one (ps_raiseX rfl OW hr (takes_of rfl rfl rfl rfl) (pa_cons (pv 1) pa_nil))) pss_nil)))
      (pss_one (ps_if (pt_cmpR op_gt (pe_callB call_len_seq (by rfl) B.len PySem.boot_len (pa_cons (pe_own c_rooms_in hr (by decide) (by rfl) (pa_cons (pv 0) pa_nil)) pa_nil)) (pe_glob (v := .int 12) rfl mRooms ⟨_, rfl⟩) (nomark _)) (pss_one (ps_raiseX rfl OW hr (takes_of rfl rfl rfl rfl) (pa_cons pe_non pa_nil))) pss_nil)))), ?_⟩
    refine ⟨_, rfl, v, .ty "list", _, _, _, rfl, .ty "list", hv.ty, kit_list g, _, rfl, iteB (fun e => ?_) (fun e => ?_)⟩
    · refine iteT ?_
      have z : lookG g = some none := by
        cases g <;> first | rfl | cases e
      exact ⟨_, rfl, fun d hd => qn none z _ d (same_upd hd) hd upd_same⟩
    cases hv with
    | @lst a vs gs na ha t =>
      have hlen : vs.length = gs.length := t.len
      have lk : lookG (.lst gs) = if 1 ≤ gs.length ∧ gs.length ≤ 80 then (match badAt (rowG gs.length) gs with
        | some i => some (some i)
        | none => if 12 < (oneEach (allRooms (gs.map rwOf))).length then some none else none) else some none := rfl
      refine ⟨_, rfl, a, _, rfl, .inl (SqL.of ha), _, _, rfl, rfl, _, rfl, iteB (fun e1 => ?_) (fun e1 => ?_)⟩
      · refine ⟨_, _, rfl, rfl, _, rfl, ?_⟩
        have l1 := of_decide_eq_true e1
        refine iteB (fun e2 => ?_) (fun e2 => ?_)
        · have l2 : ¬ (vs.length : Int) ≤ 80 := by simpa using e2
          have z : lookG (.lst gs) = some none := by
            rw [lk, if_neg (by omega)]
          exact ⟨_, rfl, fun d hd => qn none z _ d (same_upd hd) hd upd_same⟩
        have l2 : (vs.length : Int) ≤ 80 := by simpa using e2
        rw [if_pos (by omega)] at lk
        refine ⟨_, rfl, a, _, rfl, SqL.of ha, ?_⟩
        refine for_enumS (K := K) (a := a) (xs := vs) (fun i σ H2 => ∃ y1 y2 : Option V, σ = [some (.ref a), y1, y2] ∧ Same H H2 ∧ ∀ (j : Nat) (x : G), j < i → gs[j]? = some x → rowG gs.length x = true) ?_ ?_ ?_ ?_
        · exact ⟨none, none, rfl, Same.refl H, fun j x hj => absurd hj (Nat.not_lt_zero _)⟩
        · rintro i σ H2 _ ⟨_, _, _, s2, _⟩
          exact SqL.of (s2 _ _ ha)
        · rintro i x σ H2 T hx ⟨y1, y2, rfl, s2, good⟩ nT
          obtain ⟨g1, e4, tg⟩ := t.get hx
          have sT : Same H2 (upd H2 T (.tup [.int (i : Nat), x])) := same_upd nT
          refine ⟨T, _, rfl, SqT.of upd_same, rfl, _, _, rfl, _, _, rfl, rfl, ?_⟩
          refine ⟨_, rfl, _, rfl, a, _, rfl, .inl (SqL.of (sT _ _ (s2 _ _ ha))), p, x, g1, vs.length, rfl, tg.keep (Keeps.same (s2.trans sT)), by omega, fun H3 s3 => ?_⟩
          have s03 := (s2.trans sT).trans s3
          refine ⟨_, rfl, ?_⟩
          rw [hlen]
          refine iteB (fun e5 => ?_) (fun e5 => ?_)
          · have b : rowG gs.length g1 = false := by simpa using e5
            have z : lookG (.lst gs) = some (some i) := by
              rw [lk, badAt_some good e4 b]
            exact ⟨_, rfl, _, rfl, fun d hd => qn (some i) z _ d (s03.trans (same_upd hd)) (s03.free hd) upd_same⟩
          · have b : rowG gs.length g1 = true := by simpa using e5
            refine ⟨_, _, rfl, s03, fun j y hj ey => ?_⟩
            rcases Nat.lt_succ_iff_lt_or_eq.mp hj with h | rfl
            · exact good j y h ey
            · rw [e4] at ey
              cases ey
              exact b
        · rintro σ H2 ⟨y1, y2, rfl, s2, good⟩
          rw [hlen] at good
          have all : ∀ g ∈ gs, rowG gs.length g = true := fun g hg => by
            obtain ⟨j, hj, ej⟩ := List.getElem_of_mem hg
            exact good j g hj (by rw [List.getElem?_eq_getElem hj, ej])
          obtain ⟨ra, rb⟩ := rows_at t all
          rw [badAt_none all] at lk
          refine ⟨_, rfl, a, gs.map rwOf, (List.range 100).map fun i => ((i : Nat) : Int), rfl, ⟨vs, s2 _ _ ha, ra.keep (K2.same s2)⟩, by rw [List.length_map, List.length_range]; decide, fun k hk => ?_, fun ms u H3 pw mem s3 nu hu => ?_⟩
          · have := rb k hk
            exact List.mem_map.mpr ⟨k.toNat, List.mem_range.mpr (by omega), by omega⟩
          · have lm : ms.length = (oneEach (allRooms (gs.map rwOf))).length := len_same (pw.imp fun h => Int.ne_of_lt h) (oneEach_nodup _) fun k => (mem k).trans (oneEach_mem k _).symm
            refine ⟨u, _, rfl, .inl (SqL.of hu), _, _, rfl, rfl, _, rfl, iteB (fun z => ?_) (fun z => ?_)⟩
            · have l3 := of_decide_eq_true z
              rw [List.length_map] at l3
              have zz : lookG (.lst gs) = some none := by
                rw [lk]
                exact if_pos (by omega)
              exact ⟨_, rfl, fun d hd => qn none zz _ d ((s2.trans s3).trans (same_upd hd)) ((s2.trans s3).free hd) upd_same⟩
            · have l3 := of_decide_eq_false z
              rw [List.length_map] at l3
              have zz : lookG (.lst gs) = none := by
                rw [lk]
                exact if_neg (by omega)
              exact qy zz H3 (s2.trans s3)
      · refine ⟨_, rfl, iteT ?_⟩
        have l1 := of_decide_eq_false e1
        have z : lookG (.lst gs) = some none := by
          rw [lk, if_neg (by omega)]
        exact ⟨_, rfl, fun d hd => qn none z _ d (same_upd hd) hd upd_same⟩
    | _ => cases e
end
end Su
/-! ### E1: rows from which every run ends -/
namespace Su
open PySem PySem.Spec PyProof.Rows L2
def rowT (r : Rw) : G := .tup [.tup (r.1.map G.int), .tup (r.2.map G.int)]
theorem tg_row {p : Addr} {H : Hp} {v : V} {r : Rw} (h : RowAt H v r) : Tg p H v (rowT r) := by
  obtain ⟨a, b, c, rfl, h1, h2, h3⟩ := h
  exact .tup h1 (.cons (.tup h2 (TgL.ints _)) (.cons (.tup h3 (TgL.ints _)) .nil))
theorem tg_rows {p : Addr} {H : Hp} : ∀ {vs : List V} {rs : List Rw}, RowsAt H vs rs → TgL p H vs (rs.map rowT)
  | [], [], _ => .nil
  | _ :: _, _ :: _, h => .cons (tg_row h.1) (tg_rows h.2)
  | [], _ :: _, h => h.elim
  | _ :: _, [], h => h.elim
theorem tg_web {p a : Addr} {H : Hp} {rs : List Rw} (h : WebAt H a rs) (n : a ≠ p) : Tg p H (.ref a) (.lst (rs.map rowT)) := by
  obtain ⟨ws, e, r⟩ := h
  exact .lst n e (tg_rows r)
theorem val_ints (ns : List Int) : (ns.map G.int).map valI = ns := by
  rw [List.map_map]
  exact List.map_id' ns
theorem rw_row (r : Rw) : rwOf (rowT r) = r := by
  show ((r.1.map G.int).map valI, (r.2.map G.int).map valI) = r
  rw [val_ints, val_ints]
theorem ups_all : ∀ {ns : List Int}, ns.Pairwise (· < ·) → (ups ns).all id = true
  | [], _ => rfl
  | [a], _ => rfl
  | a :: b :: l, h => by
    have h1 := List.pairwise_cons.mp h
    have ih := ups_all h1.2
    show (decide (a < b) && (ups (b :: l)).all id) = true
    rw [decide_eq_true (h1.1 b List.mem_cons_self), ih]
    rfl
theorem ris_ints {n : Int} {ns : List Int} (h : Ris 0 (n - 1) ns) : risG n (ns.map G.int) = true := by
  unfold risG
  rw [val_ints, ups_all h.pw, Bool.and_true, List.all_eq_true]
  intro b hb
  obtain ⟨g, hg, rfl⟩ := List.mem_map.mp hb
  obtain ⟨k, hk, rfl⟩ := List.mem_map.mp hg
  show (decide (0 ≤ k) && decide (k < n)) = true
  have := h.lo k hk
  have := h.hi k hk
  rw [decide_eq_true (by omega : 0 ≤ k), decide_eq_true (by omega : k < n)]
  rfl
theorem row_row {n : Nat} {r : Rw} (ok : RowOk n r) : rowG n (rowT r) = true := by
  show (((decide ((0 : Int) ≤ ((r.1.map G.int).length : Int)) && decide (((r.1.map G.int).length : Int) ≤ 6)) && risG 100 (r.1.map G.int)) && (decide (((r.2.map G.int).length : Int) ≤ (n : Int)) && risG n (r.2.map G.int))) = true
  have h1 := ok.few
  have h2 := ris_len ok.tos
  rw [ris_ints (n := 100) ok.rooms, ris_ints (n := (n : Int)) ok.tos, List.length_map, List.length_map, decide_eq_true (by omega : (0 : Int) ≤ (r.1.length : Int)), decide_eq_true (by omega : (r.1.length : Int) ≤ 6), decide_eq_true (by omega : (r.2.length : Int) ≤ (n : Int))]
  rfl
theorem rw_rows (rs : List Rw) : (rs.map rowT).map rwOf = rs := by
  rw [List.map_map]
  have e : (rwOf ∘ rowT) = id := funext fun r => rw_row r
  rw [e, List.map_id]
theorem look_web {rs : List Rw} (ok : WebOk rs) : lookG (.lst (rs.map rowT)) = none := by
  have h1 := ok.pos
  have h2 := ok.few
  obtain ⟨S, hS, hin⟩ := ok.all
  show (if 1 ≤ (rs.map rowT).length ∧ (rs.map rowT).length ≤ 80 then (match badAt (rowG ((rs.map rowT).length : Nat)) (rs.map rowT) with
    | some i => some (some i)
    | none => if 12 < (oneEach (allRooms ((rs.map rowT).map rwOf))).length then some none else none) else some none) = none
  rw [List.length_map, if_pos ⟨h1, h2⟩, badAt_none fun g hg => ?_, rw_rows]
  · show (if 12 < (oneEach (allRooms rs)).length then some none else none) = none
    rw [if_neg]
    have := nodup_few (S := S) (oneEach_nodup (allRooms rs)) fun k hk => hin k ((oneEach_mem k _).mp hk)
    omega
  · obtain ⟨r, hr, rfl⟩ := List.mem_map.mp hg
    exact row_row (ok.row r hr)
theorem in_ints (x : Int) : ∀ xs : List Int, inV (.int x) (xs.map V.int) = decide (x ∈ xs)
  | [] => rfl
  | y :: xs => by
    have ih := in_ints x xs
    unfold inV at ih ⊢
    rw [List.map_cons, List.any_cons, ih]
    show ((y == x) || decide (x ∈ xs)) = decide (x ∈ y :: xs)
    by_cases e : y = x
    · subst e
      simp
    · have e2 : ¬ x = y := fun z => e z.symm
      simp [e, e2]
/-! what a shelf's asks do, in numbers -/
theorem flat_ints : ∀ xs : List Int, (xs.map V.int).all flatV = true
  | [] => rfl
  | x :: xs => by
    show (flatV (V.int x) && (xs.map V.int).all flatV) = true
    rw [flat_ints xs]
    rfl
/-- every run from this row ends -/
inductive End (rs : List Rw) : Int → Prop
  | mk {k : Nat} {r : Rw} (e : rs[k]? = some r) (h : ∀ t ∈ r.2, End rs t) : End rs k
theorem End.range {rs : List Rw} {k : Int} (h : End rs k) : 0 ≤ k ∧ k < rs.length := by
  cases h with
  | @mk k r e _ =>
    have := (List.getElem?_eq_some_iff.mp e).1
    omega
theorem few_below {n : Nat} {l : List Int} (nd : l.Nodup) (h : ∀ k ∈ l, 0 ≤ k ∧ k < n) : l.length ≤ n := by
  have z := nodup_few (S := (List.range n).map fun i => ((i : Nat) : Int)) nd fun k hk => by
    have := h k hk
    exact List.mem_map.mpr ⟨k.toNat, List.mem_range.mpr (by omega), by omega⟩
  rwa [List.length_map, List.length_range] at z
/-- a row that may be told ended now -/
def isNew (rs : List Rw) (es : List Int) (k : Nat) : Bool := !decide ((k : Int) ∈ es) && (rs.getD k ([], [])).2.all fun t => decide (t ∈ es)
def nw (rs : List Rw) (es : List Int) (i : Nat) : List Int := ((List.range i).filter (isNew rs es)).map fun k => ((k : Nat) : Int)
theorem nw_succ (rs : List Rw) (es : List Int) (i : Nat) : nw rs es (i + 1) = nw rs es i ++ (if isNew rs es i = true then [(i : Int)] else []) := by
  unfold nw
  rw [List.range_succ, List.filter_append, List.map_append]
  congr 1
  by_cases h : isNew rs es i = true
  · rw [if_pos h, List.filter_cons_of_pos h]
    rfl
  · rw [if_neg h, List.filter_cons_of_neg h]
    rfl
theorem nw_mem {rs : List Rw} {es : List Int} {i : Nat} {x : Int} : x ∈ nw rs es i ↔ ∃ k : Nat, x = k ∧ k < i ∧ isNew rs es k = true := by
  unfold nw
  rw [List.mem_map]
  constructor
  · rintro ⟨k, hk, rfl⟩
    have z := List.mem_filter.mp hk
    exact ⟨k, rfl, List.mem_range.mp z.1, z.2⟩
  · rintro ⟨k, rfl, h1, h2⟩
    exact ⟨k, List.mem_filter.mpr ⟨List.mem_range.mpr h1, h2⟩, rfl⟩
theorem nw_nd (rs : List Rw) (es : List Int) (i : Nat) : (nw rs es i).Nodup := by
  unfold nw
  refine List.Pairwise.map _ (fun a b h => ?_) (List.Pairwise.filter _ List.nodup_range)
  intro z
  exact h (by omega)
theorem nw_out {rs : List Rw} {es : List Int} {i : Nat} {x : Int} (h : x ∈ nw rs es i) : x ∉ es := by
  obtain ⟨k, rfl, _, h2⟩ := nw_mem.mp h
  unfold isNew at h2
  rw [Bool.and_eq_true] at h2
  have z := h2.1
  simpa using z
theorem nw_end {rs : List Rw} {es : List Int} (he : ∀ k ∈ es, End rs k) {x : Int} (h : x ∈ nw rs es rs.length) : End rs x := by
  obtain ⟨k, rfl, hk, h2⟩ := nw_mem.mp h
  unfold isNew at h2
  rw [Bool.and_eq_true] at h2
  have e : rs[k]? = some rs[k] := List.getElem?_eq_getElem hk
  have g : rs.getD k ([], []) = rs[k] := by
    rw [List.getD_eq_getElem?_getD, e]
    rfl
  rw [g] at h2
  exact .mk e fun t ht => he t (of_decide_eq_true (List.all_eq_true.mp h2.2 t ht))
theorem nw_shut {rs : List Rw} {es : List Int} (h : nw rs es rs.length = []) : ∀ {k : Int}, End rs k → k ∈ es := by
  intro k hk
  induction hk with
  | @mk k r e _ ih =>
    have hl := (List.getElem?_eq_some_iff.mp e).1
    by_cases hm : (k : Int) ∈ es
    · exact hm
    · exfalso
      have z : (k : Int) ∈ nw rs es rs.length := by
        refine nw_mem.mpr ⟨k, rfl, hl, ?_⟩
        unfold isNew
        rw [decide_eq_false hm, List.getD_eq_getElem?_getD, e]
        show (true && r.2.all fun t => decide (t ∈ es)) = true
        rw [Bool.true_and, List.all_eq_true]
        exact fun t ht => decide_eq_true (ih t ht)
      rw [h] at z
      cases z
def lenAt (H : Hp) (L : Addr) : Nat := match H L with
  | some (.lst l) => l.length
  | _ => 0
def flagAt (σ : L2.St) (i : Nat) : Nat := match σ[i]? with
  | some (some (.bl true)) => 1
  | _ => 0
def spEnded : Sp := fun vs H Q _ => ∃ (p : Addr) (rs : List Rw), vs = [.ref p] ∧ WebAt H p rs ∧ WebOk rs ∧ ∀ (es : List Int) (u : Addr) (H' : Hp), (∀ k, k ∈ es ↔ End rs k) → Same H H' → H u = none → H' u = some (.lst (es.map V.int)) → Q (.ref u) H'
def spEnding (C : Addr) : Sp := fun vs H Q E => ∃ v : V, vs = [v] ∧
  ((∃ (a : Addr) (rs : List Rw), v = .ref a ∧ WebAt H a rs ∧ WebOk rs ∧ ∀ (b : Bool) (H' : Hp), (b = true ↔ End rs 0) → Same H H' → Q (.bl b) H') ∨
   ∃ (p : Addr) (g : G) (r : Option Nat), Tg p H v g ∧ lookG g = some r ∧ ∀ (H' : Hp) (d : Addr), Same H H' → H d = none → H' d = some (.xd [("row", rowV r)]) → E (.ref C) (some d) H')
theorem sc_ended_rows : FnScope ["web", "ended", "seen", "found", "news", "row", "rooms", "tos", "to"] ["web"] (defScope s_ended_rows) := ⟨rfl, rfl, rfl, by decide +kernel, rfl, by decide +kernel, by decide +kernel⟩
theorem sc_is_ending : FnScope ["web"] ["web"] (defScope s_is_ending) := ⟨rfl, rfl, rfl, by decide +kernel, rfl, by decide +kernel, by decide +kernel⟩
section
variable {P : Program} {w : World} {K : PySem.W.Frag} {mg : Str → Option Value} {base : Heap}
theorem ok_ended (T : At K mg "ended_rows" s_ended_rows ["web"]) (B : Bt mg) : Cal P w K mg base 1 "ended_rows" ["web"] spEnded := by
  refine cal_of T sc_ended_rows (fun vs H Q E h => ?_) (fun f cdv A outer s H vs Q E hr h => ?_)
  · obtain ⟨p, rs, rfl, _⟩ := h
    rfl
  · obtain ⟨p, rs, rfl, ⟨ws, hp, hrs⟩, ok, q⟩ := h
    have hwl := hrs.len
    have h80 := ok.few
    refine ⟨_, (pss_cons (ps_set (i := 1) sc_ended_rows.nd rfl (Or.inl rfl) (pe_lst pa_nil))
      (pss_cons (ps_set (i := 2) sc_ended_rows.nd rfl (Or.inr rfl) (pe_callTy0 cr_set0 (by rfl) B.set (by decide +kernel)))
      (pss_cons (ps_set (i := 3) sc_ended_rows.nd rfl (Or.inl rfl) pe_bl)
      (pss_cons (ps_while PassesOwn.never (pt_val (pv 3)) (pss_cons (ps_setLc (i := 4) (own := [("row", 5), ("rooms", 6), ("tos", 7)]) (g := (gTup K 2 (gCons (gName 5) (gCons (gTup K 2 (gCons (gName 6) (gCons (gName 7) gNil))) gNil)))) (tt := (tAnd (tTest (tOp (rSNotIn w) (tVar 5) (tVar 2))) (tB (tCB (rAll K) (tCons (tLc (iTup K (tVar 7)) (gName 8) tYes (tOp (rSIn w) (tVar 8) (tVar 2)) [8]) tNil))))) (te := (tVar 5)) (by rfl) sc_ended_rows.nd rfl rfl (sw_true rfl rfl rfl (by decide +kernel)) (pi_enum (by rfl) B.enumerate (pa_cons (pv 0) pa_nil)) (blkOk_by (own := [("row", 5), ("rooms", 6), ("tos", 7)]) (N := ["web", "ended", "seen", "found", "news", "row", "rooms", "tos", "to"]) (sc := defScope s_ended_rows) (by decide +kernel)) (fun _ _ _ _ _ => (pg_tup (by rfl) (pgs_cons (pg_name (i := 5) sc_ended_rows.nd rfl (Or.inl rfl)) (pgs_cons (pg_tup (by rfl) (pgs_cons (pg_name (i := 6) sc_ended_rows.nd rfl (Or.inl rfl)) (pgs_cons (pg_name (i := 7) sc_ended_rows.nd rfl (Or.inl rfl)) pgs_nil))) pgs_nil)))) (fun _ _ _ _ _ => pts_one (PW.pt (pw_and (pt_cmpR or_snotin (pv 5) (pv 2) (by rfl)) (pw_and1 (pt_val (pe_callB (cr_all rfl) (by rfl) B.all (by decide +kernel) (pa_cons (pe_lc (own := [("to", 8)]) (g := (gName 8)) (tt := tYes) (te := (tOp (rSIn w) (tVar 8) (tVar 2))) (by rfl) sc_ended_rows.nd (pi_tup (pv 7)) (blkOk_in (own := [("to", 8)]) (N := ["web", "ended", "seen", "found", "news", "row", "rooms", "tos", "to"]) ["seen"] (by decide +kernel) (List.forall_mem_cons.mpr ⟨Or.inl rfl, (List.forall_mem_nil _)⟩)) (fun _ _ _ _ _ => (pg_name (i := 8) sc_ended_rows.nd rfl (Or.inl rfl))) (fun _ _ _ _ _ => pts_nil) (fun _ _ _ _ _ => (pe_cmpR or_sin (pv 8) (pv 2) (by rfl)))) pa_nil))))))) (fun _ _ _ _ _ => (pv 5)))
      (pss_cons (ps_for PassesOwn.never rfl (pi_list (pv 4)) (pg_name (i := 5) sc_ended_rows.nd rfl (Or.inl rfl)) (pss_one (ps_expr (pe_sadd (pv 2) (pa_cons (pv 5) pa_nil)))))
      (pss_cons (ps_expr (pe_bm PySem.F.plainAttrs_list PySem.F.slot_list_extend PySem.F.type_list_extend mt_extend (pv 1) (pa_cons (pv 4) pa_nil)))
      (pss_one (ps_set (i := 3) sc_ended_rows.nd rfl (Or.inl rfl) (pe_cmpR op_gt (pe_callB call_len_seq (by rfl) B.len PySem.boot_len (pa_cons (pv 4) pa_nil)) pe_int (nomark _))))))))
      (pss_one (ps_ret (pv 1))))))), ?_⟩
    refine ⟨(by show 0 ≤ sizeLine; decide), fun L nL => ?_⟩
    have sL : Same H (upd H L (.lst [])) := same_upd nL
    refine ⟨rfl, fun D nD => ?_⟩
    have eLD : L ≠ D := ne_of_none (H := upd H L (.lst [])) upd_same nD
    have nD0 : H D = none := sL.free nD
    have nLD : ∀ {c : Addr} {o : HO}, H c = some o → c ≠ L ∧ c ≠ D := fun ec => ⟨ne_of_none ec nL, ne_of_none ec nD0⟩
    refine while_by (fun σ H3 => ∃ (b : Bool) (es : List Int) (y4 y5 y6 y7 y8 : Option V), σ = [some (.ref p), some (.ref L), some (.ref D), some (.bl b), y4, y5, y6, y7, y8] ∧ es.Nodup ∧ (∀ k ∈ es, End rs k) ∧ (b = false → ∀ k, End rs k → k ∈ es) ∧ H3 L = some (.lst (es.map V.int)) ∧ SetIs w H3 D es ∧ Same H H3)
      (fun σ H3 => 2 * (rs.length - lenAt H3 L) + flagAt σ 3) ?_ ?_ ?_
    · refine ⟨true, [], none, none, none, none, none, rfl, List.nodup_nil, (fun k hk => by cases hk), (fun z => by cases z), ?_, ⟨_, 0, [], upd_same, List.nodup_nil, rfl, fun k => by simp, fun k => Iff.rfl⟩, sL.trans (same_upd nD)⟩
      rw [upd_ne eLD, upd_same]
      rfl
    · rintro σ H3 ⟨b, es, y4, y5, y6, y7, y8, rfl, nd, hend, hshut, hL, hD, s3⟩
      have hel : es.length ≤ rs.length := few_below nd fun k hk => (hend k hk).range
      refine ⟨_, rfl, b, rfl, iteB (fun z => ?_) (fun z => ?_)⟩
      rotate_left
      · exact ⟨_, rfl, q es L H3 (fun k => ⟨hend k, hshut z k⟩) s3 nL hL⟩
      subst z
      have hp3 := s3 _ _ hp
      obtain ⟨S, n2, d, eD, ndd, hn2, hS, hd⟩ := id hD
      have hSe : ∀ t, S t = decide (t ∈ es) := by
        intro t
        by_cases h : t ∈ es
        · rw [decide_eq_true h]
          exact (hS t).mpr ((hd t).mpr h)
        · rw [decide_eq_false h]
          cases z : S t with
          | false => rfl
          | true => exact absurd ((hd t).mp ((hS t).mp z)) h
      refine ⟨_, rfl, p, ws, rfl, SqL.of hp3, fun N nN => ?_⟩
      have nN0 : H N = none := s3.free nN
      have eNL : L ≠ N := ne_of_none hL nN
      have eND : D ≠ N := ne_of_none eD nN
      refine lc_enumS (K := K) (a := p) (xs := ws) (fun i H4 => H4 N = some (.lst ((nw rs es i).map V.int)) ∧ Same H3 H4) ?_ ?_ ?_ ?_
      · exact ⟨upd_same, same_upd nN⟩
      · rintro i H4 _ ⟨_, s4⟩
        exact SqL.of (s4 _ _ hp3)
      · rintro i x H4 T hx ⟨hN, s4⟩ nT
        obtain ⟨r, er, ra, rb, rc, rfl, ha, hb, hc⟩ := hrs.get hx
        have hil : i < rs.length := (List.getElem?_eq_some_iff.mp er).1
        have sT : Same H4 (upd H4 T (.tup [.int (i : Nat), V.ref ra])) := same_upd nT
        have s05 := (s3.trans s4).trans sT
        have hN5 := sT _ _ hN
        have eD5 := sT _ _ (s4 _ _ eD)
        have gr : isNew rs es i = (!decide ((i : Int) ∈ es) && r.2.all fun t => decide (t ∈ es)) := by
          unfold isNew
          rw [List.getD_eq_getElem?_getD, er]
          rfl
        have no : ∀ {H6 : Hp}, Same H4 H6 → isNew rs es i = false → H6 N = some (.lst ((nw rs es (i + 1)).map V.int)) ∧ Same H3 H6 := fun s6 e => by
          rw [nw_succ, e, if_neg Bool.false_ne_true, List.append_nil]
          exact ⟨s6 _ _ hN, s4.trans s6⟩
        refine ⟨T, _, rfl, SqT.of upd_same, rfl, _, _, rfl, _, _, rfl, ra, _, rfl, (ha.same s05).sq, rfl, _, _, rfl, _, _, rfl, rfl, rfl, rfl, ?_⟩
        generalize upd H4 T (.tup [.int (i : Nat), V.ref ra]) = H5 at *
        refine ⟨_, rfl, _, rfl, (i : Int), D, S, n2, rfl, rfl, eD5, _, rfl, iteB (fun z => ?_) (fun z => ?_)⟩
        rotate_left
        · refine iteF (no sT ?_)
          rw [gr, ← hSe, z, Bool.false_and]
        refine ⟨_, rfl, rc, rfl, ⟨_, (hc.same s05).sq⟩, fun D2 nD2 => ?_⟩
        refine lc_tup (K := K) (a := rc) (xs := r.2.map V.int) (fun j H6 => H6 D2 = some (.lst (((r.2.take j).map fun t => decide (t ∈ es)).map V.bl)) ∧ Same H5 H6) ?_ ?_ ?_ ?_
        · exact ⟨upd_same, same_upd nD2⟩
        · rintro j H6 _ ⟨_, s6⟩
          exact (hc.same (s05.trans s6)).sq
        · rintro j y H6 hy ⟨hD6, s6⟩
          rw [List.getElem?_map] at hy
          obtain ⟨t, et, rfl⟩ := Option.map_eq_some_iff.mp hy
          have hl2 := ris_len (ok.row r (List.mem_of_getElem? er)).tos
          have hjl : j < r.2.length := (List.getElem?_eq_some_iff.mp et).1
          refine ⟨rfl, tyes ?_⟩
          refine ⟨_, rfl, _, rfl, t, D, S, n2, rfl, rfl, s6 _ _ eD5, ?_⟩
          rw [hSe]
          refine ⟨_, hD6, ?_, ?_, fun c o ec => ?_⟩
          · rw [List.length_map, List.length_map, List.length_take]
            exact small1000 (by omega)
          · rw [upd_same, List.take_add_one, et, List.map_append, List.map_append]
            rfl
          · rw [upd_ne (ne_of_none ec nD2)]
            exact s6 _ _ ec
        · rintro H6 ⟨hD6, s6⟩
          rw [List.length_map, List.take_length] at hD6
          have al : ((r.2.map fun t => decide (t ∈ es)).all id) = r.2.all fun t => decide (t ∈ es) := by
            rw [List.all_map]
            rfl
          refine ⟨D2, _, rfl, SqL.of hD6, _, rfl, iteB (fun z2 => ?_) (fun z2 => ?_)⟩
          · have yes : isNew rs es i = true := by
              rw [gr, ← hSe, z, ← al, z2]
              rfl
            refine ⟨_, rfl, _, s6 _ _ hN5, ?_, ?_, fun c o ec => ?_⟩
            · rw [List.length_map]
              have z9 := few_below (n := rs.length) (nw_nd rs es i) fun k hk => by
                obtain ⟨m, rfl, hm, _⟩ := nw_mem.mp hk
                omega
              exact small1000 (by omega)
            · rw [upd_same, nw_succ, yes, if_pos rfl, List.map_append]
              rfl
            · rw [upd_ne (ne_of_none ec nN)]
              exact s6 _ _ (sT _ _ (s4 _ _ ec))
          · refine no (sT.trans s6) ?_
            rw [gr, ← al, z2, Bool.and_false]
      · rintro H4 ⟨hN, s4⟩
        rw [hwl] at hN
        have nwl := few_below (n := rs.length) (nw_nd rs es rs.length) fun k hk => by
          obtain ⟨m, rfl, hm, _⟩ := nw_mem.mp hk
          omega
        have nd2 : (es ++ nw rs es rs.length).Nodup := by
          rw [List.nodup_append]
          exact ⟨nd, nw_nd _ _ _, fun a ha b hb e => nw_out hb (e ▸ ha)⟩
        have hend2 : ∀ k ∈ es ++ nw rs es rs.length, End rs k := fun k hk => (List.mem_append.mp hk).elim (hend k) (nw_end hend)
        have hel2 := few_below nd2 fun k hk => (hend2 k hk).range
        rw [List.length_append] at hel2
        have shut : nw rs es rs.length = [] → ∀ k, End rs k → k ∈ es := fun e k => nw_shut e
        generalize nw rs es rs.length = ns at *
        refine ⟨_, rfl, N, rfl, ⟨_, SqL.of hN⟩, ?_⟩
        refine for_list (K := K) (a := N) (xs := ns.map V.int) (fun j σ H5 => ∃ (y5 y6 y7 y8 : Option V), σ = [some (.ref p), some (.ref L), some (.ref D), some (.bl true), some (.ref N), y5, y6, y7, y8] ∧ SetIs w H5 D (es ++ ns.take j) ∧ H5 L = some (.lst (es.map V.int)) ∧ H5 N = some (.lst (ns.map V.int)) ∧ Same H H5) ?_ ?_ ?_ ?_
        · refine ⟨_, _, _, _, rfl, ?_, s4 _ _ hL, hN, s3.trans s4⟩
          rw [List.take_zero, List.append_nil]
          exact ⟨S, n2, d, s4 _ _ eD, ndd, hn2, hS, hd⟩
        · rintro j σ H5 _ ⟨_, _, _, _, _, _, _, h, _⟩
          exact SqL.of h
        · rintro j y σ H5 hy ⟨y5, y6, y7, y8, rfl, hD5, hL5, hN5, s5⟩
          rw [List.getElem?_map] at hy
          obtain ⟨t, et, rfl⟩ := Option.map_eq_some_iff.mp hy
          obtain ⟨S', n', eD', few, nx⟩ := hD5.add (A := es ++ ns) (by rw [List.length_append]; omega) (fun k hk => by
            rcases List.mem_append.mp hk with h | h
            · exact List.mem_append_left _ h
            · exact List.mem_append_right _ (List.mem_of_mem_take h)) t
          refine ⟨_, rfl, ⟨D, S', n', rfl, eD'⟩, _, rfl, D, t, S', n', rfl, rfl, eD', few, ?_⟩
          refine ⟨_, _, _, _, rfl, ?_, ?_, ?_, fun c o ec => ?_⟩
          · rw [List.take_add_one, et, ← List.append_assoc]
            exact nx _ upd_same
          · rw [upd_ne eLD]
            exact hL5
          · rw [upd_ne eND.symm]
            exact hN5
          · rw [upd_ne (nLD ec).2]
            exact s5 _ _ ec
        · rintro σ H5 ⟨y5, y6, y7, y8, rfl, hD5, hL5, hN5, s5⟩
          rw [List.length_map, List.take_length] at hD5
          refine ⟨_, rfl, .inl ⟨rfl, _, SqL.of hL5⟩, _, rfl, L, N, _, _, rfl, rfl, hL5, hN5, ?_, ?_⟩
          · rw [List.length_map, List.length_map]
            exact Nat.le_of_lt (small1000 (by omega))
          have hN6 : (upd H5 L (.lst (es.map V.int ++ ns.map V.int))) N = some (.lst (ns.map V.int)) := by
            rw [upd_ne eNL.symm]
            exact hN5
          refine ⟨_, rfl, N, _, rfl, .inl (SqL.of hN6), _, _, rfl, rfl, ?_⟩
          refine ⟨⟨_, es ++ ns, _, _, _, _, _, rfl, nd2, hend2, fun z k hk => ?_, ?_, ?_, fun c o ec => ?_⟩, ?_⟩
          · have z0 := of_decide_eq_false z
            rw [List.length_map] at z0
            have e : ns = [] := by
              cases ns with
              | nil => rfl
              | cons a l =>
                rw [List.length_cons] at z0
                omega
            exact List.mem_append_left _ (shut e k hk)
          · rw [upd_same, List.map_append]
          · obtain ⟨S1, n1, d1, e1, r1⟩ := hD5
            exact ⟨S1, n1, d1, by rw [upd_ne eLD.symm]; exact e1, r1⟩
          · rw [upd_ne (nLD ec).1]
            exact s5 _ _ ec
          · have f2 : ∀ b : Bool, flagAt [some (V.ref p), some (V.ref L), some (V.ref D), some (V.bl b), some (V.ref N), y5, y6, y7, y8] 3 = (if b = true then 1 else 0) := by
              intro b
              cases b <;> rfl
            show 2 * (rs.length - lenAt (upd H5 L (.lst (es.map V.int ++ ns.map V.int))) L) + flagAt [some (V.ref p), some (V.ref L), some (V.ref D), some (V.bl (decide ((0 : Int) < ((ns.map V.int).length : Int)))), some (V.ref N), y5, y6, y7, y8] 3 < 2 * (rs.length - lenAt H3 L) + 1
            rw [f2]
            have e1 : lenAt H3 L = es.length := by
              unfold lenAt
              rw [hL]
              exact List.length_map _
            have e2 : lenAt (upd H5 L (.lst (es.map V.int ++ ns.map V.int))) L = es.length + ns.length := by
              unfold lenAt
              rw [upd_same]
              show (es.map V.int ++ ns.map V.int).length = _
              rw [List.length_append, List.length_map, List.length_map]
            rw [e1, e2]
            by_cases hz : (0 : Int) < ((ns.map V.int).length : Int)
            · rw [if_pos (decide_eq_true hz)]
              rw [List.length_map] at hz
              omega
            · rw [if_neg (by rw [decide_eq_false hz]; exact Bool.false_ne_true)]
              omega
    · rintro σ H Q Q' hq ⟨x, e, c, ec, z⟩
      exact ⟨x, e, c, ec, hq _ _ z⟩
theorem ok_ending {C : Addr} (T : At K mg "is_ending" s_is_ending ["web"]) (c_look_at_web : CalX P w K mg base 5 "look_at_web" ["thing"] (spLook C)) (c_ended_rows : Cal P w K mg base 1 "ended_rows" ["web"] spEnded) :
    CalX P w K mg base 6 "is_ending" ["web"] (spEnding C) := by
  refine cal_ofX T sc_is_ending (fun vs H Q E h => ?_) (fun f cdv A outer s H vs Q E hr h => ?_)
  · obtain ⟨v, rfl, _⟩ := h
    rfl
  · obtain ⟨v, rfl, h⟩ := h
    refine ⟨_, (pss_cons (ps_expr (pe_ownX (takes_of rfl rfl rfl rfl) c_look_at_web hr (by decide) (by rfl) (pa_cons (pv 0) pa_nil)))
      (pss_one (ps_ret (pe_cmpR op_in_seq pe_int (pe_own c_ended_rows hr (by decide) (by rfl) (pa_cons (pv 0) pa_nil)) (by rfl))))), ?_⟩
    rcases h with ⟨a, rs, rfl, hA, okA, q⟩ | ⟨p, g, r, tg, lk, qn⟩
    · refine ⟨_, rfl, a + 1, .ref a, _, rfl, tg_web hA (Nat.ne_of_lt (Nat.lt_succ_self a)), fun _ H1 s1 => ?_, fun r' e => ?_⟩
      · refine ⟨_, rfl, a, rs, rfl, hA.same s1, okA, fun es u H2 mem s2 nu hu => ?_⟩
        refine ⟨u, _, rfl, .inl (SqL.of hu), rfl, flat_ints es, ?_⟩
        rw [show (if false = true then !inV (V.int 0) (es.map V.int) else inV (V.int 0) (es.map V.int)) = decide ((0 : Int) ∈ es) from in_ints 0 es]
        exact q _ H2 (by rw [decide_eq_true_eq]; exact mem 0) (s1.trans s2)
      · rw [look_web okA] at e
        cases e
    · refine ⟨_, rfl, p, v, g, rfl, tg, fun e => ?_, fun r' e H' d s1 nd hd => ?_⟩
      · rw [lk] at e
        cases e
      · rw [lk] at e
        cases e
        exact qn H' d s1 nd hd
end
end Su
/-! ### E2: the law's own going through the rows -/
namespace Su
open PySem PySem.Spec PyProof.Rows L2
/-- to which rows one comes from F -/
inductive Rch (rs : List Rw) (F : List Int) : Int → Prop
  | base {k : Int} (h : k ∈ F) : Rch rs F k
  | step {k : Nat} {r : Rw} {t : Int} (h : Rch rs F k) (e : rs[k]? = some r) (m : t ∈ r.2) : Rch rs F t
theorem Rch.from {rs : List Rw} {F : List Int} {k : Int} (h : Rch rs F k) : ∃ f ∈ F, Rch rs [f] k := by
  induction h with
  | base h => exact ⟨_, h, .base (List.mem_singleton.mpr rfl)⟩
  | step h e m ih =>
    obtain ⟨f, hf, z⟩ := ih
    exact ⟨f, hf, .step z e m⟩
theorem Rch.mono {rs : List Rw} {F G : List Int} (hs : ∀ k ∈ F, Rch rs G k) {k : Int} (h : Rch rs F k) : Rch rs G k := by
  induction h with
  | base h => exact hs _ h
  | step h e m ih => exact .step ih e m
theorem Rch.one {rs : List Rw} {j : Nat} {r : Rw} (e : rs[j]? = some r) {k : Int} (h : Rch rs [(j : Int)] k) : k = j ∨ Rch rs r.2 k := by
  induction h with
  | base h => exact .inl (List.mem_singleton.mp h)
  | @step k' r' t h e' m ih =>
    rcases ih with z | z
    · have : k' = j := by omega
      subst this
      rw [e] at e'
      cases e'
      exact .inr (.base m)
    · exact .inr (.step z e' m)
theorem End.all {rs : List Rw} {F : List Int} (hF : ∀ k ∈ F, End rs k) {k : Int} (h : Rch rs F k) : End rs k := by
  induction h with
  | base h => exact hF _ h
  | @step k' r t h e m ih =>
    cases ih with
    | @mk k2 r2 e2 h2 =>
      rw [e] at e2
      cases e2
      exact h2 t m
theorem End.round {rs : List Rw} {k : Int} (h : End rs k) : ∀ (j : Nat) (r : Rw), k = j → rs[j]? = some r → ¬ Rch rs r.2 k := by
  induction h with
  | @mk k r e h ih =>
    intro j r' ej e' hr
    have : k = j := by omega
    subst this
    rw [e] at e'
    cases e'
    obtain ⟨t, ht, z⟩ := hr.from
    have hEt := h t ht
    obtain ⟨t0, t1⟩ := hEt.range
    obtain ⟨i, rfl⟩ : ∃ i : Nat, t = (i : Int) := ⟨t.toNat, by omega⟩
    have ei : rs[i]? = some rs[i] := List.getElem?_eq_getElem (by omega)
    have no := ih _ ht i rs[i] rfl ei
    rcases Rch.one ei z with y | y
    · have : k = i := by omega
      subst this
      rw [e] at ei
      injection ei with ei
      exact no (by rw [← ei]; exact .base ht)
    · exact no (.step y e ht)
theorem End.of {rs : List Rw} (ok : WebOk rs) (ac : ∀ (k : Nat) (r : Rw), Rch rs [0] k → rs[k]? = some r → ¬ Rch rs r.2 k) : ∀ (m : Nat) (l : List Int) (k : Nat) (r : Rw), l.length ≤ m → rs[k]? = some r → Rch rs [0] k → (∀ x, Rch rs r.2 x → x ∈ l) → End rs k
  | m, l, k, r, hl, e, hk, hx => by
    refine .mk e fun t ht => ?_
    have rok := ok.row r (List.mem_of_getElem? e)
    have t0 := rok.tos.lo t ht
    have t1 := rok.tos.hi t ht
    obtain ⟨i, rfl⟩ : ∃ i : Nat, t = (i : Int) := ⟨t.toNat, by omega⟩
    have ei : rs[i]? = some rs[i] := List.getElem?_eq_getElem (by omega)
    have hti : (i : Int) ∈ l := hx _ (.base ht)
    have hri : Rch rs [0] (i : Int) := .step hk e ht
    have hle := List.length_erase_of_mem hti
    have hpos := List.length_pos_of_mem hti
    match m, hl with
    | 0, hl => omega
    | m + 1, hl =>
      refine End.of ok ac m (l.erase (i : Int)) i rs[i] (by omega) ei hri fun x hx2 => ?_
      have ne : x ≠ (i : Int) := by
        intro z
        rw [z] at hx2
        exact ac i _ hri ei hx2
      refine (List.mem_erase_of_ne ne).mpr (hx x ?_)
      exact Rch.mono (fun y hy => .step (.base ht) ei hy) hx2
theorem Rch.range {rs : List Rw} (ok : WebOk rs) {F : List Int} (hF : ∀ k ∈ F, 0 ≤ k ∧ k < rs.length) {k : Int} (h : Rch rs F k) : 0 ≤ k ∧ k < rs.length := by
  cases h with
  | base h => exact hF _ h
  | step h e m =>
    have rok := ok.row _ (List.mem_of_getElem? e)
    have a := rok.tos.lo _ m
    have b := rok.tos.hi _ m
    omega
def Goes (rs : List Rw) (l m : List Int) : Prop := ∀ (k : Nat) (r : Rw) (t : Int), (k : Int) ∈ l → rs[k]? = some r → t ∈ r.2 → t ∈ m
theorem Goes.all {rs : List Rw} {F l : List Int} (h0 : ∀ k ∈ F, k ∈ l) (h : Goes rs l l) : ∀ {k : Int}, Rch rs F k → k ∈ l := by
  intro k hk
  induction hk with
  | base h => exact h0 _ h
  | step _ e m ih => exact h _ _ _ ih e m
def numAt (σ : L2.St) (i : Nat) : Nat := match σ[i]? with
  | some (some (.int n)) => n.toNat
  | _ => 0
def spCome (K : PySem.W.Frag) : Sp := fun vs H Q _ => ∃ (a b : Addr) (rs : List Rw) (F : List Int), vs = [.ref a, .ref b] ∧ WebAt H a rs ∧ WebOk rs ∧ (SqL K H b (F.map V.int) ∨ SqT K H b (F.map V.int)) ∧ F.Nodup ∧ (∀ k ∈ F, 0 ≤ k ∧ k < rs.length) ∧
  ∀ (ls : List Int) (u : Addr) (H' : Hp), (∀ k, k ∈ ls ↔ Rch rs F k) → Same H H' → H' u = some (.lst (ls.map V.int)) → Q (.ref u) H'
def spDueE : Sp := fun vs H Q _ => ∃ (a : Addr) (rs : List Rw), vs = [.ref a] ∧ WebAt H a rs ∧ WebOk rs ∧ ∀ (b : Bool) (H' : Hp), (b = true ↔ End rs 0) → Same H H' → Q (.bl b) H'
theorem WebAt.get {H : Hp} {a : Addr} {rs : List Rw} (h : WebAt H a rs) {i : Nat} {r : Rw} (e : rs[i]? = some r) : ∃ ws x b c, H a = some (.lst ws) ∧ ws[i]? = some (.ref x) ∧ T2 H x [.ref b, .ref c] ∧ T2 H b (r.1.map V.int) ∧ T2 H c (r.2.map V.int) := by
  obtain ⟨ws, hw, hr⟩ := h
  have hi : i < ws.length := by
    rw [hr.len]
    exact (List.getElem?_eq_some_iff.mp e).1
  obtain ⟨r', er, x, b, c, ex, h1, h2, h3⟩ := hr.get (List.getElem?_eq_getElem hi)
  rw [e] at er
  cases er
  exact ⟨ws, x, b, c, hw, by rw [List.getElem?_eq_getElem hi, ex], h1, h2, h3⟩
theorem sc_law_come_to : FnScope ["_law_web", "_law_first", "_law_found", "_law_at", "_law_to"] ["_law_web", "_law_first"] (defScope s_law_come_to) := ⟨rfl, rfl, rfl, by decide +kernel, rfl, by decide +kernel, by decide +kernel⟩
theorem sc_law_due : FnScope ["_law_web", "_law_row"] ["_law_web"] (defScope s_law_due) := ⟨rfl, rfl, rfl, by decide +kernel, rfl, by decide +kernel, by decide +kernel⟩
section
variable {P : Program} {w : World} {K : PySem.W.Frag} {mg : Str → Option Value} {base : Heap}
theorem ok_come (T : At K mg "_law_come_to" s_law_come_to ["_law_web", "_law_first"]) (B : Bt mg) : Cal P w K mg base 1 "_law_come_to" ["_law_web", "_law_first"] (spCome K) := by
  refine cal_of T sc_law_come_to (fun vs H Q E h => ?_) (fun f cdv A outer s H vs Q E hr h => ?_)
  · obtain ⟨a, b, rs, F, rfl, _⟩ := h
    rfl
  · obtain ⟨a, b, rs, F, rfl, hA, ok, hb, ndF, hF, q⟩ := h
    refine ⟨_, (pss_cons (ps_set (i := 2) sc_law_come_to.nd rfl (Or.inr rfl) (pe_callTy call_list_of (by rfl) B.list (by decide +kernel) (pa_cons (pv 1) pa_nil)))
      (pss_cons (ps_set (i := 3) sc_law_come_to.nd rfl (Or.inl rfl) pe_int)
      (pss_cons (ps_while PassesOwn.never (pt_cmpR op_lt (pv 3) (pe_callB call_len_seq (by rfl) B.len PySem.boot_len (pa_cons (pv 2) pa_nil)) (nomark _)) (pss_cons (ps_set (i := 2) sc_law_come_to.nd rfl (Or.inr rfl) (pe_op op_cat (pv 2) (pe_lc (own := [("_law_to", 4)]) (g := (gName 4)) (tt := (tTest (tOp (rIn K true) (tVar 4) (tVar 2)))) (te := (tVar 4)) (by rfl) sc_law_come_to.nd (pi_tup (pe_ix ix_tup (pe_ix ix_list (pv 0) (pe_ix ix_list (pv 2) (pv 3) (fun _ _ => rfl)) (fun _ _ => rfl)) pe_int (fun _ _ => rfl))) (blkOk_by (own := [("_law_to", 4)]) (N := ["_law_web", "_law_first", "_law_found", "_law_at", "_law_to"]) (sc := defScope s_law_come_to) (by decide +kernel)) (fun _ _ _ _ _ => (pg_name (i := 4) sc_law_come_to.nd rfl (Or.inl rfl))) (fun _ _ _ _ _ => pts_one (pt_cmpR op_notIn_seq (pv 4) (pv 2) (by rfl))) (fun _ _ _ _ _ => (pv 4)))))
      (pss_one (ps_set (i := 3) sc_law_come_to.nd rfl (Or.inl rfl) (pe_op op_add (pv 3) pe_int)))))
      (pss_one (ps_ret (pv 2)))))), ?_⟩
    refine ⟨_, rfl, b, _, rfl, hb, fun L nL => ?_⟩
    have sL : Same H (upd H L (.lst (F.map V.int))) := same_upd nL
    have h80 := ok.few
    refine while_by (fun σ H3 => ∃ (n : Nat) (L : Addr) (l : List Int) (y4 : Option V), σ = [some (.ref a), some (.ref b), some (.ref L), some (.int n), y4] ∧ n ≤ l.length ∧ l.Nodup ∧ (∀ k ∈ l, Rch rs F k) ∧ (∀ k ∈ F, k ∈ l) ∧ Goes rs (l.take n) l ∧ H3 L = some (.lst (l.map V.int)) ∧ Same H H3)
      (fun σ _ => rs.length - numAt σ 3) ?_ ?_ ?_
    · exact ⟨0, L, F, none, rfl, Nat.zero_le _, ndF, fun k hk => .base hk, fun k hk => hk, fun k r t hk => (List.not_mem_nil hk).elim, upd_same, sL⟩
    · rintro σ H3 ⟨n, L, l, y4, rfl, hn, nd, hmet, h0, hgo, hL, s3⟩
      have hlr : l.length ≤ rs.length := few_below nd fun k hk => (hmet k hk).range ok hF
      refine ⟨_, rfl, _, rfl, L, _, rfl, .inl (SqL.of hL), _, _, rfl, rfl, _, rfl, iteB (fun z => ?_) (fun z => ?_)⟩
      · have lt : n < l.length := by
          have z2 := of_decide_eq_true z
          rw [List.length_map] at z2
          omega
        have hx : l[n]? = some l[n] := List.getElem?_eq_getElem lt
        have hr1 := (hmet l[n] (List.getElem_mem lt)).range ok hF
        obtain ⟨k, hk⟩ : ∃ k : Nat, l[n] = (k : Int) := ⟨l[n].toNat, by omega⟩
        have hmk : Rch rs F (k : Int) := by
          rw [← hk]
          exact hmet _ (List.getElem_mem lt)
        have er : rs[k]? = some rs[k] := List.getElem?_eq_getElem (by omega)
        generalize rs[k] = r at er
        obtain ⟨ws, x, rb, rc, hws, hwx, t1, t2, t3⟩ := (hA.same s3).get er
        have rok := ok.row r (List.mem_of_getElem? er)
        have hl2 := ris_len rok.tos
        have hix : atI (l.map V.int) ((n : Nat) : Int) = some (V.int (k : Int)) := atI_nat (by rw [List.getElem?_map, hx, hk]; rfl)
        refine ⟨_, rfl, _, rfl, _, rfl, _, rfl, L, _, _, _, rfl, rfl, SqL.of hL, hix, a, _, _, _, rfl, rfl, SqL.of hws, atI_nat hwx, x, _, _, _, rfl, rfl, t1.sq, atI_nat (j := 1) rfl, rc, rfl, ⟨_, t3.sq⟩, fun D nD => ?_⟩
        refine lc_tup (K := K) (a := rc) (xs := r.2.map V.int) (fun i H4 => H4 D = some (.lst (((r.2.take i).filter fun t => !decide (t ∈ l)).map V.int)) ∧ Same H3 H4) ?_ ?_ ?_ ?_
        · exact ⟨upd_same, same_upd nD⟩
        · rintro i H4 _ ⟨_, s4⟩
          exact (t3.same s4).sq
        · rintro i y H4 hy ⟨hD, s4⟩
          rw [List.getElem?_map] at hy
          obtain ⟨t, et, rfl⟩ := Option.map_eq_some_iff.mp hy
          refine ⟨rfl, _, rfl, _, rfl, L, _, rfl, .inl (SqL.of (s4 _ _ hL)), rfl, flat_ints l, ?_⟩
          rw [show (if true = true then !inV (V.int t) (l.map V.int) else inV (V.int t) (l.map V.int)) = !decide (t ∈ l) from congrArg Bool.not (in_ints t l)]
          have et2 : r.2.take (i + 1) = r.2.take i ++ [t] := by
            rw [List.take_add_one, et]
            rfl
          refine ⟨_, rfl, iteB (fun z2 => ?_) (fun z2 => ?_)⟩
          · refine ⟨_, rfl, _, hD, ?_, ?_, fun c o ec => ?_⟩
            · rw [List.length_map]
              have z3 := List.length_filter_le (fun t => !decide (t ∈ l)) (r.2.take i)
              rw [List.length_take] at z3
              exact small1000 (by omega)
            · rw [upd_same, et2, List.filter_append, List.filter_cons_of_pos (p := fun t => !decide (t ∈ l)) z2, List.filter_nil, List.map_append]
              rfl
            · rw [upd_ne (ne_of_none ec nD)]
              exact s4 _ _ ec
          · refine ⟨?_, s4⟩
            rw [et2, List.filter_append, List.filter_cons_of_neg (by rw [z2]; decide), List.filter_nil, List.append_nil]
            exact hD
        · rintro H4 ⟨hD, s4⟩
          rw [List.length_map, List.take_length] at hD
          have ndr : r.2.Nodup := rok.tos.pw.imp fun h => Int.ne_of_lt h
          have ndn : (l ++ r.2.filter fun t => !decide (t ∈ l)).Nodup := by
            rw [List.nodup_append]
            refine ⟨nd, ndr.filter _, fun x hx y hy e => ?_⟩
            have z4 := (List.mem_filter.mp hy).2
            rw [← e, decide_eq_true hx] at z4
            cases z4
          have metn : ∀ x ∈ l ++ r.2.filter fun t => !decide (t ∈ l), Rch rs F x := fun x hx => by
            rcases List.mem_append.mp hx with z | z
            · exact hmet x z
            · exact .step hmk er (List.mem_filter.mp z).1
          have hln := few_below ndn fun x hx => (metn x hx).range ok hF
          have hln2 := hln
          rw [List.length_append] at hln2
          refine ⟨_, _, _, _, rfl, rfl, s4 _ _ hL, hD, ?_, fun L2 nL2 => ?_⟩
          · rw [List.length_map, List.length_map]
            exact Nat.le_of_lt (small1000 (by omega))
          have sL2 := same_upd (o := .lst (l.map V.int ++ (r.2.filter fun t => !decide (t ∈ l)).map V.int)) nL2
          refine ⟨_, rfl, _, _, rfl, rfl, ?_⟩
          refine ⟨⟨n + 1, L2, l ++ r.2.filter fun t => !decide (t ∈ l), _, rfl, ?_, ndn, metn, fun x hx => List.mem_append_left _ (h0 x hx), ?_, ?_, (s3.trans s4).trans sL2⟩, ?_⟩
          · rw [List.length_append]
            omega
          · have et : (l ++ r.2.filter fun t => !decide (t ∈ l)).take (n + 1) = l.take n ++ [(k : Int)] := by
              rw [List.take_append_of_le_length lt, List.take_add_one, hx, hk]
              rfl
            intro k2 r2 t2 h1 h2 h3
            rw [et] at h1
            rcases List.mem_append.mp h1 with h | h
            · exact List.mem_append_left _ (hgo k2 r2 t2 h h2 h3)
            · have : k2 = k := by
                have := List.mem_singleton.mp h
                omega
              subst this
              rw [er] at h2
              cases h2
              by_cases hm : t2 ∈ l
              · exact List.mem_append_left _ hm
              · exact List.mem_append_right _ (List.mem_filter.mpr ⟨h3, by rw [decide_eq_false hm]; rfl⟩)
          · rw [upd_same, List.map_append]
          · show rs.length - ((n : Int) + 1).toNat < rs.length - ((n : Int)).toNat
            omega
      · have ge : l.length ≤ n := by
          have z2 := of_decide_eq_false z
          rw [List.length_map] at z2
          omega
        rw [List.take_of_length_le ge] at hgo
        exact ⟨_, rfl, q l L H3 (fun k => ⟨hmet k, fun h => hgo.all h0 h⟩) s3 hL⟩
    · rintro σ H3 Q1 Q2 hQ ⟨v, e1, v2, e2, p2, ys, e3, e4, i, j, e5, e6, k, e7, e8⟩
      exact ⟨v, e1, v2, e2, p2, ys, e3, e4, i, j, e5, e6, k, e7, hQ _ _ e8⟩
theorem ok_due (T : At K mg "_law_due" s_law_due ["_law_web"]) (B : Bt mg) (c_come_to : Cal P w K mg base 1 "_law_come_to" ["_law_web", "_law_first"] (spCome K)) : Cal P w K mg base 2 "_law_due" ["_law_web"] spDueE := by
  refine cal_of T sc_law_due (fun vs H Q E h => ?_) (fun f cdv A outer s H vs Q E hr h => ?_)
  · obtain ⟨a, rs, rfl, _⟩ := h
    rfl
  · obtain ⟨a, rs, rfl, hA, ok, q⟩ := h
    refine ⟨_, (pss_cons (ps_for PassesOwn.never rfl (pi_list (pe_own c_come_to hr (by decide) (by rfl) (pa_cons (pv 0) (pa_cons (pe_lst (pa_cons pe_int pa_nil)) pa_nil)))) (pg_name (i := 1) sc_law_due.nd rfl (Or.inl rfl)) (pss_one (ps_if (pt_cmpR op_in_seq (pv 1) (pe_own c_come_to hr (by decide) (by rfl) (pa_cons (pv 0) (pa_cons (pe_ix ix_tup (pe_ix ix_list (pv 0) (pv 1) (fun _ _ => rfl)) pe_int (fun _ _ => rfl)) pa_nil))) (by rfl)) (pss_one (ps_ret pe_bl)) pss_nil)))
      (pss_one (ps_ret pe_bl))), ?_⟩
    have hpos := ok.pos
    refine ⟨_, rfl, (by show 1 ≤ sizeLine; decide), fun c nc => ?_⟩
    have sc := same_upd (o := .lst [V.int 0]) nc
    refine ⟨a, c, rs, [0], rfl, hA.same sc, ok, .inl (SqL.of upd_same), by simp, fun k hk => ?_, fun ls u H2 mem s2 hu => ?_⟩
    · rw [List.mem_singleton.mp hk]
      omega
    have s02 := sc.trans s2
    refine ⟨u, rfl, ⟨_, SqL.of hu⟩, ?_⟩
    refine for_list (K := K) (a := u) (xs := ls.map V.int) (fun j σ H3 => ∃ y1 : Option V, σ = [some (.ref a), y1] ∧ Same H2 H3 ∧ ∀ (k : Nat) (r : Rw), (k : Int) ∈ ls.take j → rs[k]? = some r → ¬ Rch rs r.2 k) ?_ ?_ ?_ ?_
    · exact ⟨none, rfl, Same.refl H2, fun k r hk => by rw [List.take_zero] at hk; cases hk⟩
    · rintro j σ H3 _ ⟨_, _, s3, _⟩
      exact SqL.of (s3 _ _ hu)
    · rintro j y σ H3 hy ⟨y1, rfl, s3, acy⟩
      rw [List.getElem?_map] at hy
      obtain ⟨t, et, rfl⟩ := Option.map_eq_some_iff.mp hy
      have hrt : Rch rs [0] t := (mem t).mp (List.mem_of_getElem? et)
      obtain ⟨t0, t1⟩ := hrt.range ok (fun k hk => by
        rw [List.mem_singleton.mp hk]
        omega)
      obtain ⟨k, rfl⟩ : ∃ k : Nat, t = (k : Int) := ⟨t.toNat, by omega⟩
      have er : rs[k]? = some rs[k] := List.getElem?_eq_getElem (by omega)
      generalize rs[k] = r at er
      have hA3 := hA.same (s02.trans s3)
      obtain ⟨ws, x, rb, rc, hws, hwx, u1, u2, u3⟩ := hA3.get er
      have rok := ok.row r (List.mem_of_getElem? er)
      refine ⟨_, rfl, _, rfl, _, rfl, _, rfl, a, _, _, _, rfl, rfl, SqL.of hws, atI_nat hwx, x, _, _, _, rfl, rfl, u1.sq, atI_nat (j := 1) rfl, ?_⟩
      refine ⟨a, rc, rs, r.2, rfl, hA3, ok, .inr u3.sq, rok.tos.pw.imp fun h => Int.ne_of_lt h, fun k hk => ?_, fun l2 u4 H4 mem4 s4 hu4 => ?_⟩
      · have := rok.tos.lo k hk
        have := rok.tos.hi k hk
        omega
      refine ⟨u4, _, rfl, .inl (SqL.of hu4), rfl, flat_ints l2, ?_⟩
      rw [show (if false = true then !inV (V.int (k : Int)) (l2.map V.int) else inV (V.int (k : Int)) (l2.map V.int)) = decide ((k : Int) ∈ l2) from in_ints _ l2]
      refine ⟨_, rfl, iteB (fun z => ?_) (fun z => ?_)⟩
      · refine q false H4 ⟨(fun h => by cases h), fun hE => ?_⟩ ((s02.trans s3).trans s4)
        have hEk : End rs (k : Int) := End.all (F := [0]) (fun x hx => by rw [List.mem_singleton.mp hx]; exact hE) hrt
        exact absurd ((mem4 _).mp (of_decide_eq_true z)) (hEk.round k r rfl er)
      · refine ⟨_, rfl, s3.trans s4, fun k2 r2 hk2 e2 => ?_⟩
        rw [List.take_add_one, et] at hk2
        rcases List.mem_append.mp hk2 with h | h
        · exact acy k2 r2 h e2
        · have : k2 = k := by
            have := List.mem_singleton.mp h
            omega
          subst this
          rw [er] at e2
          cases e2
          exact fun h => of_decide_eq_false z ((mem4 _).mpr h)
    · rintro σ H3 ⟨y1, rfl, s3, acy⟩
      rw [List.length_map, List.take_length] at acy
      refine q true H3 ⟨fun _ => ?_, fun _ => rfl⟩ (s02.trans s3)
      have e0 : rs[0]? = some rs[0] := List.getElem?_eq_getElem (by omega)
      have hx0 : ∀ x, Rch rs rs[0].2 x → x ∈ (List.range rs.length).map fun i => ((i : Nat) : Int) := fun x hx => by
        have z := hx.range ok fun k hk => by
          have a := (ok.row _ (List.mem_of_getElem? e0)).tos.lo k hk
          have b := (ok.row _ (List.mem_of_getElem? e0)).tos.hi k hk
          omega
        exact List.mem_map.mpr ⟨x.toNat, List.mem_range.mpr (by omega), by omega⟩
      exact End.of ok (fun k r hk e => acy k r ((mem _).mpr hk) e) _ _ 0 rs[0] (Nat.le_refl _) e0 (.base (List.mem_singleton.mpr rfl)) hx0
end
end Su
/-! ### E3: the law's webs -/
namespace Su
open PySem PySem.Spec PyProof.Rows L2
theorem RowsAt.set {H : Hp} : ∀ {vs : List V} {rs : List Rw} (n : Nat) {v : V} {r : Rw}, RowsAt H vs rs → RowAt H v r → RowsAt H (vs.set n v) (rs.set n r)
  | [], [], _, _, _, _, _ => trivial
  | _ :: _, _ :: _, 0, _, _, h, hr => ⟨hr, h.2⟩
  | _ :: _, _ :: _, n + 1, _, _, h, hr => ⟨h.1, RowsAt.set n h.2 hr⟩
  | [], _ :: _, _, _, _, h, _ => h.elim
  | _ :: _, [], _, _, _, h, _ => h.elim
theorem mem_set_of {α : Type} : ∀ {l : List α} {n : Nat} {x y : α}, x ∈ l.set n y → x ∈ l ∨ x = y
  | [], _, _, _, h => by cases h
  | a :: l, 0, x, y, h => by
    rcases List.mem_cons.mp h with z | z
    · exact .inr z
    · exact .inl (List.mem_cons_of_mem _ z)
  | a :: l, n + 1, x, y, h => by
    rcases List.mem_cons.mp h with z | z
    · exact .inl (by rw [z]; exact List.mem_cons_self)
    · rcases mem_set_of z with w | w
      · exact .inl (List.mem_cons_of_mem _ w)
      · exact .inr w
theorem mem_all {k : Int} {rs : List Rw} : k ∈ allRooms rs ↔ ∃ r ∈ rs, k ∈ r.1 := by
  unfold allRooms
  rw [List.mem_flatten]
  constructor
  · rintro ⟨l, hl, hk⟩
    obtain ⟨r, hr, rfl⟩ := List.mem_map.mp hl
    exact ⟨r, hr, hk⟩
  · rintro ⟨r, hr, hk⟩
    exact ⟨r.1, List.mem_map_of_mem hr, hk⟩
theorem mid {R M : L2.St → Hp → Prop} {G : Prop} (hR : ∀ σ H, M σ H → R σ H) (h : (∀ σ H, M σ H → R σ H) → G) : G := h hR
def fromTo (a b : Int) : List Int := (List.range (b - a).toNat).map fun i => a + ((i : Nat) : Int)
theorem fromTo_rg (a b : Int) : rgV a b = (fromTo a b).map V.int := by
  unfold rgV fromTo
  rw [List.map_map]
  rfl
theorem fromTo_mem {a b k : Int} (h : k ∈ fromTo a b) : a ≤ k ∧ k < b := by
  unfold fromTo at h
  obtain ⟨i, hi, rfl⟩ := List.mem_map.mp h
  have := List.mem_range.mp hi
  omega
theorem fromTo_nd (a b : Int) : (fromTo a b).Nodup := by
  unfold fromTo
  refine List.Pairwise.map _ (fun x y h => ?_) List.nodup_range
  intro z
  exact h (by omega)
theorem fromTo_len (a b : Int) : (fromTo a b).length = (b - a).toNat := by
  unfold fromTo
  rw [List.length_map, List.length_range]
/-- every to is behind its row -/
def Fwd (rs : List Rw) : Prop := ∀ (k : Nat) (r : Rw), rs[k]? = some r → ∀ t ∈ r.2, (k : Int) < t
theorem Fwd.ends {rs : List Rw} (ok : WebOk rs) (h : Fwd rs) : End rs 0 := by
  have key : ∀ (m k : Nat), k < rs.length → rs.length - k ≤ m → End rs k := by
    intro m
    induction m with
    | zero =>
      intro k hk hm
      omega
    | succ m ih =>
      intro k hk hm
      have e : rs[k]? = some rs[k] := List.getElem?_eq_getElem hk
      refine .mk e fun t ht => ?_
      have lt := h k _ e t ht
      have rok := ok.row _ (List.mem_of_getElem? e)
      have hi := rok.tos.hi t ht
      have z := ih t.toNat (by omega) (by omega)
      rwa [show ((t.toNat : Nat) : Int) = t by omega] at z
  exact key rs.length 0 (by have := ok.pos; omega) (by omega)
def spEWeb : Sp := fun vs H Q _ => ∃ (p : Addr) (mr mo : Int), vs = [.ref p, .int mr, .int mo] ∧ PoolAt H p ∧ 1 ≤ mr ∧ mr ≤ 80 ∧ 1 ≤ mo ∧ mo ≤ 12 ∧
  ∀ (u : Addr) (H' : Hp) (rs : List Rw), H u = none → Kept p H H' → PoolAt H' p → WebAt H' u rs → WebOk rs → Fwd rs → Q (.ref u) H'
def spTies : Sp := fun vs H Q _ => ∃ (p a : Addr) (rs : List Rw), vs = [.ref p, .ref a] ∧ PoolAt H p ∧ a ≠ p ∧ WebAt H a rs ∧ WebOk rs ∧
  ∀ (u : Addr) (H' : Hp) (qs : List Rw), u ≠ p → Kept p H H' → PoolAt H' p → WebAt H' u qs → WebOk qs → Q (.ref u) H'
structure ErrE (K : PySem.W.Frag) (mg : Str → Option Value) (C CH : Addr) : Prop where
  he : mg "HandError" = some (.ref CH)
  exW : PySem.W.exmOne K (.ref C) (.ref CH) = some true
  nw : mg "NoWeb" = some (.ref C)
  xC : ExcT K C
  iww : PySem.W.kitOne K (.ref C) (.ref C) = some true
def spRefused : Sp := fun vs H Q _ => ∃ (v : V) (p : Addr) (g : G) (r : Option Nat), vs = [v] ∧ Tg p H v g ∧ lookG g = some r ∧ ∀ H', Same H H' → Q (.bl true) H'
theorem sc_law_ending_web : FnScope ["_law_pool_here", "_law_most_rows", "_law_most_rooms", "_law_many", "_law_rooms", "_law_web", "_law_row", "_law_asked_for", "_law_tos"] ["_law_pool_here", "_law_most_rows", "_law_most_rooms"] (defScope s_law_ending_web) := ⟨rfl, rfl, rfl, by decide +kernel, rfl, by decide +kernel, by decide +kernel⟩
theorem sc_law_with_ties : FnScope ["_law_pool_here", "_law_web", "_law_found", "_law_turn", "_law_at", "_law_to", "_law_rooms", "_law_tos"] ["_law_pool_here", "_law_web"] (defScope s_law_with_ties) := ⟨rfl, rfl, rfl, by decide +kernel, rfl, by decide +kernel, by decide +kernel⟩
theorem sc_law_refused : FnScope ["_law_thing", "_law_kept", "e"] ["_law_thing"] (defScope s_law_refused) := ⟨rfl, rfl, rfl, by decide +kernel, rfl, by decide +kernel, by decide +kernel⟩
section
variable {P : Program} {w : World} {K : PySem.W.Frag} {mg : Str → Option Value} {base : Heap}
theorem ok_refused {C CH : Addr} (EE : ErrE K mg C CH) (T : At K mg "_law_refused" s_law_refused ["_law_thing"]) (B : Bt mg) (c_is_ending : CalX P w K mg base 6 "is_ending" ["web"] (spEnding C)) : Cal P w K mg base 7 "_law_refused" ["_law_thing"] spRefused := by
  refine cal_of T sc_law_refused (fun vs H Q E h => ?_) (fun f cdv A outer s H vs Q E hr h => ?_)
  · obtain ⟨v, p, g, r, rfl, _⟩ := h
    rfl
  · obtain ⟨v, p, g, r, rfl, tg, lk, q⟩ := h
    have hHE := EE.he
    refine ⟨_, (pss_cons (ps_set (i := 1) sc_law_refused.nd rfl (Or.inl rfl) pe_non)
      (pss_cons (ps_try_keep (i := 2) (Wo := fun _ _ _ _ => False) rfl rfl rfl sc_law_refused.nd rfl rfl ⟨rfl, by decide, Or.inl hHE⟩ takes0 (fun W pn xe tk _ => (pss_one (ps_expr (pe_ownX tk c_is_ending hr (by decide) (by rfl) (pa_cons (pv 0) pa_nil))))) (fun a oe pn => (pss_one (ps_set (i := 1) sc_law_refused.nd rfl (Or.inl rfl) (pv 2)))))
      (pss_one (ps_ret (pe_callB call_isiE (by rfl) B.isinstance (by decide +kernel) (pa_cons (pv 1) (pa_cons (pe_glob (v := .ref C) (by rfl) EE.nw rfl) pa_nil))))))), ?_⟩
    refine ⟨_, rfl, v, rfl, .inr ⟨p, g, r, tg, lk, fun H1 d s1 nd hd => ?_⟩⟩
    refine ⟨true, EE.exW, fun _ x nx => ?_, fun z => by cases z⟩
    have hx : (upd H1 x (exK x (.ref C) (some d))) x = some (exK x (.ref C) (some d)) := upd_same
    have sx : Same H1 (upd H1 x (exK x (.ref C) (some d))) := same_upd nx
    have xd : XdAt (upd H1 x (exK x (.ref C) (some d))) (some d) := fun dd ed => by
      cases ed
      exact ⟨_, sx _ _ hd⟩
    refine ⟨_, rfl, ?_⟩
    exact ⟨_, rfl, x, C, some d, .ref C, .ref C, true, rfl, .own C, EE.xC, hx, xd, EE.iww, q _ (s1.trans sx)⟩
theorem ok_ties (T : At K mg "_law_with_ties" s_law_with_ties ["_law_pool_here", "_law_web"]) (B : Bt mg) (c_take : Cal P w K mg base 1 "_law_take" ["_law_pool_here", "_law_many"] spTake) : Cal P w K mg base 2 "_law_with_ties" ["_law_pool_here", "_law_web"] spTies := by
  refine cal_of T sc_law_with_ties (fun vs H Q E h => ?_) (fun f cdv A outer s H vs Q E hr h => ?_)
  · obtain ⟨p, a, rs, rfl, _⟩ := h
    rfl
  · obtain ⟨p, a, rs, rfl, hp, eap, ⟨ws, hws, hrs⟩, ok, q⟩ := h
    refine ⟨_, (pss_cons (ps_set (i := 2) sc_law_with_ties.nd rfl (Or.inl rfl) (pe_callTy call_list_of (by rfl) B.list (by decide +kernel) (pa_cons (pv 1) pa_nil)))
      (pss_cons (ps_for PassesOwn.never rfl (pi_range1 (by rfl) B.range (pa_cons (pe_own c_take hr (by decide) (by rfl) (pa_cons (pv 0) (pa_cons pe_int pa_nil))) pa_nil)) (pg_name (i := 3) sc_law_with_ties.nd rfl (Or.inl rfl)) (pss_cons (ps_set (i := 4) sc_law_with_ties.nd rfl (Or.inl rfl) (pe_own c_take hr (by decide) (by rfl) (pa_cons (pv 0) (pa_cons (pe_callB call_len_seq (by rfl) B.len PySem.boot_len (pa_cons (pv 2) pa_nil)) pa_nil))))
      (pss_cons (ps_set (i := 5) sc_law_with_ties.nd rfl (Or.inl rfl) (pe_own c_take hr (by decide) (by rfl) (pa_cons (pv 0) (pa_cons (pe_callB call_len_seq (by rfl) B.len PySem.boot_len (pa_cons (pv 2) pa_nil)) pa_nil))))
      (pss_cons (ps_asg (pe_ix ix_list (pv 2) (pv 4) (fun _ _ => rfl)) (pg_tup (by rfl) (pgs_cons (pg_name (i := 6) sc_law_with_ties.nd rfl (Or.inl rfl)) (pgs_cons (pg_name (i := 7) sc_law_with_ties.nd rfl (Or.inl rfl)) pgs_nil))))
      (pss_one (ps_asg (pe_tupF (pa_cons (pv 6) (pa_cons (pe_callTy call_tupleF (by rfl) B.tuple (by decide +kernel) (pa_cons (pe_callB (cr_sortedS rfl) (by rfl) B.sorted (by decide +kernel) (pa_cons (pe_callTy (cr_setL rfl) (by rfl) B.set (by decide +kernel) (pa_cons (pe_op op_cat (pe_callTy call_list_of (by rfl) B.list (by decide +kernel) (pa_cons (pv 7) pa_nil)) (pe_lst (pa_cons (pv 5) pa_nil))) pa_nil)) pa_nil)) pa_nil)) pa_nil))) (pg_sub (pv 2) (pv 4) set_list)))))))
      (pss_one (ps_ret (pv 2))))), ?_⟩
    refine ⟨_, rfl, a, _, rfl, .inl (SqL.of hws), fun L nL => ?_⟩
    have sL := same_upd (o := .lst ws) nL
    have eLp : L ≠ p := pool_ne hp nL
    refine ⟨_, rfl, p, 3, rfl, hp.same sL, by decide, by decide, fun m o m0 m1 po => ?_⟩
    obtain ⟨n, rfl⟩ : ∃ n : Nat, m = (n : Int) := ⟨m.toNat, by omega⟩
    have k1 : Kept p (upd H L (.lst ws)) (upd (upd H L (.lst ws)) p o) := Kept.upd p _ o
    have k01 : Kept p H (upd (upd H L (.lst ws)) p o) := (Kept.same sL).trans k1
    refine ⟨(n : Int), rfl, by omega, by omega, ?_⟩
    rw [show ((n : Int)).toNat = n by omega]
    refine for_range (lo := 0) (n := n) (fun i σ H3 => ∃ (y3 y4 y5 y6 y7 : Option V) (vs : List V) (qs : List Rw), σ = [some (.ref p), some (.ref a), some (.ref L), y3, y4, y5, y6, y7] ∧ H3 L = some (.lst vs) ∧ RowsAt H3 vs qs ∧ WebOk qs ∧ Kept p H H3 ∧ PoolAt H3 p) ?_ ?_ ?_
    · exact ⟨none, none, none, none, none, ws, rs, rfl, k1 _ _ upd_same eLp, hrs.keep (K2.of k01 hp), ok, k01, ⟨o, upd_same, po⟩⟩
    · rintro i σ H3 hi ⟨y3, y4, y5, y6, y7, vs, qs, rfl, hL, hvs, okq, k3, hp3⟩
      have hvl := hvs.len
      have hpos := okq.pos
      have h80 := okq.few
      refine ⟨_, rfl, _, rfl, L, _, rfl, .inl (SqL.of hL), p, _, rfl, hp3, by omega, by omega, fun r o4 r0 r1 po4 => ?_⟩
      have k4 : Kept p H3 (upd H3 p o4) := Kept.upd p H3 o4
      have hp4 : PoolAt (upd H3 p o4) p := ⟨o4, upd_same, po4⟩
      refine ⟨_, rfl, _, rfl, L, _, rfl, .inl (SqL.of (k4 _ _ hL eLp)), p, _, rfl, hp4, by omega, by omega, fun to o5 to0 to1 po5 => ?_⟩
      have k5 : Kept p H3 (upd (upd H3 p o4) p o5) := k4.trans (Kept.upd p _ o5)
      have hp5 : PoolAt (upd (upd H3 p o4) p o5) p := ⟨o5, upd_same, po5⟩
      have hL5 := k5 _ _ hL eLp
      have hvs5 := hvs.keep (K2.of k5 hp3)
      have k05 := k3.trans k5
      generalize upd (upd H3 p o4) p o5 = H5 at hp5 hL5 hvs5 k05 ⊢
      have hx : vs[r.toNat]? = some vs[r.toNat] := List.getElem?_eq_getElem (by omega)
      obtain ⟨rr, er, ra, rb, rc, ea, ha, hb, hc⟩ := hvs5.get hx
      have rok := okq.row rr (List.mem_of_getElem? er)
      have hl2 := ris_len rok.tos
      refine ⟨_, rfl, _, rfl, L, vs, r, vs[r.toNat], rfl, rfl, SqL.of hL5, atI_int r0 hx, ?_⟩
      rw [ea]
      refine ⟨ra, _, rfl, ha.sq, rfl, _, _, rfl, _, _, rfl, rfl, ?_⟩
      refine ⟨_, rfl, _, rfl, rc, _, rfl, .inr hc.sq, fun l1 nl1 => ?_⟩
      have u1 := same_upd (o := .lst (rr.2.map V.int)) nl1
      refine ⟨_, rfl, (by show 1 ≤ sizeLine; decide), fun l2 nl2 => ?_⟩
      have u2 := same_upd (o := .lst [V.int to]) nl2
      refine ⟨_, _, _, _, rfl, rfl, u2 _ _ upd_same, upd_same, ?_, fun l3 nl3 => ?_⟩
      · rw [List.length_map]
        exact Nat.le_of_lt (small1000 (by show _ + 1 ≤ 1000; omega))
      have u3 := same_upd (o := .lst (rr.2.map V.int ++ [V.int to])) nl3
      have h3 : (upd (upd (upd H5 l1 (.lst (rr.2.map V.int))) l2 (.lst [V.int to])) l3 (.lst (rr.2.map V.int ++ [V.int to]))) l3 = some (.lst ((rr.2 ++ [to]).map V.int)) := by
        rw [upd_same, List.map_append]
        rfl
      have s3 := (u1.trans u2).trans u3
      refine ⟨l3, rr.2 ++ [to], rfl, SqL.of h3, (by rw [List.length_append]; show _ + 1 ≤ 4000; omega), fun S H6 s6 nS setS => ?_⟩
      refine ⟨S, rr.2 ++ [to], rfl, setS, fun ms u pw mem nu => ?_⟩
      have u4 := same_upd (o := .lst (ms.map V.int)) nu
      refine ⟨u, _, rfl, SqL.of upd_same, fun t1 H7 s7 nt1 pt1 => ?_⟩
      refine ⟨(by show 2 ≤ sizeLine; decide), fun t2 H8 s8 nt2 pt2 => ?_⟩
      have s58 : Same H5 H8 := ((s3.trans s6).trans u4).trans (s7.trans s8)
      have hL8 := s58 _ _ hL5
      refine ⟨_, rfl, _, rfl, L, vs, r, r.toNat, rfl, rfl, hL8, (by unfold ixN; rw [if_pos r0, if_pos (by omega)]), ?_⟩
      have kz : K2 H8 (upd H8 L (.lst (vs.set r.toNat (V.ref t2)))) := K2.lst hL8
      refine ⟨_, _, _, _, _, vs.set r.toNat (V.ref t2), qs.set r.toNat (rr.1, ms), rfl, upd_same, ?_, ?_, ?_, (hp5.same s58).upd eLp.symm⟩
      · refine RowsAt.set r.toNat (hvs5.keep ((K2.same s58).trans kz)) ⟨t2, rb, t1, rfl, kz _ _ (.inl pt2), kz _ _ (hb.same s58), kz _ _ (T2.same (.inl pt1) s8)⟩
      · obtain ⟨A, hA, hin⟩ := okq.all
        refine ⟨by rw [List.length_set]; exact hpos, by rw [List.length_set]; exact h80, fun x hx2 => ?_, A, hA, fun k hk => ?_⟩
        · rw [List.length_set]
          rcases mem_set_of hx2 with z | rfl
          · exact okq.row x z
          · refine ⟨rok.rooms, rok.few, pw, fun k hk => ?_, fun k hk => ?_⟩
            · rcases List.mem_append.mp ((mem k).mp hk) with z | z
              · exact rok.tos.lo k z
              · rw [List.mem_singleton.mp z]
                exact to0
            · rcases List.mem_append.mp ((mem k).mp hk) with z | z
              · exact rok.tos.hi k z
              · rw [List.mem_singleton.mp z]
                omega
        · obtain ⟨x, hx2, hk2⟩ := mem_all.mp hk
          rcases mem_set_of hx2 with z | rfl
          · exact hin k (mem_all.mpr ⟨x, z, hk2⟩)
          · exact hin k (mem_all.mpr ⟨rr, List.mem_of_getElem? er, hk2⟩)
      · exact (k05.trans (Kept.same s58)).set nL
    · rintro σ H3 ⟨y3, y4, y5, y6, y7, vs, qs, rfl, hL, hvs, okq, k3, hp3⟩
      exact ⟨_, rfl, q L H3 qs eLp k3 hp3 ⟨vs, hL, hvs⟩ okq⟩
theorem ok_eweb (T : At K mg "_law_ending_web" s_law_ending_web ["_law_pool_here", "_law_most_rows", "_law_most_rooms"]) (B : Bt mg) (c_take : Cal P w K mg base 1 "_law_take" ["_law_pool_here", "_law_many"] spTake) (c_picked : Cal P w K mg base 2 "_law_picked" ["_law_pool_here", "_law_some", "_law_many"] (spPicked K)) :
    Cal P w K mg base 3 "_law_ending_web" ["_law_pool_here", "_law_most_rows", "_law_most_rooms"] spEWeb := by
  refine cal_of T sc_law_ending_web (fun vs H Q E h => ?_) (fun f cdv A outer s H vs Q E hr h => ?_)
  · obtain ⟨p, mr, mo, rfl, _⟩ := h
    rfl
  · obtain ⟨p, mr, mo, rfl, hp, r1, r80, o1, o12, q⟩ := h
    refine ⟨_, (pss_cons (ps_set (i := 3) sc_law_ending_web.nd rfl (Or.inl rfl) (pe_op op_add pe_int (pe_own c_take hr (by decide) (by rfl) (pa_cons (pv 0) (pa_cons (pv 1) pa_nil)))))
      (pss_cons (ps_set (i := 4) sc_law_ending_web.nd rfl (Or.inl rfl) (pe_own c_picked hr (by decide) (by rfl) (pa_cons (pv 0) (pa_cons (pe_listRg rfl (by rfl) B.list (prg_1 (by rfl) B.range pe_int)) (pa_cons (pe_op op_add pe_int (pe_own c_take hr (by decide) (by rfl) (pa_cons (pv 0) (pa_cons (pv 2) pa_nil)))) pa_nil)))))
      (pss_cons (ps_set (i := 5) sc_law_ending_web.nd rfl (Or.inl rfl) (pe_lst pa_nil))
      (pss_cons (ps_for PassesOwn.never rfl (pi_range1 (by rfl) B.range (pa_cons (pv 3) pa_nil)) (pg_name (i := 6) sc_law_ending_web.nd rfl (Or.inl rfl)) (pss_cons (ps_set (i := 7) sc_law_ending_web.nd rfl (Or.inl rfl) (pe_own c_picked hr (by decide) (by rfl) (pa_cons (pv 0) (pa_cons (pv 4) (pa_cons (pe_ix ix_list (pe_lst (pa_cons pe_int (pa_cons pe_int (pa_cons pe_int (pa_cons pe_int (pa_cons pe_int (pa_cons pe_int (pa_cons pe_int pa_nil)))))))) (pe_own c_take hr (by decide) (by rfl) (pa_cons (pv 0) (pa_cons pe_int pa_nil))) (fun _ _ => rfl)) pa_nil)))))
      (pss_cons (ps_set (i := 8) sc_law_ending_web.nd rfl (Or.inl rfl) (pe_own c_picked hr (by decide) (by rfl) (pa_cons (pv 0) (pa_cons (pe_listRg rfl (by rfl) B.list (prg_2 (by rfl) B.range (pe_op op_add (pv 6) pe_int) (pv 3))) (pa_cons (pe_ix ix_list (pe_lst (pa_cons pe_int (pa_cons pe_int (pa_cons pe_int (pa_cons pe_int (pa_cons pe_int (pa_cons pe_int pa_nil))))))) (pe_own c_take hr (by decide) (by rfl) (pa_cons (pv 0) (pa_cons pe_int pa_nil))) (fun _ _ => rfl)) pa_nil)))))
      (pss_cons (ps_if (PW.pt (pw_and (pt_cmpR op_lt (pe_op op_add (pv 6) pe_int) (pv 3) (nomark _)) (pw_and (pt_cmpR op_gt (pe_own c_take hr (by decide) (by rfl) (pa_cons (pv 0) (pa_cons pe_int pa_nil))) pe_int (nomark _)) (pw_and1 (pt_cmpR op_notIn_seq (pe_op op_add (pv 6) pe_int) (pv 8) (by rfl)))))) (pss_one (ps_set (i := 8) sc_law_ending_web.nd rfl (Or.inl rfl) (pe_op op_cat (pe_lst (pa_cons (pe_op op_add (pv 6) pe_int) pa_nil)) (pv 8)))) pss_nil)
      (pss_one (ps_expr (pe_bm PySem.F.plainAttrs_list PySem.F.slot_list_append PySem.F.type_list_append mt_append (pv 5) (pa_cons (pe_tupF (pa_cons (pe_callTy call_tupleF (by rfl) B.tuple (by decide +kernel) (pa_cons (pv 7) pa_nil)) (pa_cons (pe_callTy call_tupleF (by rfl) B.tuple (by decide +kernel) (pa_cons (pv 8) pa_nil)) pa_nil))) pa_nil))))))))
      (pss_one (ps_ret (pv 5))))))), ?_⟩
    refine ⟨_, rfl, _, rfl, p, mr, rfl, hp, r1, by omega, fun rr o rr0 rr1 po => ?_⟩
    have hp1 : PoolAt (upd H p o) p := ⟨o, upd_same, po⟩
    obtain ⟨n, hn⟩ : ∃ n : Nat, 1 + rr = (n : Int) := ⟨(1 + rr).toNat, by omega⟩
    refine ⟨_, _, rfl, rfl, ?_⟩
    refine ⟨_, rfl, 100, rfl, ⟨by decide, by decide, by decide, by decide, by decide⟩, fun b nb => ?_⟩
    rw [hundred_rg]
    have ebp : b ≠ p := pool_ne hp1 nb
    refine ⟨_, rfl, _, rfl, p, mo, rfl, hp1.upd ebp.symm, o1, by omega, fun ro o2 ro0 ro1 po2 => ?_⟩
    refine ⟨_, _, rfl, rfl, p, b, hundred, _, rfl, ⟨o2, upd_same, po2⟩, SqL.of (by rw [upd_ne ebp, upd_same]), ebp, hundred_nd, (by rw [hundred_len]; decide), (by omega), fun ra H2 ms nra k2 hp2 hra nd hsub hml hle => ?_⟩
    have kk2 : Kept p H H2 := ((Kept.upd p H o).trans ((Kept.same (same_upd nb)).trans (Kept.upd p _ o2))).trans k2
    have erp : ra ≠ p := (free_upd nra).1
    have hml12 : ms.length ≤ 12 := by
      rw [hml]
      omega
    have hr99 : ∀ k ∈ ms, 0 ≤ k ∧ k ≤ 99 := fun k hk => by
      have := hundred_mem (hsub k hk)
      omega
    refine ⟨(by show 0 ≤ sizeLine; decide), fun wa nwa => ?_⟩
    have ewp : wa ≠ p := pool_ne hp2 nwa
    have ewr : ra ≠ wa := ne_of_none hra nwa
    have nwa0 : H wa = none := kk2.free ewp nwa
    refine ⟨_, rfl, _, congrArg (fun z => [V.int z]) hn, by omega, by omega, ?_⟩
    rw [show ((n : Int)).toNat = n by omega]
    refine for_range (lo := 0) (n := n) (fun i σ H3 => ∃ (y6 y7 y8 : Option V) (ws : List V) (rs : List Rw), σ = [some (.ref p), some (.int mr), some (.int mo), some (.int n), some (.ref ra), some (.ref wa), y6, y7, y8] ∧ H3 wa = some (.lst ws) ∧ RowsAt H3 ws rs ∧ rs.length = i ∧ (∀ r ∈ rs, RowOk n r ∧ ∀ k ∈ r.1, k ∈ ms) ∧ Fwd rs ∧ H3 ra = some (.lst (ms.map V.int)) ∧ PoolAt H3 p ∧ Kept p H H3) ?_ ?_ ?_
    · refine ⟨none, none, none, [], [], ?_, upd_same, trivial, rfl, fun r hr => (List.not_mem_nil hr).elim, fun k r e => by simp at e, (by rw [upd_ne ewr]; exact hra), hp2.upd ewp.symm, kk2.set nwa0⟩
      rw [← hn]
      rfl
    · rintro i σ H3 hi ⟨y6, y7, y8, ws, rs, rfl, hwa, hrs, hlen, hrow, hfwd, hra3, hp3, k3⟩
      have hwl := hrs.len
      refine ⟨_, rfl, _, rfl, (by show 7 ≤ sizeLine; decide), fun L nL => ?_⟩
      have eLp : L ≠ p := pool_ne hp3 nL
      refine ⟨_, rfl, p, 7, rfl, hp3.upd eLp.symm, by decide, by decide, fun r3 o3 r30 r31 po3 => ?_⟩
      obtain ⟨v, hv, ev⟩ := cons_nil_fin (xs := [V.int 1, .int 1, .int 1, .int 1, .int 0, .int 2, .int 3]) 7 rfl r30 r31
      obtain ⟨m, em, hm⟩ : ∃ m : Nat, v = .int m ∧ m ≤ 3 := by
        simp only [List.mem_cons, List.not_mem_nil, or_false] at hv
        rcases hv with e | e | e | e | e | e | e
        all_goals first
          | exact ⟨0, e, by decide⟩
          | exact ⟨1, e, by decide⟩
          | exact ⟨2, e, by decide⟩
          | exact ⟨3, e, by decide⟩
      subst em
      have eLra : ra ≠ L := ne_of_none hra3 nL
      refine ⟨L, _, _, _, rfl, rfl, SqL.of (by rw [upd_ne eLp, upd_same]), ev, ?_⟩
      refine ⟨p, ra, ms, _, rfl, ⟨o3, upd_same, po3⟩, SqL.of (by rw [upd_ne erp, upd_ne eLra]; exact hra3), erp, nd, by omega, by omega, fun q1 H4 m1 nq1 k4 hp4 hq1 nd1 sub1 len1 le1 => ?_⟩
      have kk4 : Kept p H3 H4 := ((Kept.same (same_upd nL)).trans (Kept.upd p _ o3)).trans k4
      have eq1 : q1 ≠ p := (free_upd nq1).1
      -- the tos
      refine ⟨_, rfl, _, rfl, _, _, rfl, rfl, _, rfl, 0 + (i : Int) + 1, (n : Int), rfl, rfl, RgOk.of_le (by omega) (by omega) (by omega) (by omega), fun c nc => ?_⟩
      rw [fromTo_rg]
      have sc := same_upd (o := .lst ((fromTo (0 + (i : Int) + 1) (n : Int)).map V.int)) nc
      have ecp : c ≠ p := pool_ne hp4 nc
      refine ⟨(by show 6 ≤ sizeLine; decide), fun L2 nL2 => ?_⟩
      have sL2 := same_upd (o := .lst [V.int 1, .int 1, .int 1, .int 2, .int 2, .int 0]) nL2
      have eL2 : L2 ≠ p := pool_ne (hp4.same sc) nL2
      refine ⟨_, rfl, p, 6, rfl, hp4.same (sc.trans sL2), by decide, by decide, fun r5 o5 r50 r51 po5 => ?_⟩
      have k5 : Kept p (upd (upd H4 c (.lst ((fromTo (0 + (i : Int) + 1) (n : Int)).map V.int))) L2 (.lst [V.int 1, .int 1, .int 1, .int 2, .int 2, .int 0])) (upd (upd (upd H4 c (.lst ((fromTo (0 + (i : Int) + 1) (n : Int)).map V.int))) L2 (.lst [V.int 1, .int 1, .int 1, .int 2, .int 2, .int 0])) p o5) := Kept.upd p _ o5
      obtain ⟨v2, hv2, ev2⟩ := cons_nil_fin (xs := [V.int 1, .int 1, .int 1, .int 2, .int 2, .int 0]) 6 rfl r50 r51
      obtain ⟨m2, em2, hm2⟩ : ∃ m : Nat, v2 = .int m ∧ m ≤ 2 := by
        simp only [List.mem_cons, List.not_mem_nil, or_false] at hv2
        rcases hv2 with e | e | e | e | e | e
        all_goals first
          | exact ⟨0, e, by decide⟩
          | exact ⟨1, e, by decide⟩
          | exact ⟨2, e, by decide⟩
      subst em2
      refine ⟨L2, _, _, _, rfl, rfl, SqL.of (k5 _ _ upd_same eL2), ev2, ?_⟩
      refine ⟨p, c, fromTo (0 + (i : Int) + 1) (n : Int), _, rfl, ⟨o5, upd_same, po5⟩, SqL.of (k5 _ _ (sL2 _ _ upd_same) ecp), ecp, fromTo_nd _ _, (by rw [fromTo_len]; omega), by omega, fun q2 H6 m2' nq2 k6 hp6 hq2 nd2 sub2 len2 le2 => ?_⟩
      have kk6 : Kept p H4 H6 := ((Kept.same (sc.trans sL2)).trans k5).trans k6
      have eq2 : q2 ≠ p := (free_upd nq2).1
      have hq16 : H6 q1 = some (.lst (m1.map V.int)) := kk6 _ _ hq1 eq1
      have k36 := kk4.trans kk6
      have pw2 := pw_lt le2 nd2
      have rg2 : ∀ k ∈ m2', (i : Int) < k ∧ k < n := fun k hk => by
        have := fromTo_mem (sub2 k hk)
        omega
      apply mid (M := fun σ H7 => ∃ (q3 : Addr) (ts : List Int), σ = [some (.ref p), some (.int mr), some (.int mo), some (.int n), some (.ref ra), some (.ref wa), some (.int (0 + (i : Int))), some (.ref q1), some (.ref q3)] ∧ H7 q3 = some (.lst (ts.map V.int)) ∧ ts.Pairwise (· < ·) ∧ (∀ k ∈ ts, (i : Int) < k ∧ k < n) ∧ Kept p H6 H7 ∧ PoolAt H7 p)
      case h =>
        intro rest
        have same : ∀ {H7 : Hp}, Kept p H6 H7 → PoolAt H7 p → ∃ (q3 : Addr) (ts : List Int), [some (V.ref p), some (.int mr), some (.int mo), some (.int n), some (.ref ra), some (.ref wa), some (.int (0 + (i : Int))), some (.ref q1), some (.ref q2)] = [some (V.ref p), some (.int mr), some (.int mo), some (.int n), some (.ref ra), some (.ref wa), some (.int (0 + (i : Int))), some (.ref q1), some (.ref q3)] ∧ H7 q3 = some (.lst (ts.map V.int)) ∧ ts.Pairwise (· < ·) ∧ (∀ k ∈ ts, (i : Int) < k ∧ k < n) ∧ Kept p H6 H7 ∧ PoolAt H7 p := fun k7 hp7 => ⟨q2, m2', rfl, k7 _ _ hq2 eq2, pw2, rg2, k7, hp7⟩
        refine ⟨_, rfl, _, _, rfl, rfl, _, rfl, _, _, rfl, rfl, _, rfl, iteB (fun z1 => ?_) (fun z1 => ?_)⟩
        rotate_left
        · exact iteF (rest _ _ (same (Kept.refl p H6) hp6))
        have lt1 := of_decide_eq_true z1
        refine ⟨_, rfl, p, 3, rfl, hp6, by decide, by decide, fun r7 o7 r70 r71 po7 => ?_⟩
        have k7 : Kept p H6 (upd H6 p o7) := Kept.upd p H6 o7
        have hp7 : PoolAt (upd H6 p o7) p := ⟨o7, upd_same, po7⟩
        have hq27 := k7 _ _ hq2 eq2
        refine ⟨_, _, rfl, rfl, _, rfl, iteB (fun z2 => ?_) (fun z2 => ?_)⟩
        rotate_left
        · exact iteF (rest _ _ (same k7 hp7))
        generalize upd H6 p o7 = H7 at k7 hp7 hq27 ⊢
        refine ⟨_, rfl, _, _, rfl, rfl, _, rfl, q2, _, rfl, .inl (SqL.of hq27), rfl, flat_ints m2', ?_⟩
        rw [show (if true = true then !inV (V.int (0 + (i : Int) + 1)) (m2'.map V.int) else inV (V.int (0 + (i : Int) + 1)) (m2'.map V.int)) = !decide ((0 + (i : Int) + 1) ∈ m2') from congrArg Bool.not (in_ints _ m2')]
        refine ⟨_, rfl, iteB (fun z3 => ?_) (fun z3 => ?_)⟩
        rotate_left
        · exact rest _ _ (same k7 hp7)
        have out : (0 + (i : Int) + 1) ∉ m2' := by simpa using z3
        refine ⟨_, rfl, _, _, rfl, rfl, (by show 1 ≤ sizeLine; decide), fun l8 nl8 => ?_⟩
        have u8 := same_upd (o := .lst [V.int (0 + (i : Int) + 1)]) nl8
        refine ⟨_, rfl, _, _, _, _, rfl, rfl, upd_same, u8 _ _ hq27, ?_, fun l9 nl9 => ?_⟩
        · rw [List.length_map, len2]
          exact Nat.le_of_lt (small1000 (by show 1 + _ ≤ 1000; omega))
        have u9 := same_upd (o := .lst ([V.int (0 + (i : Int) + 1)] ++ m2'.map V.int)) nl9
        refine rest _ _ ⟨l9, (0 + (i : Int) + 1) :: m2', rfl, upd_same, ?_, ?_, k7.trans (Kept.same (u8.trans u9)), hp7.same (u8.trans u9)⟩
        · refine List.pairwise_cons.mpr ⟨fun x hx => ?_, pw2⟩
          have := rg2 x hx
          have ne : x ≠ 0 + (i : Int) + 1 := fun e => out (e ▸ hx)
          omega
        · intro k hk
          rcases List.mem_cons.mp hk with e | e
          · rw [e]
            omega
          · exact rg2 k e
      case hR =>
        rintro _ H7 ⟨q3, ts, rfl, hq3, pw3, rg3, k7, hp7⟩
        have k37 := k36.trans k7
        have hwa7 : H7 wa = some (.lst ws) := k37 _ _ hwa ewp
        refine ⟨_, rfl, .inl ⟨rfl, _, SqL.of hwa7⟩, _, rfl, q1, _, rfl, SqL.of (k7 _ _ hq16 eq1), fun u8 H8 s8 nu8 pu8 => ?_⟩
        refine ⟨_, rfl, q3, _, rfl, SqL.of (s8 _ _ hq3), fun u9 H9 s9 nu9 pu9 => ?_⟩
        refine ⟨(by show 2 ≤ sizeLine; decide), fun t H10 s10 nt pt => ?_⟩
        have s710 := (s8.trans s9).trans s10
        have kk : Kept p H3 H10 := k37.trans (Kept.same s710)
        have hwa10 : H10 wa = some (.lst ws) := s710 _ _ hwa7
        refine ⟨wa, _, _, rfl, rfl, hwa10, small1000 (by omega), ?_⟩
        refine ⟨_, _, _, ws ++ [.ref t], rs ++ [(m1, ts)], rfl, upd_same, ?_, (by rw [List.length_append, hlen]; rfl), fun r hr => ?_, fun k r e x hx => ?_, ?_, ?_, ?_⟩
        · have kz : K2 H10 (upd H10 wa (.lst (ws ++ [.ref t]))) := K2.lst hwa10
          exact RowsAt.snoc (hrs.keep ((K2.of kk hp3).trans kz)) ⟨t, u8, u9, rfl, kz _ _ (.inl pt), kz _ _ (T2.same (.inl pu8) (s9.trans s10)), kz _ _ (T2.same (.inl pu9) s10)⟩
        · rcases List.mem_append.mp hr with z | z
          · exact hrow r z
          · rw [List.mem_singleton.mp z]
            refine ⟨⟨⟨pw_lt le1 nd1, fun k hk => (hr99 k (sub1 k hk)).1, fun k hk => (hr99 k (sub1 k hk)).2⟩, ?_, ⟨pw3, fun k hk => ?_, fun k hk => ?_⟩⟩, sub1⟩
            · show m1.length ≤ 6
              omega
            · have := rg3 k hk
              omega
            · have := rg3 k hk
              omega
        · by_cases hk : k < rs.length
          · rw [List.getElem?_append_left hk] at e
            exact hfwd k r e x hx
          · rw [List.getElem?_append_right (by omega)] at e
            have z := (List.getElem?_eq_some_iff.mp e).1
            have z1 : k - rs.length = 0 := by
              have : k - rs.length < 1 := z
              omega
            rw [z1] at e
            injection e with e
            subst e
            have := rg3 x hx
            omega
        · rw [upd_ne ewr]
          exact kk _ _ hra3 erp
        · exact (hp7.same s710).upd ewp.symm
        · exact (k3.trans kk).set nwa0
    · rintro σ H3 ⟨y6, y7, y8, ws, rs, rfl, hwa, hrs, hlen, hrow, hfwd, hra3, hp3, k3⟩
      refine ⟨_, rfl, q wa H3 rs nwa0 k3 hp3 ⟨ws, hwa, hrs⟩ ⟨by omega, by omega, fun r hr => (by rw [hlen]; exact (hrow r hr).1), ms, hml12, fun k hk => ?_⟩ hfwd⟩
      obtain ⟨r, hr, hk⟩ := mem_all.mp hk
      exact (hrow r hr).2 k hk
end
end Su
/-! ### E4: the law -/
namespace Su
open PySem PySem.Spec PyProof.Rows L2
theorem RowsAt.take {H : Hp} : ∀ (n : Nat) {vs : List V} {rs : List Rw}, RowsAt H vs rs → RowsAt H (vs.take n) (rs.take n)
  | 0, _, _, _ => by
    rw [List.take_zero, List.take_zero]
    exact trivial
  | n + 1, [], [], _ => trivial
  | n + 1, _ :: _, _ :: _, h => ⟨h.1, RowsAt.take n h.2⟩
  | _ + 1, [], _ :: _, h => h.elim
  | _ + 1, _ :: _, [], h => h.elim
def lineRow (i : Nat) : Rw := ([(0 + (i : Int)) % 9], [(0 + (i : Int)) + 1])
def line (n : Nat) : List Rw := (List.range n).map lineRow
def web1 : List Rw := line 79 ++ [([], [])]
def web2 : List Rw := line 79 ++ [([], [78])]
def web3 : List Rw := line 78 ++ [([], []), ([], [79])]
theorem ok1 : WebOk web1 := web_of (A := upto 9) (by decide +kernel)
theorem ok2 : WebOk web2 := web_of (A := upto 9) (by decide +kernel)
theorem ok3 : WebOk web3 := web_of (A := upto 9) (by decide +kernel)
theorem line_take : (line 79).take 78 = line 78 := by decide +kernel
theorem line_get {n i : Nat} (h : i < n) (m : List Rw) : (line n ++ m)[i]? = some (lineRow i) := by
  unfold line
  rw [List.getElem?_append_left (by rw [List.length_map, List.length_range]; exact h), List.getElem?_map, List.getElem?_range h]
  rfl
/-- from a row with an end on, all rows ahead have it -/
theorem line_end {n : Nat} {m : List Rw} (h : End (line n ++ m) (n : Int)) : End (line n ++ m) 0 := by
  have key : ∀ j : Nat, j ≤ n → End (line n ++ m) ((n - j : Nat) : Int) := by
    intro j
    induction j with
    | zero => exact fun _ => h
    | succ j ih =>
      intro hj
      refine .mk (line_get (by omega) m) fun t ht => ?_
      have e : t = (0 + ((n - (j + 1) : Nat) : Int)) + 1 := List.mem_singleton.mp ht
      have z := ih (by omega)
      rw [show t = ((n - j : Nat) : Int) by omega]
      exact z
  have z := key n (Nat.le_refl _)
  rwa [Nat.sub_self] at z
theorem line_rch {n : Nat} {m : List Rw} : ∀ j : Nat, j ≤ n → Rch (line n ++ m) [0] (j : Int)
  | 0, _ => .base (List.mem_singleton.mpr rfl)
  | j + 1, h => .step (line_rch j (by omega)) (line_get (by omega) m) (List.mem_singleton.mpr (by omega))
theorem end1 : End web1 0 := by
  refine line_end (n := 79) ?_
  exact .mk (r := ([], [])) (by decide +kernel) fun t ht => by cases ht
theorem end3 : End web3 0 := by
  refine line_end (n := 78) ?_
  exact .mk (r := ([], [])) (by decide +kernel) fun t ht => by cases ht
theorem end2 : ¬ End web2 0 := by
  intro h
  have e79 : web2[79]? = some ([], [78]) := by decide +kernel
  have e78 : web2[78]? = some (lineRow 78) := line_get (by decide) _
  have z : End web2 ((79 : Nat) : Int) := End.all (F := [0]) (fun x hx => by rw [List.mem_singleton.mp hx]; exact h) (line_rch 79 (Nat.le_refl _))
  refine z.round 79 _ rfl e79 ?_
  exact .step (k := 78) (.base (by decide)) e78 (by decide)
def spLaw (K : PySem.W.Frag) : Sp := fun vs H Q _ => ∃ (a : Addr) (ns : List Int), vs = [.ref a] ∧ SqL K H a (ns.map V.int) ∧ ns.length ≤ 63 ∧ ∀ H', Q (.bl true) H'
structure Calls (P : Program) (w : World) (K : PySem.W.Frag) (mg : Str → Option Value) (base : Heap) (C : Addr) : Prop where
  pool : Cal P w K mg base 1 "_law_pool" ["_law_script", "_law_k"] (spPool K)
  take : Cal P w K mg base 1 "_law_take" ["_law_pool_here", "_law_many"] spTake
  web : Cal P w K mg base 3 "_law_ending_web" ["_law_pool_here", "_law_most_rows", "_law_most_rooms"] spEWeb
  ties : Cal P w K mg base 2 "_law_with_ties" ["_law_pool_here", "_law_web"] spTies
  ending : CalX P w K mg base 6 "is_ending" ["web"] (spEnding C)
  due : Cal P w K mg base 2 "_law_due" ["_law_web"] spDueE
  refused : Cal P w K mg base 7 "_law_refused" ["_law_thing"] spRefused
theorem sc_law : FnScope ["_law_script", "_law_k", "_law_pool_here", "_law_plain_web", "_law_web", "_law_kept", "_law_found", "_law_row"] ["_law_script"] (defScope s_law) := ⟨rfl, rfl, rfl, by decide +kernel, rfl, by decide +kernel, by decide +kernel⟩
section
variable {P : Program} {w : World} {K : PySem.W.Frag} {mg : Str → Option Value} {base : Heap}
theorem ok_law {C : Addr} {f : Addr} {fd : FuncData} (F : Fun K "law" "law" s_law f fd) (B : Bt mg) (CA : Calls P w K mg base C) : FnG P w K mg base CX0 8 f fd ["_law_script"] (spLaw K) := by
  obtain ⟨c_pool, c_take, c_ending_web, c_with_ties, c_is_ending, c_due, c_refused⟩ := CA
  refine fnG_fun F sc_law (fun vs H Q E h => ?_) (fun cdv A outer s H vs Q E hg hr h => ?_)
  · obtain ⟨a, ns, rfl, _⟩ := h
    rfl
  · obtain ⟨a, ns, rfl, hS, hlen, q⟩ := h
    refine ⟨_, (pss_cons (ps_for PassesOwn.never rfl (pi_range1 (by rfl) B.range (pa_cons (pe_callB (call_max2 rfl) (by rfl) B.max (by decide +kernel) (pa_cons pe_int (pa_cons (pe_callB (call_min2 rfl) (by rfl) B.min (by decide +kernel) (pa_cons (pe_callB call_len_seq (by rfl) B.len PySem.boot_len (pa_cons (pv 0) pa_nil)) (pa_cons pe_int pa_nil))) pa_nil))) pa_nil)) (pg_name (i := 1) sc_law.nd rfl (Or.inl rfl)) (pss_cons (ps_set (i := 2) sc_law.nd rfl (Or.inl rfl) (pe_own c_pool hr (by decide) (by rfl) (pa_cons (pv 0) (pa_cons (pv 1) pa_nil))))
      (pss_cons (ps_set (i := 3) sc_law.nd rfl (Or.inl rfl) (pe_own c_ending_web hr (by decide) (by rfl) (pa_cons (pv 2) (pa_cons pe_int (pa_cons pe_int pa_nil)))))
      (pss_cons (ps_for PassesOwn.never rfl (pi_list (pe_lst (pa_cons (pv 3) (pa_cons (pe_own c_with_ties hr (by decide) (by rfl) (pa_cons (pv 2) (pa_cons (pv 3) pa_nil))) (pa_cons (pe_own c_with_ties hr (by decide) (by rfl) (pa_cons (pv 2) (pa_cons (pv 3) pa_nil))) pa_nil))))) (pg_name (i := 4) sc_law.nd rfl (Or.inl rfl)) (pss_cons (ps_set (i := 5) sc_law.nd rfl (Or.inl rfl) (pe_callB (call_reprD hg hr.units) (by rfl) B.repr (by decide +kernel) (pa_cons (pv 4) pa_nil)))
      (pss_cons (ps_set (i := 6) sc_law.nd rfl (Or.inl rfl) (pe_ownX takes0 c_is_ending hr (by decide) (by rfl) (pa_cons (pv 4) pa_nil)))
      (pss_one (ps_if (PW.pt (pw_or (pt_not (pt_val (pe_callB call_isi (by rfl) B.isinstance (by decide +kernel) (pa_cons (pv 6) (pa_cons (pe_bltn (v := .ty "bool") (u := .type "bool") (by rfl) B.bool (by decide +kernel) rfl) pa_nil))))) (pw_or (pt_cmpR op_ne (pv 6) (pe_own c_due hr (by decide) (by rfl) (pa_cons (pv 4) pa_nil)) (nomark _)) (pw_or1 (pt_cmpR op_ne (pe_callB (call_reprD hg hr.units) (by rfl) B.repr (by decide +kernel) (pa_cons (pv 4) pa_nil)) (pv 5) (nomark _)))))) (pss_one (ps_ret pe_bl)) pss_nil)))))
      (pss_one (ps_if (PW.pt (pw_or (pt_cmpR op_isnot_bl (pe_ownX takes0 c_is_ending hr (by decide) (by rfl) (pa_cons (pv 3) pa_nil)) pe_bl (nomark _)) (pw_or1 (pt_not (pt_val (pe_own c_refused hr (by decide) (by rfl) (pa_cons (pe_ix ix_list (pe_lst (pa_cons pe_non (pa_cons (pe_lst pa_nil) (pa_cons (pe_tupF pa_nil) (pa_cons pe_dnewK (pa_cons pe_str pa_nil)))))) (pe_own c_take hr (by decide) (by rfl) (pa_cons (pv 2) (pa_cons pe_int pa_nil))) (fun _ _ => rfl)) pa_nil))))))) (pss_one (ps_ret pe_bl)) pss_nil))))))
      (pss_cons (ps_setLc (i := 7) (own := [("_law_k", 1)]) (g := (gName 1)) (tt := tYes) (te := (tTupF (tCons (tTupF (tCons (tOp (rI (fun x j => 0 < j) fun i j => V.int (i % j)) (tVar 1) (tC (.int 9))) tNil)) (tCons (tTupF (tCons (tOp (rI0 fun i j => .int (i + j)) (tVar 1) (tC (.int 1))) tNil)) tNil)))) (by rfl) sc_law.nd rfl rfl (sw_true rfl rfl rfl (by decide +kernel)) (pi_range1 (by rfl) B.range (pa_cons pe_int pa_nil)) (blkOk_by (own := [("_law_k", 1)]) (N := ["_law_script", "_law_k", "_law_pool_here", "_law_plain_web", "_law_web", "_law_kept", "_law_found", "_law_row"]) (sc := defScope s_law) (by decide +kernel)) (fun _ _ _ _ _ => (pg_name (i := 1) sc_law.nd rfl (Or.inl rfl))) (fun _ _ _ _ _ => pts_nil) (fun _ _ _ _ _ => (pe_tupF (pa_cons (pe_tupF (pa_cons (pe_op op_mod (pv 1) pe_int) pa_nil)) (pa_cons (pe_tupF (pa_cons (pe_op op_add (pv 1) pe_int) pa_nil)) pa_nil)))))
      (pss_cons (ps_if (PW.pt (pw_or (pt_cmpR op_isnot_bl (pe_ownX takes0 c_is_ending hr (by decide) (by rfl) (pa_cons (pe_op op_cat (pv 7) (pe_lst (pa_cons (pe_tupF (pa_cons (pe_tupF pa_nil) (pa_cons (pe_tupF pa_nil) pa_nil))) pa_nil))) pa_nil)) pe_bl (nomark _)) (pw_or1 (pt_cmpR op_isnot_bl (pe_ownX takes0 c_is_ending hr (by decide) (by rfl) (pa_cons (pe_op op_cat (pv 7) (pe_lst (pa_cons (pe_tupF (pa_cons (pe_tupF pa_nil) (pa_cons (pe_tupF (pa_cons pe_int pa_nil)) pa_nil))) pa_nil))) pa_nil)) pe_bl (nomark _))))) (pss_one (ps_ret pe_bl)) pss_nil)
      (pss_one (ps_ret (pe_cmpR op_is_bl (pe_ownX takes0 c_is_ending hr (by decide) (by rfl) (pa_cons (pe_op op_cat (pe_slice sl_list (pv 7) po_none (po_some pe_int)) (pe_lst (pa_cons (pe_tupF (pa_cons (pe_tupF pa_nil) (pa_cons (pe_tupF pa_nil) pa_nil))) (pa_cons (pe_tupF (pa_cons (pe_tupF pa_nil) (pa_cons (pe_tupF (pa_cons pe_int pa_nil)) pa_nil))) pa_nil)))) pa_nil)) pe_bl (nomark _))))))), ?_⟩
    obtain ⟨m, hm, hm2⟩ : ∃ m : Nat, (if (if (6 : Int) < ((ns.map V.int).length : Int) then 6 else ((ns.map V.int).length : Int)) > 1 then (if (6 : Int) < ((ns.map V.int).length : Int) then 6 else ((ns.map V.int).length : Int)) else 1) = (m : Int) ∧ m ≤ 6 := by
      rw [List.length_map]
      refine ⟨(if (if (6 : Int) < (ns.length : Int) then 6 else (ns.length : Int)) > 1 then (if (6 : Int) < (ns.length : Int) then 6 else (ns.length : Int)) else 1).toNat, ?_, ?_⟩
      all_goals
        by_cases e1 : (6 : Int) < (ns.length : Int)
        · simp only [e1, if_true]
          decide
        · simp only [e1, if_false]
          split <;> omega
    refine ⟨_, rfl, a, _, rfl, .inl hS, _, _, rfl, _, _, rfl, ?_⟩
    refine ⟨(m : Int), congrArg (fun z => [V.int z]) hm, by omega, by omega, ?_⟩
    rw [show ((m : Int)).toNat = m by omega]
    refine for_range (lo := 0) (n := m) (fun i σ H2 => ∃ y1 y2 y3 y4 y5 y6 y7 : Option V, σ = [some (.ref a), y1, y2, y3, y4, y5, y6, y7] ∧ SqL K H2 a (ns.map V.int)) ?_ ?_ ?_
    · exact ⟨none, none, none, none, none, none, none, rfl, hS⟩
    · rintro i σ Hs hi ⟨y1, y2, y3, y4, y5, y6, y7, rfl, hSs⟩
      refine ⟨_, rfl, _, rfl, a, ns, _, rfl, hSs, by omega, by omega, fun p H1 s1 np hp1 => ?_⟩
      have back : ∀ {Hn : Hp}, Kept p H1 Hn → SqL K Hn a (ns.map V.int) := fun {Hn} k => Same.seq (fun b o e => k b o (s1 b o e) (ne_of_none e np)) hSs
      refine ⟨_, rfl, p, 9, 3, rfl, hp1, by decide, by decide, by decide, by decide, fun W H2 rs nW k2 hp2 hW ok fwd => ?_⟩
      have eWp : W ≠ p := pool_ne hp1 nW
      have kept : ∀ {A : Addr} {qs : List Rw} {Ha Hb : Hp}, A ≠ p → WebAt Ha A qs → Kept p Ha Hb → PoolAt Ha p → WebAt Hb A qs := fun n h k hp => by
        obtain ⟨ws, e, r⟩ := h
        exact ⟨ws, k _ _ e n, r.keep (K2.of k hp)⟩
      refine ⟨_, rfl, _, rfl, _, rfl, p, W, rs, rfl, hp2, eWp, hW, ok, fun U1 H3 q1 eU1 k3 hp3 hU1 okq1 => ?_⟩
      have hW3 := kept eWp hW k3 hp2
      refine ⟨_, rfl, _, rfl, p, W, rs, rfl, hp3, eWp, hW3, ok, fun U2 H4 q2 eU2 k4 hp4 hU2 okq2 => ?_⟩
      have hW4 := kept eWp hW3 k4 hp3
      have hU14 := kept eU1 hU1 k4 hp3
      refine ⟨(by show 3 ≤ sizeLine; decide), fun L nL => ?_⟩
      have sL := same_upd (o := .lst [V.ref W, V.ref U1, V.ref U2]) nL
      have hL := upd_same (H := H4) (a := L) (o := .lst [V.ref W, V.ref U1, V.ref U2])
      have things : ∀ x ∈ [V.ref W, V.ref U1, V.ref U2], ∃ A qs, x = V.ref A ∧ WebAt (upd H4 L (.lst [V.ref W, V.ref U1, V.ref U2])) A qs ∧ WebOk qs := by
        intro x hx
        simp only [List.mem_cons, List.not_mem_nil, or_false] at hx
        rcases hx with rfl | rfl | rfl
        · exact ⟨W, rs, rfl, hW4.same sL, ok⟩
        · exact ⟨U1, q1, rfl, hU14.same sL, okq1⟩
        · exact ⟨U2, q2, rfl, hU2.same sL, okq2⟩
      have k15 : Kept p H1 (upd H4 L (.lst [V.ref W, V.ref U1, V.ref U2])) := ((k2.trans k3).trans k4).trans (Kept.same sL)
      have hW5 := hW4.same sL
      have hp5 := hp4.same sL
      refine ⟨L, rfl, ⟨_, SqL.of hL⟩, ?_⟩
      generalize upd H4 L (.lst [V.ref W, V.ref U1, V.ref U2]) = H5 at hL things k15 hW5 hp5 ⊢
      refine for_list (K := K) (a := L) (xs := [V.ref W, V.ref U1, V.ref U2]) (fun j σ H6 => ∃ y4 y5 y6 y7 : Option V, σ = [some (.ref a), some (.int (0 + (i : Int))), some (.ref p), some (.ref W), y4, y5, y6, y7] ∧ Same H5 H6) ?_ ?_ ?_ ?_
      · exact ⟨_, _, _, _, rfl, Same.refl H5⟩
      · rintro j σ H6 _ ⟨_, _, _, _, _, s6⟩
        exact SqL.of (s6 _ _ hL)
      · rintro j x σ H6 hx ⟨y4, y5, y6, y7, rfl, s6⟩
        obtain ⟨A, qs, rfl, hA, okA⟩ := things x (List.mem_of_getElem? hx)
        have hA6 := hA.same s6
        refine ⟨_, rfl, A, _, 3, 300000, rfl, hA6.dp, okA.fine, by decide, by decide, ?_⟩
        refine ⟨_, rfl, _, rfl, .inl ⟨A, qs, rfl, hA6, okA, fun b H7 hb s7 => ?_⟩⟩
        refine ⟨_, rfl, .bl b, .ty "bool", .type "bool", .type "bool", true, rfl, .ty "bool", .base (.bl b), kit_ty (by decide +kernel), _, rfl, iteF ?_⟩
        refine ⟨_, rfl, _, rfl, A, qs, rfl, hA6.same s7, okA, fun b2 H8 hb2 s8 => ?_⟩
        have eb : b2 = b := by
          cases b <;> cases b2 <;> simp_all
        subst eb
        refine ⟨rfl, _, rfl, iteB (fun z => absurd z (by simp)) (fun _ => ?_)⟩
        refine ⟨_, rfl, A, _, 3, 300000, rfl, (hA6.same (s7.trans s8)).dp, okA.fine, by decide, by decide, _, rfl, rfl, _, rfl, iteNS rfl ?_⟩
        exact ⟨_, _, _, _, rfl, (s6.trans s7).trans s8⟩
      · rintro σ H6 ⟨y4, y5, y6, y7, rfl, s6⟩
        have hW6 := hW5.same s6
        have hp6 := hp5.same s6
        refine ⟨_, rfl, _, rfl, .inl ⟨W, rs, rfl, hW6, ok, fun b H7 hb s7 => ?_⟩⟩
        have eb : b = true := hb.mpr (fwd.ends ok)
        subst eb
        refine ⟨true, true, rfl, rfl, _, rfl, iteF ?_⟩
        have hp7 := hp6.same s7
        refine ⟨(by show 0 ≤ sizeLine; decide), fun e1 ne1 => ?_⟩
        have u1 := same_upd (o := .lst []) ne1
        have pe1 : e1 ≠ p := pool_ne hp7 ne1
        have he1 := upd_same (H := H7) (a := e1) (o := .lst [])
        refine ⟨(by show 0 ≤ sizeLine; decide), fun e2 H8 u2 ne2 pe2 => ?_⟩
        refine fun e3 ne3 => ?_
        have u3 := same_upd (o := .dK []) ne3
        have he3 := upd_same (H := H8) (a := e3) (o := .dK [])
        refine ⟨(by show 5 ≤ sizeLine; decide), fun Lo nLo => ?_⟩
        have u4 := same_upd (o := .lst [V.non, V.ref e1, V.ref e2, V.ref e3, V.str "web"]) nLo
        have hLo := upd_same (H := upd H8 e3 (.dK [])) (a := Lo) (o := .lst [V.non, V.ref e1, V.ref e2, V.ref e3, V.str "web"])
        have s8 := ((u1.trans u2).trans u3).trans u4
        have pLo : Lo ≠ p := pool_ne (hp7.same ((u1.trans u2).trans u3)) nLo
        have odd : ∀ v ∈ [V.non, V.ref e1, V.ref e2, V.ref e3, V.str "web"], ∃ (g : G) (r : Option Nat), Tg p (upd (upd H8 e3 (.dK [])) Lo (.lst [V.non, V.ref e1, V.ref e2, V.ref e3, V.str "web"])) v g ∧ lookG g = some r := by
          intro v hv
          simp only [List.mem_cons, List.not_mem_nil, or_false] at hv
          rcases hv with rfl | rfl | rfl | rfl | rfl
          · exact ⟨_, _, .non, rfl⟩
          · exact ⟨.lst [], none, .lst pe1 ((u2.trans (u3.trans u4)) _ _ he1) .nil, rfl⟩
          · exact ⟨.tup [], none, .tup (T2.same (.inl pe2) (u3.trans u4)) .nil, rfl⟩
          · exact ⟨.dct, none, .dct (u4 _ _ he3), rfl⟩
          · exact ⟨_, _, .str "web", rfl⟩
        have hp8 := hp7.same s8
        generalize upd (upd H8 e3 (.dK [])) Lo (.lst [V.non, V.ref e1, V.ref e2, V.ref e3, V.str "web"]) = H9 at hLo s8 odd hp8 ⊢
        refine ⟨_, rfl, p, 5, rfl, hp8, by decide, by decide, fun r2 o2 r20 r21 po2 => ?_⟩
        obtain ⟨v, hv, ev⟩ := cons_nil_fin (xs := [V.non, V.ref e1, V.ref e2, V.ref e3, V.str "web"]) 5 rfl r20 r21
        have k10 : Kept p H9 (upd H9 p o2) := Kept.upd p H9 o2
        obtain ⟨g, gr, tg, lk⟩ := odd v hv
        refine ⟨Lo, _, _, v, rfl, rfl, SqL.of (k10 _ _ hLo pLo), ev, ?_⟩
        refine ⟨v, p, g, gr, rfl, tg.keep (Keeps.of k10 hp8), lk, fun H11 s11 => ?_⟩
        refine ⟨_, rfl, iteF ?_⟩
        exact ⟨_, _, _, _, _, _, _, rfl, back (((k15.trans (Kept.same ((s6.trans s7).trans s8))).trans k10).trans (Kept.same s11))⟩
    · rintro σ H2 ⟨y1, y2, y3, y4, y5, y6, y7, rfl, _⟩
      refine ⟨79, rfl, by decide, by decide, fun D nD => ?_⟩
      refine lc_range (lo := 0) (n := 79) (fun j H3 => ∃ ws, H3 D = some (.lst ws) ∧ RowsAt H3 ws ((List.range j).map lineRow) ∧ Same H2 H3) ?_ ?_ ?_
      · exact ⟨[], upd_same, trivial, same_upd nD⟩
      · rintro j H3 hj ⟨ws, hD3, hrs, s3⟩
        have hwl := hrs.len
        rw [List.length_map, List.length_range] at hwl
        refine ⟨rfl, tyes ?_⟩
        refine ⟨_, rfl, _, _, rfl, rfl, (by show (0 : Int) < 9; decide), (by show 1 ≤ sizeLine; decide), fun u1 H4 s4 nu1 pu1 => ?_⟩
        refine ⟨_, rfl, _, _, rfl, rfl, (by show 1 ≤ sizeLine; decide), fun u2 H5 s5 nu2 pu2 => ?_⟩
        refine ⟨(by show 2 ≤ sizeLine; decide), fun t H7 s7 nt pt => ?_⟩
        have s37 : Same H3 H7 := (s4.trans s5).trans s7
        have hD7 := s37 _ _ hD3
        refine ⟨ws, hD7, small1000 (by omega), ws ++ [.ref t], upd_same, ?_, fun c o ec => ?_⟩
        · have kz : K2 H7 (upd H7 D (.lst (ws ++ [.ref t]))) := K2.lst hD7
          rw [List.range_succ, List.map_append]
          exact RowsAt.snoc (hrs.keep ((K2.same s37).trans kz)) ⟨t, u1, u2, rfl, kz _ _ (.inl pt), kz _ _ (T2.same (.inl pu1) (s5.trans s7)), kz _ _ (T2.same (.inl pu2) s7)⟩
        · rw [upd_ne (ne_of_none ec nD)]
          exact s37 _ _ (s3 _ _ ec)
      · rintro H3 ⟨ws, hD3, hrs, s3⟩
        have hwl : ws.length = 79 := hrs.len.trans (by decide +kernel)
        have hrs : RowsAt H3 ws (line 79) := hrs
        refine ⟨_, rfl, (by show 0 ≤ sizeLine; decide), fun a1 H4 u1 na1 pa1 => ?_⟩
        refine ⟨(by show 0 ≤ sizeLine; decide), fun a2 H5 u2 na2 pa2 => ?_⟩
        refine ⟨(by show 2 ≤ sizeLine; decide), fun a3 H6 u3 na3 pa3 => ?_⟩
        refine ⟨(by show 1 ≤ sizeLine; decide), fun d1 nd1 => ?_⟩
        have u4 := same_upd (o := .lst [V.ref a3]) nd1
        have s4 := ((u1.trans u2).trans u3).trans u4
        refine ⟨_, _, _, _, rfl, rfl, s4 _ _ hD3, upd_same, ?_, fun d2 nd2 => ?_⟩
        · exact Nat.le_of_lt (small1000 (by show _ + 1 ≤ 1000; omega))
        have u5 := same_upd (o := .lst (ws ++ [V.ref a3])) nd2
        have s5 := s4.trans u5
        have hw1 : WebAt (upd (upd H6 d1 (.lst [V.ref a3])) d2 (.lst (ws ++ [V.ref a3]))) d2 web1 := ⟨_, upd_same, RowsAt.snoc (hrs.keep (K2.same s5)) ⟨a3, a1, a2, rfl, T2.same (.inl pa3) (u4.trans u5), T2.same (.inl pa1) ((u2.trans u3).trans (u4.trans u5)), T2.same (.inl pa2) (u3.trans (u4.trans u5))⟩⟩
        refine ⟨_, rfl, .inl ⟨d2, web1, rfl, hw1, ok1, fun b H7 hb s7 => ?_⟩⟩
        have eb : b = true := hb.mpr end1
        subst eb
        refine ⟨true, true, rfl, rfl, _, rfl, iteF ?_⟩
        have s37 := s5.trans s7
        clear hw1
        refine ⟨_, rfl, (by show 0 ≤ sizeLine; decide), fun b1 H8 v1 nb1 pb1 => ?_⟩
        refine ⟨(by show 1 ≤ sizeLine; decide), fun b2 H9 v2 nb2 pb2 => ?_⟩
        refine ⟨(by show 2 ≤ sizeLine; decide), fun b3 H10 v3 nb3 pb3 => ?_⟩
        refine ⟨(by show 1 ≤ sizeLine; decide), fun d3 nd3 => ?_⟩
        have v4 := same_upd (o := .lst [V.ref b3]) nd3
        have s8 := ((v1.trans v2).trans v3).trans v4
        refine ⟨_, _, _, _, rfl, rfl, (s37.trans s8) _ _ hD3, upd_same, ?_, fun d4 nd4 => ?_⟩
        · exact Nat.le_of_lt (small1000 (by show _ + 1 ≤ 1000; omega))
        have v5 := same_upd (o := .lst (ws ++ [V.ref b3])) nd4
        have s9 := (s37.trans s8).trans v5
        have hw2 : WebAt (upd (upd H10 d3 (.lst [V.ref b3])) d4 (.lst (ws ++ [V.ref b3]))) d4 web2 := ⟨_, upd_same, RowsAt.snoc (hrs.keep (K2.same s9)) ⟨b3, b1, b2, rfl, T2.same (.inl pb3) (v4.trans v5), T2.same (.inl pb1) ((v2.trans v3).trans (v4.trans v5)), T2.same (.inl pb2) (v3.trans (v4.trans v5))⟩⟩
        refine ⟨_, rfl, .inl ⟨d4, web2, rfl, hw2, ok2, fun b H11 hb s11 => ?_⟩⟩
        have eb : b = false := by
          cases b with
          | false => rfl
          | true => exact absurd (hb.mp rfl) end2
        subst eb
        refine ⟨false, false, rfl, rfl, _, rfl, iteF ?_⟩
        have s311 := s9.trans s11
        clear hw2
        refine ⟨_, rfl, 78, rfl, D, ws, rfl, SqL.of (s311 _ _ hD3), fun d5 nd5 => ?_⟩
        rw [show cutV ws none (some 78) = ws.take 78 from cut_to ws 78]
        have x0 := same_upd (o := .lst (ws.take 78)) nd5
        refine ⟨(by show 0 ≤ sizeLine; decide), fun c1 H12 x1 nc1 pc1 => ?_⟩
        refine ⟨(by show 0 ≤ sizeLine; decide), fun c2 H13 x2 nc2 pc2 => ?_⟩
        refine ⟨(by show 2 ≤ sizeLine; decide), fun c3 H14 x3 nc3 pc3 => ?_⟩
        refine ⟨(by show 0 ≤ sizeLine; decide), fun c4 H15 x4 nc4 pc4 => ?_⟩
        refine ⟨(by show 1 ≤ sizeLine; decide), fun c5 H16 x5 nc5 pc5 => ?_⟩
        refine ⟨(by show 2 ≤ sizeLine; decide), fun c6 H17 x6 nc6 pc6 => ?_⟩
        refine ⟨(by show 2 ≤ sizeLine; decide), fun d6 nd6 => ?_⟩
        have x7 := same_upd (o := .lst [V.ref c3, V.ref c6]) nd6
        have z6 := x6.trans x7
        have z5 := x5.trans z6
        have z4 := x4.trans z5
        have z3 := x3.trans z4
        have z2 := x2.trans z3
        have z1 := x1.trans z2
        refine ⟨_, _, _, _, rfl, rfl, z1 _ _ upd_same, upd_same, ?_, fun d7 nd7 => ?_⟩
        · rw [List.length_take]
          exact Nat.le_of_lt (small1000 (by show _ + 2 ≤ 1000; omega))
        have x8 := same_upd (o := .lst (ws.take 78 ++ [V.ref c3, V.ref c6])) nd7
        have s17 := (s311.trans x0).trans (z1.trans x8)
        have r78 : RowsAt (upd (upd H17 d6 (.lst [V.ref c3, V.ref c6])) d7 (.lst (ws.take 78 ++ [V.ref c3, V.ref c6]))) (ws.take 78) (line 78) := by
          have z := RowsAt.take 78 (hrs.keep (K2.same s17))
          rw [line_take] at z
          exact z
        have hw3 : WebAt (upd (upd H17 d6 (.lst [V.ref c3, V.ref c6])) d7 (.lst (ws.take 78 ++ [V.ref c3, V.ref c6]))) d7 web3 := ⟨_, upd_same, RowsAt.app r78 ⟨⟨c3, c1, c2, rfl, T2.same (.inl pc3) (z4.trans x8), T2.same (.inl pc1) (z2.trans x8), T2.same (.inl pc2) (z3.trans x8)⟩, ⟨c6, c4, c5, rfl, T2.same (.inl pc6) (x7.trans x8), T2.same (.inl pc4) (z5.trans x8), T2.same (.inl pc5) (z6.trans x8)⟩, trivial⟩⟩
        refine ⟨_, rfl, .inl ⟨d7, web3, rfl, hw3, ok3, fun b H18 hb s18 => ?_⟩⟩
        have eb : b = true := hb.mpr end3
        subst eb
        exact ⟨true, true, rfl, rfl, q H18⟩
end
end Su
namespace Su
open PySem PySem.Spec PyProof.Rows L2
theorem at_mk {K : PySem.W.Frag} {h : Heap} {mg : Str → Option Value} {x : Str} {st : Stmt} {f : Addr} {fd : FuncData} {ps : List Str} (X : K.In h) (G : h.Ns mainGlobals mg) (a : PySem.W.nsIn K mainGlobals x = some (some (.ref f))) (F : Fun K x x st f fd) (b : Binds K fd ps []) : At K mg x st ps :=
  ⟨f, fd, F, PySem.W.mg_of X G a, b⟩
theorem all_mk {l : PySem.W.OpenLaw} {w : World} {K : PySem.W.Frag} {h : Heap} {mg : Str → Option Value} {fa f1 f2 f3 f4 f5 f6 f7 f8 f9 f10 f11 f12 f13 f14 f15 f16 f17 f18 f19 : Addr} {g1 g2 g3 : Tok} {C1 : Addr} {cdC1 : ClassData} {fI1 cda1 cc1 : Addr} {oc_1 doc_1 pm_1 ct_1 ccl1 cl_1 : Value} {od_1 an_1 cdd1 cld1 : Option Addr} {q_1 t_1 file1 : Str} {osl1 ccs1 csl1 : Array (Option Value)} {vs1 : Array Value} {tf1 : Tok} {p1_1 p2_1 r1_1 r2_1 r3_1 r4_1 r5_1 r6_1 q1_1 q2_1 q3_1 q4_1 : Pos} {C3 : Addr} (X : K.In h) (G : h.Ns mainGlobals mg) (hfa : mg "law" = some (.ref fa))
    {od1 an1 od2 an2 od3 an3 od4 an4 od5 an5 od6 an6 od7 an7 od8 an8 od9 an9 od10 an10 od11 an11 od12 an12 od13 an13 od14 an14 od15 an15 od16 an16 od17 an17 od18 an18 od19 an19 : Option Addr} {sl1 sl2 sl3 sl4 sl5 sl6 sl7 sl8 sl9 sl10 sl11 sl12 sl13 sl14 sl15 sl16 sl17 sl18 sl19 : Array (Option Value)} {oc1 kV1 dc1 pm1 cd1 ct1 oc2 kV2 dc2 pm2 cd2 ct2 oc3 kV3 dc3 pm3 cd3 ct3 oc4 kV4 dc4 pm4 cd4 ct4 oc5 kV5 dc5 pm5 cd5 ct5 oc6 kV6 dc6 pm6 cd6 ct6 oc7 kV7 dc7 pm7 cd7 ct7 oc8 kV8 dc8 pm8 cd8 ct8 oc9 kV9 dc9 pm9 cd9 ct9 oc10 kV10 dc10 pm10 cd10 ct10 oc11 kV11 dc11 pm11 cd11 ct11 oc12 kV12 dc12 pm12 cd12 ct12 oc13 kV13 dc13 pm13 cd13 ct13 oc14 kV14 dc14 pm14 cd14 ct14 oc15 kV15 dc15 pm15 cd15 ct15 oc16 kV16 dc16 pm16 cd16 ct16 oc17 kV17 dc17 pm17 cd17 ct17 oc18 kV18 dc18 pm18 cd18 ct18 oc19 kV19 dc19 pm19 cd19 ct19 : Value}
    (a1 : PySem.W.nsIn K mainGlobals "is_whole" = some (some (.ref f1))) (l1 : K.lookup f1 = some ⟨oc1, od1, .func (PySem.W.fnOf "is_whole" "is_whole" (defArgs s_is_whole) (defBody s_is_whole) (defScope s_is_whole) .none kV1 dc1 pm1 an1 cd1 ct1), sl1⟩) (c1 : PySem.W.codeIn K cd1 "is_whole" = true) (k1 : PySem.W.keepIn K (.ref f1) = true)
    (a2 : PySem.W.nsIn K mainGlobals "is_room" = some (some (.ref f2))) (l2 : K.lookup f2 = some ⟨oc2, od2, .func (PySem.W.fnOf "is_room" "is_room" (defArgs s_is_room) (defBody s_is_room) (defScope s_is_room) .none kV2 dc2 pm2 an2 cd2 ct2), sl2⟩) (c2 : PySem.W.codeIn K cd2 "is_room" = true) (k2 : PySem.W.keepIn K (.ref f2) = true)
    (a3 : PySem.W.nsIn K mainGlobals "are_rising" = some (some (.ref f3))) (l3 : K.lookup f3 = some ⟨oc3, od3, .func (PySem.W.fnOf "are_rising" "are_rising" (defArgs s_are_rising) (defBody s_are_rising) (defScope s_are_rising) .none kV3 dc3 pm3 an3 cd3 ct3), sl3⟩) (c3 : PySem.W.codeIn K cd3 "are_rising" = true) (k3 : PySem.W.keepIn K (.ref f3) = true)
    (a4 : PySem.W.nsIn K mainGlobals "are_rooms" = some (some (.ref f4))) (l4 : K.lookup f4 = some ⟨oc4, od4, .func (PySem.W.fnOf "are_rooms" "are_rooms" (defArgs s_are_rooms) (defBody s_are_rooms) (defScope s_are_rooms) .none kV4 dc4 pm4 an4 cd4 ct4), sl4⟩) (c4 : PySem.W.codeIn K cd4 "are_rooms" = true) (k4 : PySem.W.keepIn K (.ref f4) = true)
    (a5 : PySem.W.nsIn K mainGlobals "are_tos" = some (some (.ref f5))) (l5 : K.lookup f5 = some ⟨oc5, od5, .func (PySem.W.fnOf "are_tos" "are_tos" (defArgs s_are_tos) (defBody s_are_tos) (defScope s_are_tos) .none kV5 dc5 pm5 an5 cd5 ct5), sl5⟩) (c5 : PySem.W.codeIn K cd5 "are_tos" = true) (k5 : PySem.W.keepIn K (.ref f5) = true)
    (a6 : PySem.W.nsIn K mainGlobals "is_row" = some (some (.ref f6))) (l6 : K.lookup f6 = some ⟨oc6, od6, .func (PySem.W.fnOf "is_row" "is_row" (defArgs s_is_row) (defBody s_is_row) (defScope s_is_row) .none kV6 dc6 pm6 an6 cd6 ct6), sl6⟩) (c6 : PySem.W.codeIn K cd6 "is_row" = true) (k6 : PySem.W.keepIn K (.ref f6) = true)
    (a7 : PySem.W.nsIn K mainGlobals "rooms_in" = some (some (.ref f7))) (l7 : K.lookup f7 = some ⟨oc7, od7, .func (PySem.W.fnOf "rooms_in" "rooms_in" (defArgs s_rooms_in) (defBody s_rooms_in) (defScope s_rooms_in) .none kV7 dc7 pm7 an7 cd7 ct7), sl7⟩) (c7 : PySem.W.codeIn K cd7 "rooms_in" = true) (k7 : PySem.W.keepIn K (.ref f7) = true)
    (a8 : PySem.W.nsIn K mainGlobals "look_at_web" = some (some (.ref f8))) (l8 : K.lookup f8 = some ⟨oc8, od8, .func (PySem.W.fnOf "look_at_web" "look_at_web" (defArgs s_look_at_web) (defBody s_look_at_web) (defScope s_look_at_web) .none kV8 dc8 pm8 an8 cd8 ct8), sl8⟩) (c8 : PySem.W.codeIn K cd8 "look_at_web" = true) (k8 : PySem.W.keepIn K (.ref f8) = true)
    (a9 : PySem.W.nsIn K mainGlobals "ended_rows" = some (some (.ref f9))) (l9 : K.lookup f9 = some ⟨oc9, od9, .func (PySem.W.fnOf "ended_rows" "ended_rows" (defArgs s_ended_rows) (defBody s_ended_rows) (defScope s_ended_rows) .none kV9 dc9 pm9 an9 cd9 ct9), sl9⟩) (c9 : PySem.W.codeIn K cd9 "ended_rows" = true) (k9 : PySem.W.keepIn K (.ref f9) = true)
    (a10 : PySem.W.nsIn K mainGlobals "is_ending" = some (some (.ref f10))) (l10 : K.lookup f10 = some ⟨oc10, od10, .func (PySem.W.fnOf "is_ending" "is_ending" (defArgs s_is_ending) (defBody s_is_ending) (defScope s_is_ending) .none kV10 dc10 pm10 an10 cd10 ct10), sl10⟩) (c10 : PySem.W.codeIn K cd10 "is_ending" = true) (k10 : PySem.W.keepIn K (.ref f10) = true)
    (a11 : PySem.W.nsIn K mainGlobals "_law_pool" = some (some (.ref f11))) (l11 : K.lookup f11 = some ⟨oc11, od11, .func (PySem.W.fnOf "_law_pool" "_law_pool" (defArgs s_law_pool) (defBody s_law_pool) (defScope s_law_pool) .none kV11 dc11 pm11 an11 cd11 ct11), sl11⟩) (c11 : PySem.W.codeIn K cd11 "_law_pool" = true) (k11 : PySem.W.keepIn K (.ref f11) = true)
    (a12 : PySem.W.nsIn K mainGlobals "_law_take" = some (some (.ref f12))) (l12 : K.lookup f12 = some ⟨oc12, od12, .func (PySem.W.fnOf "_law_take" "_law_take" (defArgs s_law_take) (defBody s_law_take) (defScope s_law_take) .none kV12 dc12 pm12 an12 cd12 ct12), sl12⟩) (c12 : PySem.W.codeIn K cd12 "_law_take" = true) (k12 : PySem.W.keepIn K (.ref f12) = true)
    (a13 : PySem.W.nsIn K mainGlobals "_law_picked" = some (some (.ref f13))) (l13 : K.lookup f13 = some ⟨oc13, od13, .func (PySem.W.fnOf "_law_picked" "_law_picked" (defArgs s_law_picked) (defBody s_law_picked) (defScope s_law_picked) .none kV13 dc13 pm13 an13 cd13 ct13), sl13⟩) (c13 : PySem.W.codeIn K cd13 "_law_picked" = true) (k13 : PySem.W.keepIn K (.ref f13) = true)
    (a14 : PySem.W.nsIn K mainGlobals "_law_ending_web" = some (some (.ref f14))) (l14 : K.lookup f14 = some ⟨oc14, od14, .func (PySem.W.fnOf "_law_ending_web" "_law_ending_web" (defArgs s_law_ending_web) (defBody s_law_ending_web) (defScope s_law_ending_web) .none kV14 dc14 pm14 an14 cd14 ct14), sl14⟩) (c14 : PySem.W.codeIn K cd14 "_law_ending_web" = true) (k14 : PySem.W.keepIn K (.ref f14) = true)
    (a15 : PySem.W.nsIn K mainGlobals "_law_come_to" = some (some (.ref f15))) (l15 : K.lookup f15 = some ⟨oc15, od15, .func (PySem.W.fnOf "_law_come_to" "_law_come_to" (defArgs s_law_come_to) (defBody s_law_come_to) (defScope s_law_come_to) .none kV15 dc15 pm15 an15 cd15 ct15), sl15⟩) (c15 : PySem.W.codeIn K cd15 "_law_come_to" = true) (k15 : PySem.W.keepIn K (.ref f15) = true)
    (a16 : PySem.W.nsIn K mainGlobals "_law_due" = some (some (.ref f16))) (l16 : K.lookup f16 = some ⟨oc16, od16, .func (PySem.W.fnOf "_law_due" "_law_due" (defArgs s_law_due) (defBody s_law_due) (defScope s_law_due) .none kV16 dc16 pm16 an16 cd16 ct16), sl16⟩) (c16 : PySem.W.codeIn K cd16 "_law_due" = true) (k16 : PySem.W.keepIn K (.ref f16) = true)
    (a17 : PySem.W.nsIn K mainGlobals "_law_with_ties" = some (some (.ref f17))) (l17 : K.lookup f17 = some ⟨oc17, od17, .func (PySem.W.fnOf "_law_with_ties" "_law_with_ties" (defArgs s_law_with_ties) (defBody s_law_with_ties) (defScope s_law_with_ties) .none kV17 dc17 pm17 an17 cd17 ct17), sl17⟩) (c17 : PySem.W.codeIn K cd17 "_law_with_ties" = true) (k17 : PySem.W.keepIn K (.ref f17) = true)
    (a18 : PySem.W.nsIn K mainGlobals "_law_refused" = some (some (.ref f18))) (l18 : K.lookup f18 = some ⟨oc18, od18, .func (PySem.W.fnOf "_law_refused" "_law_refused" (defArgs s_law_refused) (defBody s_law_refused) (defScope s_law_refused) .none kV18 dc18 pm18 an18 cd18 ct18), sl18⟩) (c18 : PySem.W.codeIn K cd18 "_law_refused" = true) (k18 : PySem.W.keepIn K (.ref f18) = true)
    (a19 : PySem.W.nsIn K mainGlobals "law" = some (some (.ref f19))) (l19 : K.lookup f19 = some ⟨oc19, od19, .func (PySem.W.fnOf "law" "law" (defArgs s_law) (defBody s_law) (defScope s_law) .none kV19 dc19 pm19 an19 cd19 ct19), sl19⟩) (c19 : PySem.W.codeIn K cd19 "law" = true) (k19 : PySem.W.keepIn K (.ref f19) = true)
    (m1 : PySem.W.nsIn K mainGlobals "LAST_ROOM" = some (some (.int 99 g1)))
    (m2 : PySem.W.nsIn K mainGlobals "MOST_ROWS" = some (some (.int 80 g2)))
    (m3 : PySem.W.nsIn K mainGlobals "MOST_ROOMS" = some (some (.int 12 g3)))
    (eg1 : PySem.W.nsIn K mainGlobals "NoWeb" = some (some (.ref C1)))
    (ek1 : PySem.W.keepIn K (.ref C1) = true)
    (ex1 : PySem.W.subIn K (.ref C1) (.type "BaseException") = some true)
    (et1 : PySem.W.typeIn K (.ref C1) = some (.type "type"))
    (ec1 : PySem.W.clsIn K C1 = some cdC1)
    (ga1 : PySem.W.findIn K (.ref C1) "__getattribute__" = some (some (.builtin "BaseException.__getattribute__")))
    (gg1 : PySem.W.findIn K (.ref C1) "__getattr__" = some none)
    (gc1 : PySem.W.findIn K (.ref C1) "__class__" = some (some (.builtin "object.__class__")))
    (mo1 : PySem.W.mroIn K C1 (.type "object") = some true)
    (ed1 : PySem.W.hasDictIn K C1 = true)
    (ei1 : PySem.W.excInitIn K C1 [.type "ValueError", .type "Exception", .type "BaseException", .type "object"] "ValueError.__new__" = true)
    (eo1 : PySem.W.excOver K C1 [.type "ValueError", .type "Exception", .type "BaseException", .type "object"] = true)
    (es1 : PySem.W.findIn K (.ref C1) "__setattr__" = some (some (.builtin "object.__setattr__")))
    (en1 : PySem.W.findIn K (.ref C1) "row" = some none)
    (ef1 : PySem.W.findIn K (.ref C1) "__init__" = some (some (.ref fI1)))
    (eh1 : PySem.W.isFn K (.ref fI1) = true)
    (ev1 : PySem.W.subIn K (.ref C1) (.type "ValueError") = some true)
    (eu1 : PySem.W.ks_superIn K C1 C1 "__init__" = some (some (.builtin "ValueError.__init__")))
    (em1 : PySem.W.mroIn K C1 (.ref C1) = some true)
    (el1 : K.lookup fI1 = some ⟨oc_1, od_1, .func (PySem.W.ksFn "__init__" q_1 (XC.inA "row" p1_1 p2_1) (XC.inB "row" t_1 r1_1 r2_1 r3_1 r4_1 r5_1 r6_1 q1_1 q2_1 q3_1 q4_1) (XC.inS "row") .none .none doc_1 pm_1 an_1 (.ref cda1) ct_1 cc1), osl1⟩)
    (eq1 : PySem.W.codeIn K (.ref cda1) q_1 = true)
    (ew1 : K.lookup cda1 = some ⟨ccl1, cdd1, .fields vs1, ccs1⟩)
    (ey1 : vs1[2]? = some (.str file1 tf1))
    (ez1 : ((l.prog.main.file : Str) == file1) = true)
    (ea1 : (r3_1.endLine == r5_1.line) = true)
    (eb1 : K.lookup cc1 = some ⟨cl_1, cld1, .cell (some (.ref C1)), csl1⟩)
    (eg3 : PySem.W.nsIn K mainGlobals "HandError" = some (some (.ref C3)))
    (spG : PySem.W.specialIn K (.builtin "object.__class__") "__get__" = some (some (.builtin "getset_descriptor.__get__")))
    (tkG : PySem.W.takesIn K (.builtin "object.__class__") = some true)
    (nsG : PySem.W.nsIn K mainGlobals "super" = some none)
    (opG : PySem.W.nsIn K cStatics "thirdparty.any" = some none)
    (ntG : (l.prog.main.scope.names.lookup ("super" : Str)).isSome = false)
    (xw : PySem.W.exmOne K (.ref C1) (.ref C3) = some true)
    (iww : PySem.W.kitOne K (.ref C1) (.ref C1) = some true)
    (z1 : PySem.W.nsIn K mainGlobals "len" = some none) (z2 : PySem.W.nsIn K mainGlobals "sum" = some none) (z3 : PySem.W.nsIn K mainGlobals "abs" = some none) (z4 : PySem.W.nsIn K mainGlobals "int" = some none) (z5 : PySem.W.nsIn K mainGlobals "min" = some none) (z6 : PySem.W.nsIn K mainGlobals "max" = some none) (z7 : PySem.W.nsIn K mainGlobals "range" = some none) (z8 : PySem.W.nsIn K mainGlobals "sorted" = some none) (z9 : PySem.W.nsIn K mainGlobals "list" = some none) (z10 : PySem.W.nsIn K mainGlobals "tuple" = some none) (z11 : PySem.W.nsIn K mainGlobals "repr" = some none) (z12 : PySem.W.nsIn K mainGlobals "set" = some none) (z13 : PySem.W.nsIn K mainGlobals "all" = some none) (z14 : PySem.W.nsIn K mainGlobals "isinstance" = some none) (z15 : PySem.W.nsIn K mainGlobals "str" = some none) (z16 : PySem.W.nsIn K mainGlobals "bool" = some none) (z17 : PySem.W.nsIn K mainGlobals "reversed" = some none) (z18 : PySem.W.nsIn K mainGlobals "enumerate" = some none) (z19 : PySem.W.nsIn K mainGlobals "zip" = some none) (z20 : PySem.W.nsIn K mainGlobals "any" = some none) (z21 : PySem.W.nsIn K mainGlobals "dict" = some none) :
    ∃ fd : FuncData, (∀ (s : Shared) (v : Value), BindsTo s fd ⟨[v], []⟩ [("_law_script", v)]) ∧ ∀ base : Heap, K.In base → base.Ns mainGlobals mg → FnG l.prog w K mg base CX0 8 fa fd ["_law_script"] (spLaw K) := by
  have e := hfa.symm.trans (PySem.W.mg_of X G a19)
  cases e
  have B : Bt mg := ⟨PySem.W.mg_none_of X G z1, PySem.W.mg_none_of X G z2, PySem.W.mg_none_of X G z3, PySem.W.mg_none_of X G z4, PySem.W.mg_none_of X G z5, PySem.W.mg_none_of X G z6, PySem.W.mg_none_of X G z7, PySem.W.mg_none_of X G z8, PySem.W.mg_none_of X G z9, PySem.W.mg_none_of X G z10, PySem.W.mg_none_of X G z11, PySem.W.mg_none_of X G z12, PySem.W.mg_none_of X G z13, PySem.W.mg_none_of X G z14, PySem.W.mg_none_of X G z15, PySem.W.mg_none_of X G z16, PySem.W.mg_none_of X G z17, PySem.W.mg_none_of X G z18, PySem.W.mg_none_of X G z19, PySem.W.mg_none_of X G z20, PySem.W.mg_none_of X G z21⟩
  have F1 := fun_mk (st := s_is_whole) l1 c1 k1
  have b1 := F1.binds (ps := ["thing"]) fun _ _ _ _ _ _ us hl => match us, hl with | [_], _ => rfl
  have T1 := at_mk X G a1 F1 b1
  have F2 := fun_mk (st := s_is_room) l2 c2 k2
  have b2 := F2.binds (ps := ["thing"]) fun _ _ _ _ _ _ us hl => match us, hl with | [_], _ => rfl
  have T2 := at_mk X G a2 F2 b2
  have F3 := fun_mk (st := s_are_rising) l3 c3 k3
  have b3 := F3.binds (ps := ["numbers"]) fun _ _ _ _ _ _ us hl => match us, hl with | [_], _ => rfl
  have T3 := at_mk X G a3 F3 b3
  have F4 := fun_mk (st := s_are_rooms) l4 c4 k4
  have b4 := F4.binds (ps := ["thing", "least", "most"]) fun _ _ _ _ _ _ us hl => match us, hl with | [_, _, _], _ => rfl
  have T4 := at_mk X G a4 F4 b4
  have F5 := fun_mk (st := s_are_tos) l5 c5 k5
  have b5 := F5.binds (ps := ["thing", "rows"]) fun _ _ _ _ _ _ us hl => match us, hl with | [_, _], _ => rfl
  have T5 := at_mk X G a5 F5 b5
  have F6 := fun_mk (st := s_is_row) l6 c6 k6
  have b6 := F6.binds (ps := ["thing", "rows"]) fun _ _ _ _ _ _ us hl => match us, hl with | [_, _], _ => rfl
  have T6 := at_mk X G a6 F6 b6
  have F7 := fun_mk (st := s_rooms_in) l7 c7 k7
  have b7 := F7.binds (ps := ["rows"]) fun _ _ _ _ _ _ us hl => match us, hl with | [_], _ => rfl
  have T7 := at_mk X G a7 F7 b7
  have F8 := fun_mk (st := s_look_at_web) l8 c8 k8
  have b8 := F8.binds (ps := ["thing"]) fun _ _ _ _ _ _ us hl => match us, hl with | [_], _ => rfl
  have T8 := at_mk X G a8 F8 b8
  have F9 := fun_mk (st := s_ended_rows) l9 c9 k9
  have b9 := F9.binds (ps := ["web"]) fun _ _ _ _ _ _ us hl => match us, hl with | [_], _ => rfl
  have T9 := at_mk X G a9 F9 b9
  have F10 := fun_mk (st := s_is_ending) l10 c10 k10
  have b10 := F10.binds (ps := ["web"]) fun _ _ _ _ _ _ us hl => match us, hl with | [_], _ => rfl
  have T10 := at_mk X G a10 F10 b10
  have F11 := fun_mk (st := s_law_pool) l11 c11 k11
  have b11 := F11.binds (ps := ["_law_script", "_law_k"]) fun _ _ _ _ _ _ us hl => match us, hl with | [_, _], _ => rfl
  have T11 := at_mk X G a11 F11 b11
  have F12 := fun_mk (st := s_law_take) l12 c12 k12
  have b12 := F12.binds (ps := ["_law_pool_here", "_law_many"]) fun _ _ _ _ _ _ us hl => match us, hl with | [_, _], _ => rfl
  have T12 := at_mk X G a12 F12 b12
  have F13 := fun_mk (st := s_law_picked) l13 c13 k13
  have b13 := F13.binds (ps := ["_law_pool_here", "_law_some", "_law_many"]) fun _ _ _ _ _ _ us hl => match us, hl with | [_, _, _], _ => rfl
  have T13 := at_mk X G a13 F13 b13
  have F14 := fun_mk (st := s_law_ending_web) l14 c14 k14
  have b14 := F14.binds (ps := ["_law_pool_here", "_law_most_rows", "_law_most_rooms"]) fun _ _ _ _ _ _ us hl => match us, hl with | [_, _, _], _ => rfl
  have T14 := at_mk X G a14 F14 b14
  have F15 := fun_mk (st := s_law_come_to) l15 c15 k15
  have b15 := F15.binds (ps := ["_law_web", "_law_first"]) fun _ _ _ _ _ _ us hl => match us, hl with | [_, _], _ => rfl
  have T15 := at_mk X G a15 F15 b15
  have F16 := fun_mk (st := s_law_due) l16 c16 k16
  have b16 := F16.binds (ps := ["_law_web"]) fun _ _ _ _ _ _ us hl => match us, hl with | [_], _ => rfl
  have T16 := at_mk X G a16 F16 b16
  have F17 := fun_mk (st := s_law_with_ties) l17 c17 k17
  have b17 := F17.binds (ps := ["_law_pool_here", "_law_web"]) fun _ _ _ _ _ _ us hl => match us, hl with | [_, _], _ => rfl
  have T17 := at_mk X G a17 F17 b17
  have F18 := fun_mk (st := s_law_refused) l18 c18 k18
  have b18 := F18.binds (ps := ["_law_thing"]) fun _ _ _ _ _ _ us hl => match us, hl with | [_], _ => rfl
  have T18 := at_mk X G a18 F18 b18
  have F19 := fun_mk (st := s_law) l19 c19 k19
  refine ⟨PySem.W.fnOf "law" "law" (defArgs s_law) (defBody s_law) (defScope s_law) .none kV19 dc19 pm19 an19 cd19 ct19, fun s v => .of_eq rfl, fun base _ _ => ?_⟩
  have O1 : XC.Own l.prog K mg "NoWeb" "row" C1 fI1 "ValueError" "ValueError.__new__" "ValueError.__init__" [.type "ValueError", .type "Exception", .type "BaseException", .type "object"] := ⟨XC.fld_row, PySem.W.mg_of X G eg1, ei1, eo1, PySem.F.excBase_ValueError, PySem.F.store_ValueError, PySem.W.kxs_ValueError, es1, en1, ef1, eh1, ek1, ex1, et1, ed1, ev1, eu1, em1, PySem.W.mg_none_of X G nsG, opG, ntG, _, _, _, _, _, _, _, _, _, _, _, _, _, _, _, _, _, _, _, _, _, _, _, _, _, _, _, _, _, _, _, _, el1, eq1, ew1, ey1, ez1, ea1, eb1⟩
  have EE : ErrE K mg C1 C3 := ⟨PySem.W.mg_of X G eg3, xw, PySem.W.mg_of X G eg1, ⟨by rw [ec1]; rfl, ga1, gg1, ex1, gc1, spG, tkG, mo1, ed1⟩, iww⟩
  have D : GbW mg := ⟨⟨_, PySem.W.mg_of X G m1⟩, ⟨_, PySem.W.mg_of X G m2⟩, ⟨_, PySem.W.mg_of X G m3⟩⟩
  have v1 := ok_whole (P := l.prog) (w := w) (base := base) T1 B
  have v2 := ok_room (P := l.prog) (w := w) (base := base) T2 D v1
  have v3 := ok_rising (P := l.prog) (w := w) (base := base) T3 B
  have v4 := ok_row (P := l.prog) (w := w) (base := base) T6 B (ok_rooms T4 B v2 v3) (ok_tos T5 B v1 v3)
  have v5 := ok_rooms_in (P := l.prog) (w := w) (base := base) T7 B
  have v6 := ok_look (P := l.prog) (w := w) (base := base) O1 T8 B D v4 v5
  have v7 := ok_ending (P := l.prog) (w := w) (base := base) T10 v6 (ok_ended T9 B)
  have t1 := ok_take (P := l.prog) (w := w) (base := base) T12
  have t2 := ok_picked (P := l.prog) (w := w) (base := base) T13 B t1
  have t3 := ok_come (P := l.prog) (w := w) (base := base) T15 B
  exact ok_law F19 B ⟨ok_pool T11 B, t1, ok_eweb T14 B t1 t2, ok_ties T17 B t1, v7, ok_due T16 B t3, ok_refused EE T18 B v7⟩
end Su
open PySem PySem.W PyProof.Rows
set_option maxRecDepth 100000 in
set_option maxHeartbeats 0 in
theorem PySem.Challenge.cw_surehand_k53_webs_that_end_holds : PySem.Challenge.rw_surehand_k53_webs_that_end.Holds := by
  w_on; o_law; k_head; (case hw => w_witness2)
  k_fill
  refine Su.walk_ofG (l := PySem.Challenge.rw_surehand_k53_webs_that_end) (n := 63) (k := 8) (x := "_law_script") (CX := L2.CX0) (sp := Su.spLaw) rfl (by decide) rfl ⟨rfl, by decide, by decide⟩ (fun w h Y => PySem.W.kIn_of Y) ?F (fun _ _ a ns hl hS => ⟨a, ns, rfl, hS, hl, fun _ => rfl⟩) (fun _ _ _ _ h => h)
  case F =>
    intro w mg fa h KX G hmg
    refine' Su.all_mk KX G hmg ?a1 ?l1 ?c1 ?k1 ?a2 ?l2 ?c2 ?k2 ?a3 ?l3 ?c3 ?k3 ?a4 ?l4 ?c4 ?k4 ?a5 ?l5 ?c5 ?k5 ?a6 ?l6 ?c6 ?k6 ?a7 ?l7 ?c7 ?k7 ?a8 ?l8 ?c8 ?k8 ?a9 ?l9 ?c9 ?k9 ?a10 ?l10 ?c10 ?k10 ?a11 ?l11 ?c11 ?k11 ?a12 ?l12 ?c12 ?k12 ?a13 ?l13 ?c13 ?k13 ?a14 ?l14 ?c14 ?k14 ?a15 ?l15 ?c15 ?k15 ?a16 ?l16 ?c16 ?k16 ?a17 ?l17 ?c17 ?k17 ?a18 ?l18 ?c18 ?k18 ?a19 ?l19 ?c19 ?k19 ?m1 ?m2 ?m3 ?eg1 ?ek1 ?ex1 ?et1 ?ec1 ?ga1 ?gg1 ?gc1 ?mo1 ?ed1 ?ei1 ?eo1 ?es1 ?en1 ?ef1 ?eh1 ?ev1 ?eu1 ?em1 ?el1 ?eq1 ?ew1 ?ey1 ?ez1 ?ea1 ?eb1 ?eg3 ?spG ?tkG ?nsG ?opG ?ntG ?xw ?iww ?z1 ?z2 ?z3 ?z4 ?z5 ?z6 ?z7 ?z8 ?z9 ?z10 ?z11 ?z12 ?z13 ?z14 ?z15 ?z16 ?z17 ?z18 ?z19 ?z20 ?z21
    (case a1 => k_is); (case l1 => k_is); (case c1 => k_is); (case k1 => k_is); (case a2 => k_is); (case l2 => k_is)
    (case c2 => k_is); (case k2 => k_is); (case a3 => k_is); (case l3 => k_is); (case c3 => k_is); (case k3 => k_is)
    (case a4 => k_is); (case l4 => k_is); (case c4 => k_is); (case k4 => k_is); (case a5 => k_is); (case l5 => k_is)
    (case c5 => k_is); (case k5 => k_is); (case a6 => k_is); (case l6 => k_is); (case c6 => k_is); (case k6 => k_is)
    (case a7 => k_is); (case l7 => k_is); (case c7 => k_is); (case k7 => k_is); (case a8 => k_is); (case l8 => k_is)
    (case c8 => k_is); (case k8 => k_is); (case a9 => k_is); (case l9 => k_is); (case c9 => k_is); (case k9 => k_is)
    (case a10 => k_is); (case l10 => k_is); (case c10 => k_is); (case k10 => k_is); (case a11 => k_is); (case l11 => k_is)
    (case c11 => k_is); (case k11 => k_is); (case a12 => k_is); (case l12 => k_is); (case c12 => k_is); (case k12 => k_is)
    (case a13 => k_is); (case l13 => k_is); (case c13 => k_is); (case k13 => k_is); (case a14 => k_is); (case l14 => k_is)
    (case c14 => k_is); (case k14 => k_is); (case a15 => k_is); (case l15 => k_is); (case c15 => k_is); (case k15 => k_is)
    (case a16 => k_is); (case l16 => k_is); (case c16 => k_is); (case k16 => k_is); (case a17 => k_is); (case l17 => k_is)
    (case c17 => k_is); (case k17 => k_is); (case a18 => k_is); (case l18 => k_is); (case c18 => k_is); (case k18 => k_is)
    (case a19 => k_is); (case l19 => k_is); (case c19 => k_is); (case k19 => k_is); (case m1 => k_is); (case m2 => k_is)
    (case m3 => k_is); (case eg1 => k_is); (case ek1 => k_is); (case ex1 => k_is); (case et1 => k_is); (case ec1 => k_is)
    (case ga1 => k_is); (case gg1 => k_is); (case gc1 => k_is); (case mo1 => k_is); (case ed1 => k_is); (case ei1 => kx_is)
    (case eo1 => kx_is); (case es1 => k_is); (case en1 => k_is); (case ef1 => k_is); (case eh1 => k_is); (case ev1 => k_is)
    (case eu1 => ks_is); (case em1 => k_is); (case el1 => k_is); (case eq1 => k_is); (case ew1 => k_is); (case ey1 => rfl)
    (case ez1 => first | rfl | decide +kernel); (case ea1 => first | rfl | decide +kernel); (case eb1 => k_is); (case eg3 => k_is); (case spG => k_is); (case tkG => k_is)
    (case nsG => k_is); (case opG => k_is); (case ntG => first | rfl | decide +kernel); (case xw => kts_exm); (case iww => kit_is); (case z1 => k_is)
    (case z2 => k_is); (case z3 => k_is); (case z4 => k_is); (case z5 => k_is); (case z6 => k_is); (case z7 => k_is)
    (case z8 => k_is); (case z9 => k_is); (case z10 => k_is); (case z11 => k_is); (case z12 => k_is); (case z13 => k_is)
    (case z14 => k_is); (case z15 => k_is); (case z16 => k_is); (case z17 => k_is); (case z18 => k_is); (case z19 => k_is)
    (case z20 => k_is); (case z21 => k_is)

import PyProof.Rows.All
import Wide.All
import OpenK.AllK
import Wide.FinOn
import HandS.ForMost
import HandS.SortInts
import HandS.TupAny
import HandS.Conv
import KE.KIndexOf
import PyProof.ReprRoads
import PyProof.ReprLen
import PySem.Challenge.RW_surehand_k02_asked_by_each_way
set_option Elab.async false
set_option linter.all false
set_option maxRecDepth 100000
set_option maxHeartbeats 4000000
/-! ### B0: what every law's text uses: a def by its name, calls, the end where nothing is being written out -/
namespace Su
open PySem PySem.Spec PyProof.Rows L2
/-- a def of the text stands under its name -/
structure At (K : PySem.W.Frag) (mg : Str → Option Value) (x : Str) (st : Stmt) (ps : List Str) : Prop where
  ex : ∃ (f : Addr) (fd : FuncData), Fun K x x st f fd ∧ mg x = some (.ref f) ∧ Binds K fd ps []
/-- a def that keeps a promise may be called by its name -/
structure Cal (P : Program) (w : World) (K : PySem.W.Frag) (mg : Str → Option Value) (base : Heap) (k : Nat) (x : Str) (ps : List Str) (sp : Sp) : Prop where
  ex : ∃ (f : Addr) (fd : FuncData), FnOk P w K mg base CX0 k f fd ps sp ∧ mg x = some (.ref f) ∧ PySem.W.keepIn K (.ref f) = true ∧ Binds K fd ps [] ∧ ∃ o : Obj, K.lookup f = some o ∧ o.data = .func fd
section
variable {P : Program} {w : World} {K : PySem.W.Frag} {mg : Str → Option Value} {base : Heap}
theorem cal_of {x : Str} {st : Stmt} {N ps : List Str} {k : Nat} {sp : Sp} (T : At K mg x st ps) (S : FnScope N ps (defScope st)) (len : ∀ vs H Q E, sp vs H Q E → vs.length = ps.length)
    (hb : ∀ (f : Addr) (cdv : Value) (A : Around) (outer : List Env) (s : Shared) (H : Hp) (vs : List V) (Q : VK) (E : XK), Room k (A.deeper (envOfC x (defScope st) s.heap.objs.size f cdv)) → sp vs H Q E →
      ∃ t, PSs (cxOf CX0 P w K mg base N x (defScope st) f cdv A outer s H E).nox (defBody st) t ∧ t { nx := fun _ H' => Q .non H', rt := Q } (start N vs) H) : Cal P w K mg base (k + 1) x ps sp := by
  obtain ⟨f, fd, F, hm, b⟩ := T.ex
  have z : ∃ o : Obj, K.lookup f = some o ∧ o.data = .func fd := by
    obtain ⟨oc, od, kV, doc, pm, an, cdv, ct, osl, _, lk, _⟩ := F.ex
    exact ⟨_, lk, rfl⟩
  exact ⟨f, fd, F.ok S len (fun cdv A outer s H vs Q E => hb f cdv A outer s H vs Q E), hm, F.kp, b, z⟩
end
section
variable {X : Cx} {k j : Nat} {x : Str} {ps : List Str} {sp : Sp} {p pos : Pos} {e : Expr} {es : List Expr} {t : TA}
theorem pe_own (C : Cal X.prog X.w X.K X.mg X.base k x ps sp) (hr : Room j X.A) (hk : k ≤ j) (hg : Gl X x) (ha : PA X (e :: es) t)
    (hdb : (x == ("__debug__" : Str)) = false := by decide) (he : starEach (e :: es) X.env = (false, eval e X.env) :: starEach es X.env := by rfl) (hpl : (backTo pos (starEach es X.env)).any (·.1) = false := by rfl) :
    PE X (.Call (.Name x p) (e :: es) [] pos) (tCall sp [] E0 t) := by
  obtain ⟨f, fd, F, hm, kp, b, _⟩ := C.ex
  exact pe_call F (hr.mono hk) hg hm kp b .nil (fun _ _ _ _ _ _ _ h => h.elim) ha hdb he hpl
theorem pe_own0 (C : Cal X.prog X.w X.K X.mg X.base k x ps sp) (hr : Room j X.A) (hk : k ≤ j) (hg : Gl X x) (hdb : (x == ("__debug__" : Str)) = false := by decide) :
    PE X (.Call (.Name x p) [] [] pos) (tCall sp [] E0 tNil) := by
  obtain ⟨f, fd, F, hm, kp, b, _⟩ := C.ex
  exact pe_call0 F (hr.mono hk) hg hm kp b .nil (fun _ _ _ _ _ _ _ h => h.elim) hdb
end
/-- the same promise, asked only where no object is being written out -/
structure FnG (P : Program) (w : World) (K : PySem.W.Frag) (mg : Str → Option Value) (base : Heap) (CX : CXT) (k : Nat) (f : Addr) (fd : FuncData) (ps : List Str) (sp : Sp) : Prop where
  len : ∀ vs H Q E, sp vs H Q E → vs.length = ps.length
  run : ∀ (A : Around) (outer : List Env) (s : Shared) (H : Hp) (args : Args) (us : List Value) (vs : List V) (Q : VK) (E : XK), A.guards = some [] → Room k A → Env0 P w K mg base A outer s H →
    BindsTo s fd args (ps.zip us) → Vals vs us → sp vs H Q E → codeAny (model P w) A (.call (.ref f) args) (CR CX outer P w H s Q E) s
theorem deeper_guards {A : Around} {e : Env} (h : A.guards = some []) : (A.deeper e).guards = some [] := by
  first
    | exact h
    | simpa [Around.deeper, Around.under, pushGuards, Code.guards, Code.isGuard] using h
theorem fnG_of {CX : CXT} {P : Program} {w : World} {K : PySem.W.Frag} {mg : Str → Option Value} {base : Heap} {k : Nat} {f : Addr} {nm ql : Str} {pr : Arguments} {bd : List Stmt} {sc : Scope} {dv kv dc pm cd ct oc : Value} {an od : Option Addr}
    {sl : Array (Option Value)} {N ps : List Str} {sp : Sp}
    (lk : K.lookup f = some ⟨oc, od, .func (PySem.W.fnOf nm ql pr bd sc dv kv dc pm an cd ct), sl⟩)
    (hcd : PySem.W.codeIn K cd ql = true) (S : FnScope N ps sc) (len : ∀ vs H Q E, sp vs H Q E → vs.length = ps.length)
    (hb : ∀ (A : Around) (outer : List Env) (s : Shared) (H : Hp) (vs : List V) (Q : VK) (E : XK), (A.deeper (envOfC ql sc s.heap.objs.size f cd)).guards = some [] → Room k (A.deeper (envOfC ql sc s.heap.objs.size f cd)) → sp vs H Q E →
      ∃ t, PSs (cxOf CX P w K mg base N ql sc f cd A outer s H E) bd t ∧ t { nx := fun _ H' => Q .non H', rt := Q } (start N vs) H) :
    FnG P w K mg base CX (k + 1) f (PySem.W.fnOf nm ql pr bd sc dv kv dc pm an cd ct) ps sp := by
  refine ⟨len, fun A outer s H args us vs Q E hgd hr e0 hbi rv hs => ?_⟩
  obtain ⟨t, ht, hq⟩ := hb A outer s H vs Q E (deeper_guards hgd) (hr.deeper _) hs
  -- the very same body, as a promise that asks for this surrounding alone
  have kin : K.In s.heap := e0.mod.kin.keeps fun b o z => (e0.bs b o z).1
  have nol : s.heap.NoLimit := e0.mod.nolimit.keeps fun b o z => (e0.bs b o z).1
  refine codeAny_call_function hr.depth (kin _ _ lk) rfl S.co S.gen rfl (PySem.W.codeRec_of kin hcd) (hbi _ _ _ _ ?_)
  refine wpAny_newFunctionEnv_cells S.kind (fun y hy => ?_) fun env he s1 x => ?_
  · rcases S.par y.1 (List.of_mem_zip (show (y.1, y.2) ∈ ps.zip us from hy)).1 with z | z
    · exact Or.inl z
    · exact Or.inr ⟨z, PySem.W.cellsFrom_some _ _ _ (Or.inl z)⟩
  · subst he
    refine ⟨nol.keeps x.toInCall.keep, codeAny_func (wpAny_mono (ht.run [] s1 (start N vs) H _ (inv_start S hr.hd e0 (len _ _ _ _ hs) rv x) hq) (fun fl s' z => ?_) fun _ _ z => z)⟩
    cases fl with
    | ret u =>
      obtain ⟨v, σ', H', J, r', q'⟩ := z
      exact ⟨v, H', J.os, J.bare, J.base, J.hok, r', q'⟩
    | next =>
      obtain ⟨σ', H', J, q'⟩ := z
      exact ⟨V.non, H', J.os, J.bare, J.base, J.hok, rfl, q'⟩
    | brk => exact (z.elim fun _ z => z.elim fun _ z => False.elim z.2)
    | cont => exact (z.elim fun _ z => z.elim fun _ z => False.elim z.2)
theorem hid_ns {h : Heap} {H : Hp} {b : Addr} {m : Str → Option Value} (no : ∀ (o : Obj) (es : Array DictEntry) (ep : Nat), h.get? b = some o → o.data = .dict es ep → H b = none) (n : h.Ns b m) : (hidT h H).Ns b m := by
  obtain ⟨o, es, ep, e, d, r⟩ := n
  exact ⟨o, es, ep, hidT_get e (no o es ep e d), d, r⟩
/-- the law's call, from a promise that is asked only where no object is being written out -/
theorem law_callG {P : Program} {w : World} {K : PySem.W.Frag} {mg mb : Str → Option Value} {CX : CXT} {k : Nat} {fa a : Addr} {fd : FuncData} {x : Str} {sp : Sp} {t : Shared} {vs : List Value} {ns : List Int}
    (KX : K.In t.heap) (g1 : t.heap.Ns mainGlobals mg) (g2 : t.heap.Ns builtinsNs mb) (g3 : ∀ y : Str, y ≠ "__name__" → mb y = bootBuiltins y) (g4 : t.heap.NoLimit) (g5 : t.gens = #[])
    (ha : t.heap.get? a = some { cls := .type "list", data := .seq vs.toArray }) (hi : IntsAre vs ns) (hl : ns.length ≤ sizeLine) (hr : Room k callerA)
    (F : ∀ bs : Heap, K.In bs → bs.Ns mainGlobals mg → FnG P w K mg bs CX k fa fd [x] sp) (hbi : ∀ (s : Shared) (u : Value), BindsTo s fd ⟨[u], []⟩ [(x, u)])
    (hsp : ∀ H : Hp, Only H → SqL K H a (ns.map V.int) → sp [.ref a] H (fun v _ => v = .bl true) fun _ _ _ => False)
    (hCX : ∀ H e s', CX [] H t (fun _ _ _ => False) e s' → False) :
    codeAny (model P w) callerA (.call (.ref fa) ⟨[.ref a], []⟩) (fun r s' => r = .ok (.ret (.bool true)) ∧ OldK t.heap s'.heap ∧ s'.os = t.os ∧ AllBare s'.gens) t := by
  have rv := vals_ints hi
  have main : ∀ H : Hp, Only H → SqL K H a (ns.map V.int) → HOk P w H t.heap → (∀ b, H b ≠ none → b = a) → (H a ≠ none → K.lookup a = none) →
      codeAny (model P w) callerA (.call (.ref fa) ⟨[.ref a], []⟩) (fun r s' => r = .ok (.ret (.bool true)) ∧ OldK t.heap s'.heap ∧ s'.os = t.os ∧ AllBare s'.gens) t := by
    intro H only hS hok one out
    have no : ∀ (b : Addr) (o : Obj) (es : Array DictEntry) (ep : Nat), t.heap.get? b = some o → o.data = .dict es ep → H b = none := by
      intro b o es ep e d
      cases z : H b with
      | none => rfl
      | some u =>
        obtain rfl : b = a := one b (by rw [z]; simp)
        rw [ha] at e
        cases e
        exact absurd d (by simp)
    have kb : K.In (hidT t.heap H) := by
      intro b o e
      refine hidT_get (KX b o e) ?_
      cases z : H b with
      | none => rfl
      | some u =>
        obtain rfl : b = a := one b (by rw [z]; simp)
        rw [out (by rw [z]; simp)] at e
        cases e
    have ng : (hidT t.heap H).Ns mainGlobals mg := hid_ns (no _) g1
    have md : Mod K mg (hidT t.heap H) := ⟨kb, ng, ⟨mb, hid_ns (no _) g2, g3⟩, g4.elim fun mc h => ⟨mc, hid_ns (no _) h.1, h.2⟩⟩
    have ev : Env0 P w K mg (hidT t.heap H) callerA [] t H :=
      ⟨rfl, md, fun b o e => of_hidT e, Nat.le_of_eq (hidT_size _ _), trivial, fun b z => (List.not_mem_nil z).elim, hok, .of_eq g5⟩
    refine codeAny_mono ((F _ kb ng).run callerA [] t H ⟨[.ref a], []⟩ [.ref a] [.ref a] _ _ rfl hr ev (hbi t (.ref a)) (.cons rfl .nil) (hsp H only hS)) fun r s' h => ?_
    match r, h with
    | .error e, h => exact (hCX H e s' h).elim
    | .ok .next, h => exact False.elim h
    | .ok .brk, h => exact False.elim h
    | .ok .cont, h => exact False.elim h
    | .ok (.ret u), h =>
      obtain ⟨v, H', os, bare, un, hok2, r2, q⟩ := h
      obtain rfl : v = .bl true := q
      obtain rfl : u = Value.bool true := r2
      refine ⟨rfl, OldK.of_keep fun b o e => ?_, os, bare⟩
      rcases only b with z | ⟨ob, xs, z⟩
      · exact un.keep b o e z (fun y => (List.not_mem_nil y).elim) (by simp)
      · have y1 := (hok b _ z).1
        have y2 := (hok2 b _ (un.frzs b ob _ z)).1
        rw [e] at y1
        cases y1
        exact y2
  cases hk : K.lookup a with
  | some o =>
    have e := KX a o hk
    rw [ha] at e
    cases e
    refine main (fun _ => none) (fun _ => .inl rfl) (.inr ⟨_, vs.toArray, _, hk, rfl, rfl, rfl, ?_, ?_⟩) (fun b u z => nomatch (show (none : Option HO) = some u from z)) (fun b z => absurd rfl z) fun z => absurd rfl z
    · rw [List.size_toArray, hi.length]
      exact hl
    · simpa using rv
  | none =>
    have at1 : (fun b => if b = a then some (HO.frz { cls := .type "list", data := .seq vs.toArray } (.lst (ns.map V.int))) else none : Hp) a = some (HO.frz { cls := .type "list", data := .seq vs.toArray } (.lst (ns.map V.int))) := if_pos rfl
    refine main (fun b => if b = a then some (.frz { cls := .type "list", data := .seq vs.toArray } (.lst (ns.map V.int))) else none) (fun b => ?_) (.inl (.inr ⟨_, at1⟩)) (fun b u z => ?_) (fun b z => ?_) fun _ => hk
    · by_cases e : b = a
      · exact .inr ⟨_, _, if_pos e⟩
      · exact .inl (if_neg e)
    · by_cases e : b = a
      · subst e
        have y := at1.symm.trans z
        cases y
        exact ⟨ha, by rw [List.length_map]; exact hl, vs, _, rv, ha⟩
      · exact nomatch ((if_neg e).symm.trans z)
    · by_cases e : b = a
      · exact e
      · exact absurd (if_neg e) z
theorem walk_ofG {l : PySem.W.OpenLaw} {n k : Nat} {q : Program} {loose : List Str} {XP : (Str → Option Value) → Heap → Prop} {YP : World → Heap → Prop} {d : DefRec} {K : Params → PySem.W.Frag} {CX : CXT} {sp : PySem.W.Frag → Sp} {x : Str}
    (hn : l.most = some n) (hn2 : n ≤ sizeLine) (hdf : d.params.defaults = []) (hr : Room k callerA) (hY : ∀ (w : World) (h : Heap), YP w h → (K w.params).In h)
    (F : ∀ (w : World) (mg : Str → Option Value) (fa : Addr) (h : Heap), (K w.params).In h → h.Ns mainGlobals mg → mg d.name = some (.ref fa) →
      ∃ fd : FuncData, (∀ (s : Shared) (u : Value), BindsTo s fd ⟨[u], []⟩ [(x, u)]) ∧
        ∀ bs : Heap, (K w.params).In bs → bs.Ns mainGlobals mg → FnG l.prog w (K w.params) mg bs CX k fa fd [x] (sp (K w.params)))
    (hsp : ∀ (K : PySem.W.Frag) (H : Hp) (a : Addr) (ns : List Int), ns.length ≤ n → SqL K H a (ns.map V.int) → sp K [.ref a] H (fun v _ => v = .bl true) fun _ _ _ => False)
    (hCX : ∀ (H : Hp) (s : Shared) (e : Value) (s' : Shared), CX [] H s (fun _ _ _ => False) e s' → False) :
    PySem.W.WalkO q loose XP YP l.row.toRowW d [] (fun f vs => PySem.call f vs) := by
  refine Att.attach_call hn hdf fun w s₀ t mg mb fa o pm cd doc a vs ns G Y ho hd hcd hmg hobj hints hlen hg => ?_
  have KX := hY w _ Y
  obtain ⟨fd, hb, hF⟩ := F w mg fa _ KX G.T.g hmg
  exact law_callG KX G.T.g G.T.b G.T.builtins G.T.nolimit hg hobj hints (Nat.le_trans hlen hn2) hr hF hb (fun H _ hS => hsp (K w.params) H a ns hlen hS) fun H e s' => hCX H t e s'
end Su
/-! ### B1: repr of data, t.index(n), a call by keywords alone, data that is small enough -/
namespace Su
open PySem PySem.Spec PyProof.Rows L2
/-- data of small numbers, of depth n at most, of weight m at most -/
structure Fine (d : PyData) (n m : Nat) : Prop where
  sh : d.showable = true
  nd : d.hasDict = false
  dp : d.depth ≤ n
  lv : d.leavesShort 13 = true
  wt : d.weight ≤ m
  cl : d.canLay0 = true
structure FineL (ds : List PyData) (n m : Nat) : Prop where
  sh : PyData.showableAll ds = true
  nd : PyData.hasDictAll ds = false
  dp : PyData.depthAll ds ≤ n
  lv : PyData.leavesShortAll 13 ds = true
  wt : PyData.weightAll ds ≤ m
  cl : PyData.canLayAll0 ds = true
theorem Fine.int {i : Int} (h1 : -1000000 ≤ i) (h2 : i ≤ 1000000) : Fine (.int i) 0 40 := by
  have hb : i.natAbs < 10 ^ 12 := by omega
  have e : i.natAbs < 2 ^ 20 := by omega
  have hl : i.natAbs.log2 < 39 := by
    by_cases z : i.natAbs = 0
    · rw [z]
      decide
    · exact (Nat.log2_lt z).mpr (by omega)
  refine ⟨?_, by simp [PyData.hasDict], by simp [PyData.depth], ?_, ?_, by first | rfl | simp [PyData.canLay0]⟩
  · simp only [PyData.showable, decide_eq_true_eq]
    omega
  · simp only [PyData.leavesShort, decide_eq_true_eq]
    exact PyData.shown_int_le hb
  · simp only [PyData.weight]
    split <;> omega
theorem Fine.bool (b : Bool) : Fine (.bool b) 0 0 := ⟨by simp [PyData.showable], by simp [PyData.hasDict], by simp [PyData.depth], by simp [PyData.leavesShort], by simp [PyData.weight], by first | rfl | simp [PyData.canLay0]⟩
theorem Fine.none : Fine .none 0 0 := ⟨by simp [PyData.showable], by simp [PyData.hasDict], by simp [PyData.depth], by simp [PyData.leavesShort], by simp [PyData.weight], by first | rfl | simp [PyData.canLay0]⟩
theorem FineL.nil {n : Nat} : FineL [] n 0 := ⟨by simp [PyData.showableAll], by simp [PyData.hasDictAll], by simp [PyData.depthAll], by simp [PyData.leavesShortAll], by simp [PyData.weightAll], by first | rfl | simp [PyData.canLayAll0]⟩
theorem FineL.cons {d : PyData} {ds : List PyData} {n m k : Nat} (h : Fine d n m) (t : FineL ds n k) : FineL (d :: ds) n (m + 1 + k) := by
  refine ⟨?_, ?_, ?_, ?_, ?_, ?_⟩
  · simp only [PyData.showableAll, h.sh, t.sh, Bool.and_self]
  · simp only [PyData.hasDictAll, h.nd, t.nd, Bool.or_self]
  · simp only [PyData.depthAll]
    have := h.dp
    have := t.dp
    omega
  · simp only [PyData.leavesShortAll, h.lv, t.lv, Bool.and_self]
  · simp only [PyData.weightAll]
    have := h.wt
    have := t.wt
    omega
  · simp only [PyData.canLayAll0, h.cl, t.cl, Bool.and_self]
theorem Fine.tuple {ds : List PyData} {n m : Nat} (t : FineL ds n m) : Fine (.tuple ds) (n + 1) m :=
  ⟨by simpa only [PyData.showable] using t.sh, by simpa only [PyData.hasDict] using t.nd, by simp only [PyData.depth]; have := t.dp; omega, by simpa only [PyData.leavesShort] using t.lv, by simpa only [PyData.weight] using t.wt, by simpa only [PyData.canLay0] using t.cl⟩
theorem Fine.list {ds : List PyData} {n m : Nat} (t : FineL ds n m) : Fine (.list ds) (n + 1) m :=
  ⟨by simpa only [PyData.showable] using t.sh, by simpa only [PyData.hasDict] using t.nd, by simp only [PyData.depth]; have := t.dp; omega, by simpa only [PyData.leavesShort] using t.lv, by simpa only [PyData.weight] using t.wt, by simpa only [PyData.canLay0] using t.cl⟩
theorem Fine.up {d : PyData} {n m n' m' : Nat} (h : Fine d n m) (a : n ≤ n') (b : m ≤ m') : Fine d n' m' := ⟨h.sh, h.nd, Nat.le_trans h.dp a, h.lv, Nat.le_trans h.wt b, h.cl⟩
theorem FineL.ints : ∀ ns : List Int, (∀ z ∈ ns, -1000000 ≤ z ∧ z ≤ 1000000) → FineL (ns.map PyData.int) 0 (41 * ns.length)
  | [], _ => FineL.nil
  | z :: ns, h => by
    have a := FineL.cons (Fine.int (h z List.mem_cons_self).1 (h z List.mem_cons_self).2) (FineL.ints ns fun y hy => h y (List.mem_cons_of_mem _ hy))
    have e : 40 + 1 + 41 * ns.length = 41 * (z :: ns).length := by
      rw [List.length_cons]
      omega
    rw [e] at a
    exact a
theorem Fine.len {d : PyData} {n m : Nat} (h : Fine d n m) (hm : m ≤ 1000000) : d.shown.length ≤ sizeLine := PyData.shown_fits (B := 13) (by decide) (by decide) h.lv (by have := h.wt; omega)
theorem Fine.shaped {d : PyData} {n m : Nat} (h : Fine d n m) (hn : n ≤ 64) : SeqAt.shaped d = true := by
  unfold SeqAt.shaped
  rw [h.cl, Bool.true_and, decide_eq_true_eq]
  exact Nat.le_trans h.dp hn
theorem Fine.eqv {d : PyData} {n m : Nat} (h : Fine d n m) : PyData.eqv d d = true := SeqAt.eqv_refl d h.cl
section
variable {X : Cx}
/-- repr(x), x a list or tuple of data -/
def rReprD (K : PySem.W.Frag) : List V → Hp → VK → Prop := fun xs H Q => ∃ (a : Addr) (d : PyData) (n m : Nat), xs = [.ref a] ∧ Dp K H (.ref a) d ∧ Fine d n m ∧ n ≤ 60 ∧ m ≤ 1000000 ∧ Q (.str d.shown) H
theorem call_reprD (hg : X.A.guards = some []) (hu : X.A.units + 64 < cLine) : CallR X (.builtin "repr") (rReprD X.K) := by
  intro pins s σ H xs us Q I r h
  obtain ⟨a, d, n, m, rfl, hd, hf, hn, hm, q⟩ := h
  rw [Vals.ref1 r]
  obtain ⟨as, rd⟩ := Dp.reads I d _ (.ref a) hd rfl
  refine repr_of_reads' rd hf.sh (PyData.noDict_hsm hf.nd) hg (by have := hf.dp; omega) (fun _ _ z => z) (fun h' u tk hk => ⟨.str d.shown, H, I.kept hk, ⟨u, rfl⟩, q⟩) (hf.len hm)
/-- t.index(n), t a tuple of ints that has n -/
def rTIndex (K : PySem.W.Frag) : V → List V → Hp → VK → Prop := fun x xs H Q => ∃ (p : Addr) (ns : List Int) (k : Int), x = .ref p ∧ xs = [.int k] ∧ SqT K H p (ns.map V.int) ∧ k ∈ ns ∧ Q (.int (ns.idxOf k : Nat)) H
theorem ints_of : ∀ {ns : List Int} {vs : List Value}, Vals (ns.map V.int) vs → IntsAre vs ns
  | [], _, r => by
    cases r
    exact .nil
  | n :: ns, _, r => by
    cases r with
    | cons r1 r2 =>
      obtain ⟨t, rfl⟩ := r1
      exact .cons _ _ (ints_of r2)
theorem mt_tindex : MtR X "tuple.index" (rTIndex X.K) := by
  intro pins s σ H x xs v us Q I rx rs h
  obtain ⟨p, ns, k, rfl, rfl, hq, hk, q⟩ := h
  cases rx
  obtain ⟨u, rfl, t, rfl⟩ := vals1 rs
  obtain ⟨its, r, pl, hz⟩ := I.tuple hq
  exact PySem.SeqAt.tuple_index_ints (l := p) (vs := its) pl (ints_of r) hk ⟨.int (ns.idxOf k : Nat), H, I.tok _, ⟨_, rfl⟩, q⟩
end
section
variable {X : Cx} {k j : Nat} {x : Str} {ps ks : List Str} {sp : Sp} {p pos : Pos} {kws : List Keyword} {tk : TA}
/-- a def that keeps a promise, called by keywords alone -/
structure KCal (P : Program) (w : World) (K : PySem.W.Frag) (mg : Str → Option Value) (base : Heap) (k : Nat) (x : Str) (ks : List Str) (gV : List V → List V → List V) (sp : Sp) : Prop where
  ex : ∃ (f : Addr) (fd : FuncData) (ps : List Str) (g : List Value → List Value → List Value), FnOk P w K mg base CX0 k f fd ps sp ∧ mg x = some (.ref f) ∧ PySem.W.keepIn K (.ref f) = true ∧ KBinds K fd ps ks g gV
variable {gV : List V → List V → List V}
def tKws (sp : Sp) (gV : List V → List V → List V) (tk : TA) : TE := fun σ H Q => tk σ H fun zs H2 => sp (gV [] zs) H2 Q E0
theorem pe_ownK (C : KCal X.prog X.w X.K X.mg X.base k x ks gV sp) (hr : Room j X.A) (hk : k ≤ j) (hg : Gl X x) (hkw : PK X kws tk)
    (hall : (backToKw pos (keywordEach kws X.env)).all (·.1.isSome) = true := by rfl) (hks : (backToKw pos (keywordEach kws X.env)).filterMap (·.1) = ks := by rfl) (hdb : (x == ("__debug__" : Str)) = false := by decide)
    (hpl : ((backTo pos (starEach [] X.env)).any (·.1) || (backToKw pos (keywordEach kws X.env)).any (·.1.isNone)) = false := by rfl) : PE X (.Call (.Name x p) [] kws pos) (tKws sp gV tk) := by
  obtain ⟨f, fd, ps, g, F, hm, kp, b⟩ := C.ex
  refine ⟨fun pins s σ H Q I h => ?_⟩
  refine wpAny_Call_Name_kw (ld_glob I hg hm ?_ hdb)
  refine PySem.W.callWith_KW0 (h₀ := X.base) I.ok.mod.kin kp hall (thn (hkw.run pos pins s σ H _ I h) fun ws s2 ⟨zs, H2, I2, rz, q2⟩ => ⟨I2.kIn, ?_⟩) hpl
  rw [hks]
  exact run_fnk F (hr.mono hk) b (fun _ _ _ _ _ _ _ z => z.elim) I2 .nil rz q2
end
end Su
/-! ### B2: tuples whose object is known to have no dict: their methods may be called -/
namespace Su
open PySem PySem.Spec PyProof.Rows L2
def PTup (H : Hp) (a : Addr) (xs : List V) : Prop := ∃ o : Obj, H a = some (.frz o (.tup xs)) ∧ o.dict = none
theorem PTup.sq {K : PySem.W.Frag} {H : Hp} {a : Addr} {xs : List V} (h : PTup H a xs) : SqT K H a xs := by
  obtain ⟨o, e, _⟩ := h
  exact .inl (.inr ⟨o, e⟩)
theorem PTup.same {H H' : Hp} {a : Addr} {xs : List V} (h : PTup H a xs) (s : Same H H') : PTup H' a xs := by
  obtain ⟨o, e, d⟩ := h
  exact ⟨o, s _ _ e, d⟩
theorem same_upd {H : Hp} {p : Addr} {o : HO} (h : H p = none) : Same H (upd H p o) := fun b x e => by
  rw [upd_ne (ne_of_none e h)]
  exact e
section
variable {X : Cx} {pins : List (Addr × Obj)} {σ : L2.St} {H : Hp} {s : Shared}
/-- a new tuple's object -/
abbrev tupO (its : List Value) : Obj := { cls := .type "tuple", data := .seq its.toArray }
theorem laidF {xs : List V} {its : List Value} (I : Inv X pins σ H s) (r : Vals xs its) (hz : xs.length ≤ sizeLine) (t' : Tok) :
    Inv X pins σ (upd H s.heap.objs.size (.frz (tupO its) (.tup xs))) { s with heap := s.heap.push (tupO its), toks := t' } := by
  refine I.laid (t' := t') (o := .frz (tupO its) (.tup xs)) (fun b ob q => Heap.get?_push_of_some _ q) (Nat.le_refl _) ?_
  exact ⟨Heap.get?_push_size _ rfl, hz, its, r, IsTup.new _ _⟩
theorem newF {xs : List V} {its : List Value} {Q : VK} (I : Inv X pins σ H s) (r : Vals xs its) (hz : xs.length ≤ sizeLine) (q : ∀ v H', Same H H' → H v = none → PTup H' v xs → Q (.ref v) H') (t' : Tok) :
    EP X pins σ Q (.ref s.heap.objs.size) { s with heap := s.heap.push (tupO its), toks := t' } :=
  have hf : H s.heap.objs.size = none := I.hok.fresh (Nat.le_refl _)
  ⟨.ref s.heap.objs.size, _, laidF I r hz t', rfl, q _ _ (same_upd hf) hf ⟨_, upd_same, rfl⟩⟩
end
section
variable {X : Cx} {es : List Expr} {t : TA} {pos : Pos}
def tTupF (t : TA) : TE := fun σ H Q => t σ H fun xs H1 => xs.length ≤ sizeLine ∧ ∀ v H', Same H1 H' → H1 v = none → PTup H' v xs → Q (.ref v) H'
theorem pe_tupF {x1} (h : PA X es t) : PE X (.Tuple es x1 pos) (tTupF t) := by
  refine ⟨fun pins s σ H Q I hq => ?_⟩
  refine wpAny_Tuple_spliced (thn (h.run pos pins s σ H _ I hq) fun us s1 ⟨xs, H1, I1, r, z, q⟩ => ⟨by rw [← r.length]; exact z, ?_⟩)
  exact newF I1 r z q s1.toks
def rTupL (K : PySem.W.Frag) : List V → Hp → VK → Prop := fun xs H Q => ∃ p ys, xs = [.ref p] ∧ SqL K H p ys ∧ ∀ v H', Same H H' → H v = none → PTup H' v ys → Q (.ref v) H'
theorem call_tupleF : CallR X (.type "tuple") (rTupL X.K) := by
  intro pins s σ H xs us Q I r h
  obtain ⟨p, ys, rfl, hq, q⟩ := h
  obtain ⟨u, rfl, rx⟩ := vals1 r
  cases rx
  obtain ⟨its, r', pl, hz⟩ := I.list hq
  have hlen := r'.length
  refine call_tuple_list pl.isList (fun h' kp => ?_) (by simp only [List.size_toArray] <;> omega)
  exact newF (s := { s with heap := h' }) (I.kept (t' := s.toks) kp) r' hz q s.toks
def rCatF : R2 := fun x y H Q => ∃ a b xs ys, x = .ref a ∧ y = .ref b ∧ PTup H a xs ∧ PTup H b ys ∧ xs.length + ys.length ≤ sizeLine ∧ ∀ v H', Same H H' → PTup H' v (xs ++ ys) → Q (.ref v) H'
theorem op_catF : OpR X (binaryOp .Add) rCatF := by
  intro pins s σ H x y v u Q I rx ry h
  obtain ⟨a, b, xs, ys, rfl, rfl, ha, hb, hz, q⟩ := h
  cases rx
  cases ry
  obtain ⟨its, r1, p1, _⟩ := I.tuple (ha.sq (K := X.K))
  obtain ⟨its2, r2, p2, _⟩ := I.tuple (hb.sq (K := X.K))
  by_cases hx : xs = []
  · subst hx
    cases r1
    exact cat_tup0 p1 p2 ⟨.ref b, H, I, rfl, q b H (Same.refl H) hb⟩
  · refine HT.cat_tup p1 p2 (fun z => hx (r1.nil_iff.mp z)) (fun z => ⟨.ref a, H, I, rfl, q a H (Same.refl H) ?_⟩) (fun z => ?_) (by rw [← r1.length, ← r2.length]; exact hz)
    · rw [r2.nil_iff.mp z, List.append_nil]
      exact ha
    · exact newF I (r1.append r2) (by rw [List.length_append]; exact hz) (fun v H' s' _ h => q v H' s' h) s.toks
def rSlF : V → Option Int → Option Int → Hp → VK → Prop := fun x lo hi H Q => ∃ a xs, x = .ref a ∧ PTup H a xs ∧ ∀ v H', Same H H' → PTup H' v (cutV xs lo hi) → Q (.ref v) H'
theorem sl_tupF : SlR X rSlF := by
  intro pins s σ H x v vl vu lo hi sl Q I rx hs pl pu h
  obtain ⟨a, xs, rfl, hx, q⟩ := h
  cases rx
  obtain ⟨its, r, ht, hz⟩ := I.tuple (hx.sq (K := X.K))
  have hlen : its.toArray.size = xs.length := by rw [List.size_toArray]; exact r.length.symm
  refine ⟨"tuple", _, PyProof.Rows.slot_tuple_getitem.lookup, ht.typeIs, ?_⟩
  by_cases hw : HT.sIx xs.length 0 lo = 0 ∧ HT.sIx xs.length xs.length hi = xs.length
  · refine getItem_tuple_whole ht hs pl pu (by rw [hlen]; exact hw) ⟨.ref a, H, I, rfl, q a H (Same.refl H) ?_⟩
    have z : cutV xs lo hi = xs := by
      unfold cutV
      rw [hw.1, hw.2, Nat.sub_zero, List.drop_zero, List.take_length]
    rw [z]
    exact hx
  · refine HT.getItem_tuple_cut ht hs pl pu (by rw [hlen]; exact hw) ?_ (by rw [hlen]; exact hz)
    rw [hlen]
    exact newF I ((r.drop (HT.sIx xs.length 0 lo)).take (HT.sIx xs.length xs.length hi - HT.sIx xs.length 0 lo)) (Nat.le_trans (cutV_length xs lo hi) hz) (fun v H' s' _ h => q v H' s' h) s.toks
/-- t.m(e, ..), t such a tuple -/
def tMT (r : V → List V → Hp → VK → Prop) (to : TE) (t : TA) : TE := fun σ H Q => to σ H fun x H1 => (∃ a xs, x = .ref a ∧ PTup H1 a xs) ∧ t σ H1 fun xs H2 => r x xs H2 Q
variable {o e : Expr} {to : TE} {name : Str} {apos cpos : Pos} {id : String} {r : V → List V → Hp → VK → Prop}
theorem pe_mT (slot : Slot "tuple" name id) (hty : typeOf (.builtin id) = pure (.type "method_descriptor")) (hm : MtR X id r) (ho : PE X o to) (ha : PA X (e :: es) t)
    (hbase : attributeBase o name X.env (eval o X.env) = eval o X.env := by rfl)
    (hfew : ((backTo cpos (starEach (e :: es) X.env)).all (fun x => !x.1) && (backToKw cpos (keywordEach [] X.env)).all (fun x => x.1.isSome) && decide ((e :: es).length + ([] : List Keyword).length + (if ([] : List Keyword).isEmpty then 0 else 1) < 30)) = true := by rfl)
    (hline : (apos.endLine == cpos.line) = true := by rfl) (hs : starEach (e :: es) X.env = (false, eval e X.env) :: starEach es X.env := by rfl) (hplain : (backTo cpos (starEach es X.env)).any (·.1) = false := by rfl) :
    PE X (.Call (.Attribute o name apos) (e :: es) [] cpos) (tMT r to t) := by
  refine ⟨fun pins s σ H Q I h => ?_⟩
  refine wpAny_Call_method_late hbase hfew hline rfl (thn (ho.run pins s σ H _ I h) fun v s1 ⟨x, H1, I1, r1, ⟨a, xs, ex, pt⟩, q1⟩ => ?_)
  subst ex
  cases r1
  obtain ⟨its, rv, tp, _⟩ := I1.tuple (pt.sq (K := X.K))
  obtain ⟨ob, eo, ed⟩ := pt
  have g1 := (I1.hok a _ eo).1
  refine ⟨"tuple", id, PySem.F.plainAttrs_tuple, slot, hty, tp.typeIs, fun b eb => ?_, ?_⟩
  · cases eb
    exact ⟨ob, g1, ed⟩
  have hA := ha.run cpos pins s1 σ H1 _ I1 q1
  rw [hs] at hA ⊢
  refine Calls.callWith_builtin (by show (false || (backTo cpos (starEach es X.env)).any (·.1)) = false; rw [hplain] <;> rfl) (Calls.evalArgs_plain ?_)
  exact thn hA fun us s2 ⟨vs, H2, I2, r2, q2⟩ => hm pins s2 σ H2 (.ref a) vs _ us Q I2 rfl r2 q2
end
end Su
namespace Su
open PySem PySem.Spec PyProof.Rows L2
def topS (i : Nat) : Stmt := PySem.Challenge.pw_surehand_k02_asked_by_each_way.main.body.getD i (.Pass ⟨0, 0, 0, 0⟩)
abbrev sPutFirst : Stmt := topS 1
abbrev sLed : Stmt := topS 2
abbrev sAway : Stmt := topS 3
abbrev sByTree : Stmt := topS 4
abbrev sAsked : Stmt := topS 5
abbrev sPool : Stmt := topS 7
abbrev sTake : Stmt := topS 8
abbrev sPicked : Stmt := topS 9
abbrev sPlaces : Stmt := topS 10
abbrev sSort : Stmt := topS 11
abbrev sBig : Stmt := topS 12
abbrev sCells : Stmt := topS 13
abbrev sMarks : Stmt := topS 14
abbrev sPath : Stmt := topS 15
abbrev sPointed : Stmt := topS 16
abbrev sBehind : Stmt := topS 17
abbrev sLaw : Stmt := topS 18
end Su
namespace Su
open PySem PySem.Spec PyProof.Rows L2
/-- the built-in names that the text does not bind -/
structure Bt (mg : Str → Option Value) : Prop where
  len : mg "len" = none
  sum : mg "sum" = none
  abs : mg "abs" = none
  int : mg "int" = none
  min : mg "min" = none
  max : mg "max" = none
  range : mg "range" = none
  sorted : mg "sorted" = none
  list : mg "list" = none
  tuple : mg "tuple" = none
  repr : mg "repr" = none
theorem cutV_ints (ns : List Int) (lo hi : Option Int) : ∃ ms : List Int, cutV (ns.map V.int) lo hi = ms.map V.int := by
  unfold cutV
  exact ⟨_, by rw [← List.map_drop, ← List.map_take]⟩
theorem atI_int {α : Type} {xs : List α} {i : Int} {v : α} (h0 : 0 ≤ i) (h : xs[i.toNat]? = some v) : atI xs i = some v := by
  have e := atI_nat h
  rw [Int.toNat_of_nonneg h0] at e
  exact e
theorem b01 (b : Bool) : -(2 ^ 64) < (if b = true then (1 : Int) else 0) ∧ (if b = true then (1 : Int) else 0) < 2 ^ 64 := by
  cases b <;> exact ⟨by decide, by decide⟩
/-! the pool -/
def PoolO (o : HO) : Prop := ∃ g m : Int, o = .lst [.int g, .int m] ∧ 0 ≤ g ∧ 0 ≤ m ∧ m < 2147483647
def PoolAt (H : Hp) (p : Addr) : Prop := ∃ o, H p = some o ∧ PoolO o
def spTake : Sp := fun vs H Q _ => ∃ (p : Addr) (many : Int), vs = [.ref p, .int many] ∧ PoolAt H p ∧ 1 ≤ many ∧ many < 1000000 ∧
  ∀ (r : Int) (o : HO), 0 ≤ r → r < many → PoolO o → Q (.int r) (upd H p o)
def spPool (K : PySem.W.Frag) : Sp := fun vs H Q _ => ∃ (a : Addr) (ns : List Int) (k : Int), vs = [.ref a, .int k] ∧ SqL K H a (ns.map V.int) ∧ 0 ≤ k ∧ k < 1000 ∧
  ∀ (p : Addr) (H' : Hp), Same H H' → H p = none → PoolAt H' p → Q (.ref p) H'
theorem scTake : FnScope ["_law_pool_here", "_law_many", "_law_found"] ["_law_pool_here", "_law_many"] (defScope sTake) := ⟨rfl, rfl, rfl, by decide +kernel, rfl, by decide +kernel, by decide +kernel⟩
theorem scPool : FnScope ["_law_script", "_law_k", "_law_cell", "_law_great", "_law_mixed"] ["_law_script", "_law_k"] (defScope sPool) := ⟨rfl, rfl, rfl, by decide +kernel, rfl, by decide +kernel, by decide +kernel⟩
section
variable {P : Program} {w : World} {K : PySem.W.Frag} {mg : Str → Option Value} {base : Heap}
theorem ok_take (T : At K mg "_law_take" sTake ["_law_pool_here", "_law_many"]) : Cal P w K mg base 1 "_law_take" ["_law_pool_here", "_law_many"] spTake := by
  refine cal_of T scTake (fun vs H Q E h => ?_) (fun f cdv A outer s H vs Q E hr h => ?_)
  · obtain ⟨p, many, rfl, _⟩ := h
    rfl
  · obtain ⟨p, many, rfl, ⟨o, hp, g, m, rfl, g0, m0, m1⟩, n1, n2, q⟩ := h
    refine ⟨_, (pss_cons (ps_if (pt_cmpR op_gt (pe_ix ix_list (pv 0) pe_int (fun _ _ => rfl)) pe_int (nomark _)) (pss_cons (ps_set (i := 2) scTake.nd rfl (Or.inl rfl) (pe_op op_mod (pe_ix ix_list (pv 0) pe_int (fun _ _ => rfl)) (pv 1)))
      (pss_cons (ps_asg (pe_op op_fdiv (pe_ix ix_list (pv 0) pe_int (fun _ _ => rfl)) (pv 1)) (pg_sub (pv 0) pe_int set_list))
      (pss_one (ps_ret (pv 2))))) pss_nil)
      (pss_cons (ps_asg (pe_op op_mod (pe_op op_add (pe_op op_mul (pe_ix ix_list (pv 0) pe_int (fun _ _ => rfl)) pe_int) pe_int) pe_int) (pg_sub (pv 0) pe_int set_list))
      (pss_one (ps_ret (pe_op op_mod (pe_op op_fdiv (pe_op op_mod (pe_op op_mul (pe_ix ix_list (pv 0) pe_int (fun _ _ => rfl)) (pe_ix ix_list (pv 0) pe_int (fun _ _ => rfl))) pe_int) pe_int) (pv 1)))))), ?_⟩
    refine ⟨_, rfl, p, _, _, _, rfl, rfl, SqL.of hp, atI_nat (j := 0) rfl, _, _, rfl, rfl, _, rfl, ite2 (fun e => ?_) (fun e => ?_)⟩
    · refine ⟨_, rfl, p, _, _, _, rfl, rfl, SqL.of hp, atI_nat (j := 0) rfl, _, rfl, _, _, rfl, rfl, (by omega), ?_⟩
      refine ⟨_, rfl, p, _, _, _, rfl, rfl, SqL.of hp, atI_nat (j := 0) rfl, _, rfl, _, _, rfl, rfl, ⟨by omega, by omega⟩, ?_⟩
      refine ⟨_, rfl, p, _, _, 0, rfl, rfl, hp, rfl, ?_⟩
      refine ⟨_, rfl, q _ _ (Int.emod_nonneg _ (by omega)) (Int.emod_lt_of_pos _ (by omega)) ⟨_, _, rfl, Int.ediv_nonneg g0 (by omega), m0, m1⟩⟩
    · refine ⟨_, rfl, p, _, _, _, rfl, rfl, SqL.of hp, atI_nat (j := 1) rfl, _, _, rfl, rfl, .inl ⟨by omega, by omega⟩, _, _, rfl, rfl, _, _, rfl, rfl, (by show (0 : Int) < 2147483647; decide), ?_⟩
      refine ⟨_, rfl, p, _, _, 1, rfl, rfl, hp, rfl, ?_⟩
      have e0 : 0 ≤ (m * 48271 + 11) % 2147483647 := Int.emod_nonneg _ (by decide)
      have e1 : (m * 48271 + 11) % 2147483647 < 2147483647 := Int.emod_lt_of_pos _ (by decide)
      refine ⟨_, rfl, p, _, _, _, rfl, rfl, SqL.of upd_same, atI_nat (j := 1) rfl, _, rfl, p, _, _, _, rfl, rfl, SqL.of upd_same, atI_nat (j := 1) rfl, _, _, rfl, rfl, .inl ⟨by omega, by omega⟩, _, _, rfl, rfl, (by show (0 : Int) < 2147483629; decide), _, _, rfl, rfl, ⟨by decide, by decide⟩, _, rfl, _, _, rfl, rfl, (by omega), ?_⟩
      exact q _ _ (Int.emod_nonneg _ (by omega)) (Int.emod_lt_of_pos _ (by omega)) ⟨_, _, rfl, g0, e0, e1⟩
theorem ok_pool (T : At K mg "_law_pool" sPool ["_law_script", "_law_k"]) (B : Bt mg) : Cal P w K mg base 1 "_law_pool" ["_law_script", "_law_k"] (spPool K) := by
  refine cal_of T scPool (fun vs H Q E h => ?_) (fun f cdv A outer s H vs Q E hr h => ?_)
  · obtain ⟨a, ns, k, rfl, _⟩ := h
    rfl
  · obtain ⟨a, ns, k, rfl, hS, k0, k1, q⟩ := h
    refine ⟨_, (pss_cons (ps_set (i := 2) scPool.nd rfl (Or.inl rfl) (pe_op op_add (pe_op op_mul pe_int (pe_callB (cr_sum rfl) (by rfl) B.sum (by decide +kernel) (pa_cons (pe_slice sl_list (pv 0) po_none (po_some pe_int)) pa_nil))) (pv 1)))
      (pss_cons (ps_if (pt_cmpR op_lt (pv 1) (pe_callB call_len_seq (by rfl) B.len PySem.boot_len (pa_cons (pv 0) pa_nil)) (nomark _)) (pss_one (ps_set (i := 2) scPool.nd rfl (Or.inl rfl) (pe_ix ix_list (pv 0) (pv 1) (fun _ _ => rfl)))) pss_nil)
      (pss_cons (ps_set (i := 3) scPool.nd rfl (Or.inl rfl) (pe_callB call_abs (by rfl) B.abs (by decide +kernel) (pa_cons (pv 2) pa_nil)))
      (pss_cons (ps_set (i := 4) scPool.nd rfl (Or.inl rfl) (pe_op op_mod (pe_op op_mul (pe_op op_add (pe_op op_add (pe_op op_add (pe_op op_mod (pv 3) pe_int) (pe_op op_mul (pe_op op_mul pe_int (pv 1)) (pv 1))) (pe_op op_mul pe_int (pv 1))) pe_int) pe_int) pe_int))
      (pss_one (ps_ret (pe_lst (pa_cons (pe_op op_mul (pv 3) (pe_callTy call_int1 (by rfl) B.int (by decide +kernel) (pa_cons (pe_cmpR op_ge (pv 3) (pe_op op_pow pe_int pe_int) (nomark _)) pa_nil))) (pa_cons (pe_op op_mod (pe_op op_mul (pv 4) (pv 4)) pe_int) pa_nil))))))))), ?_⟩
    obtain ⟨ms, ems⟩ := cutV_ints ns none (some 63)
    refine ⟨_, rfl, 63, rfl, a, _, rfl, hS, fun c nc => ?_⟩
    rw [ems]
    have s1 : Same H (upd H c (.lst (ms.map V.int))) := same_upd nc
    refine ⟨c, ms, rfl, SqL.of upd_same, _, _, rfl, rfl, .inl ⟨by decide, by decide⟩, _, rfl, _, _, rfl, rfl, ?_⟩
    refine ⟨_, rfl, _, rfl, a, _, rfl, .inl (s1.seq hS), _, _, rfl, rfl, _, rfl, ite2 (fun e => ?_) (fun e => ?_)⟩
    rw [decide_eq_true_eq, List.length_map] at e
    obtain ⟨z, g⟩ : ∃ z : Int, atI (ns.map V.int) k = some (V.int z) := by
      have hk : k.toNat < ns.length := by omega
      exact ⟨_, atI_int (v := V.int ns[k.toNat]) k0 (by rw [List.getElem?_map, List.getElem?_eq_getElem hk]; rfl)⟩
    refine ⟨_, rfl, _, rfl, a, _, k, .int z, rfl, rfl, s1.seq hS, g, ?_⟩
    all_goals
      refine ⟨_, rfl, _, rfl, ?_⟩
      refine ⟨_, rfl, _, _, rfl, rfl, (by show (0 : Int) < 2147483629; decide), _, rfl, _, _, rfl, rfl, .inl ⟨by decide, by decide⟩, _, rfl, _, _, rfl, rfl, .inr ⟨by omega, by omega⟩, _, _, rfl, rfl, _, rfl, _, _, rfl, rfl, .inl ⟨by decide, by decide⟩, _, _, rfl, rfl, _, _, rfl, rfl, _, _, rfl, rfl, .inr ⟨by decide, by decide⟩, _, _, rfl, rfl, (by show (0 : Int) < 2147483647; decide), ?_⟩
      refine ⟨_, rfl, _, rfl, _, _, rfl, rfl, ⟨by decide, by decide, by decide⟩, _, _, rfl, rfl, .inr ⟨_, rfl, _, _, rfl, rfl, .inr ?_, ?_⟩⟩
      · exact b01 _
      refine ⟨_, rfl, _, rfl, _, _, rfl, rfl, .inl ?_, _, _, rfl, rfl, (by show (0 : Int) < 2147483629; decide), (by show 2 ≤ sizeLine; decide), fun p np => ?_⟩
      · refine ⟨Int.lt_of_lt_of_le (by decide) (Int.emod_nonneg _ (by decide)), Int.lt_trans (Int.emod_lt_of_pos _ (by decide)) (by decide)⟩
      refine q p _ (s1.trans (same_upd np)) (s1.free np) ⟨_, upd_same, _, _, rfl, ?_, Int.emod_nonneg _ (by decide), Int.lt_trans (Int.emod_lt_of_pos _ (by decide)) (by decide)⟩
      refine Int.mul_nonneg ?_ ?_ <;> split <;> omega
end
end Su
namespace Su
open PySem PySem.Spec PyProof.Rows L2
/-- all but what stands at p is as it was -/
def Kept (p : Addr) (H H' : Hp) : Prop := ∀ b o, H b = some o → b ≠ p → H' b = some o
theorem Kept.refl (p : Addr) (H : Hp) : Kept p H H := fun _ _ h _ => h
theorem Kept.trans {p : Addr} {H H1 H2 : Hp} (a : Kept p H H1) (b : Kept p H1 H2) : Kept p H H2 := fun c o h n => b c o (a c o h n) n
theorem Kept.same {p : Addr} {H H1 : Hp} (a : Same H H1) : Kept p H H1 := fun c o h _ => a c o h
theorem Kept.upd (p : Addr) (H : Hp) (o : HO) : Kept p H (upd H p o) := fun b x e n => by
  rw [upd_ne n]
  exact e
theorem Kept.set {p b : Addr} {H H1 : Hp} {o : HO} (a : Kept p H H1) (hb : H b = none) : Kept p H (L2.upd H1 b o) := fun c x e n => by
  rw [upd_ne (ne_of_none e hb)]
  exact a c x e n
theorem Kept.free {p b : Addr} {H H' : Hp} (a : Kept p H H') (n : b ≠ p) (h : H' b = none) : H b = none := by
  cases z : H b with
  | none => rfl
  | some o =>
    rw [a b o z n] at h
    cases h
theorem pool_ne {H : Hp} {p b : Addr} (h : PoolAt H p) (n : H b = none) : b ≠ p := by
  obtain ⟨o, e, _⟩ := h
  exact (ne_of_none e n).symm
theorem PoolAt.upd {H : Hp} {p b : Addr} {o : HO} (h : PoolAt H p) (n : p ≠ b) : PoolAt (upd H b o) p := by
  obtain ⟨x, e, z⟩ := h
  exact ⟨x, by rw [upd_ne n]; exact e, z⟩
theorem PoolAt.same {H H' : Hp} {p : Addr} (h : PoolAt H p) (s : Same H H') : PoolAt H' p := by
  obtain ⟨o, e, z⟩ := h
  exact ⟨o, s _ _ e, z⟩
theorem PTup.kept {p a : Addr} {H H' : Hp} {xs : List V} (h : PTup H a xs) (k : Kept p H H') (hp : PoolAt H p) : PTup H' a xs := by
  obtain ⟨o, e, d⟩ := h
  obtain ⟨x, e2, g, m, rfl, _⟩ := hp
  refine ⟨o, k _ _ e (fun z => ?_), d⟩
  subst z
  rw [e] at e2
  cases e2
theorem seq_kept {K : PySem.W.Frag} {p a : Addr} {H H' : Hp} {xs : List V} (k : Kept p H H') (n : a ≠ p) (h : SqL K H a xs) : SqL K H' a xs := by
  rcases h with (h | ⟨o, h⟩) | h
  · exact .inl (.inl (k _ _ h n))
  · exact .inl (.inr ⟨o, k _ _ h n⟩)
  · exact .inr h
theorem tyes {σ : L2.St} {H : Hp} {A B : Hp → Prop} (h : A H) : tYes σ H (fun b H3 => if b = true then A H3 else B H3) := (iteT h : if true = true then A H else B H)
theorem erase_map (f : Int → V) : ∀ (l : List Int) (j : Nat), (l.map f).eraseIdx j = (l.eraseIdx j).map f
  | [], _ => rfl
  | _ :: _, 0 => rfl
  | x :: l, j + 1 => by
    show f x :: (l.map f).eraseIdx j = f x :: (l.eraseIdx j).map f
    rw [erase_map f l j]
theorem free_upd {H : Hp} {a b : Addr} {o : HO} (h : upd H a o b = none) : b ≠ a ∧ H b = none := by
  by_cases e : b = a
  · subst e
    rw [upd_same] at h
    cases h
  · rw [upd_ne e] at h
    exact ⟨e, h⟩
theorem seqIx {i : Int} {n : Nat} (h0 : 0 ≤ i) (h : i < n) : seqIndex? i n = some i.toNat :=
  (ixN_seq (n := n) (i := i) (j := i.toNat) (by unfold ixN; rw [if_pos h0, if_pos h])).1
theorem erase_perm : ∀ (l : List Int) (j : Nat) (y : Int), l[j]? = some y → (y :: l.eraseIdx j).Perm l
  | [], j, y, h => by simp at h
  | x :: l, 0, y, h => by
    have e : x = y := by simpa using h
    rw [e]
    exact List.Perm.refl _
  | x :: l, j + 1, y, h => by
    have e : l[j]? = some y := by simpa using h
    exact (List.Perm.swap x y (l.eraseIdx j)).trans ((erase_perm l j y e).cons x)
abbrev rLenK (K : PySem.W.Frag) : List V → Hp → VK → Prop := fun xs H Q => ∃ p ys, xs = [.ref p] ∧ (SqL K H p ys ∨ SqT K H p ys) ∧ Q (.int ys.length) H
def spPicked (K : PySem.W.Frag) : Sp := fun vs H Q _ => ∃ (p b : Addr) (ns : List Int) (many : Int), vs = [.ref p, .ref b, .int many] ∧ PoolAt H p ∧ SqL K H b (ns.map V.int) ∧ b ≠ p ∧ ns.Nodup ∧ ns.length ≤ 1000 ∧ 0 ≤ many ∧
  ∀ (q : Addr) (H' : Hp) (ms : List Int), H q = none → Kept p H H' → PoolAt H' p → H' q = some (.lst (ms.map V.int)) → ms.Nodup → (∀ x ∈ ms, x ∈ ns) → ms.length = min many.toNat ns.length → ms.Pairwise (· ≤ ·) → Q (.ref q) H'
theorem scPicked : FnScope ["_law_pool_here", "_law_some", "_law_many", "_law_left", "_law_k"] ["_law_pool_here", "_law_some", "_law_many"] (defScope sPicked) := ⟨rfl, rfl, rfl, by decide +kernel, rfl, by decide +kernel, by decide +kernel⟩
section
variable {P : Program} {w : World} {K : PySem.W.Frag} {mg : Str → Option Value} {base : Heap}
theorem ok_picked (T : At K mg "_law_picked" sPicked ["_law_pool_here", "_law_some", "_law_many"]) (B : Bt mg) (c_take : Cal P w K mg base 1 "_law_take" ["_law_pool_here", "_law_many"] spTake) :
    Cal P w K mg base 2 "_law_picked" ["_law_pool_here", "_law_some", "_law_many"] (spPicked K) := by
  refine cal_of T scPicked (fun vs H Q E h => ?_) (fun f cdv A outer s H vs Q E hr h => ?_)
  · obtain ⟨p, b, ns, many, rfl, _⟩ := h
    rfl
  · obtain ⟨p, b, ns, many, rfl, hp, hS, hbp, nd, hl, m0, q⟩ := h
    refine ⟨_, (pss_cons (ps_set (i := 3) scPicked.nd rfl (Or.inr rfl) (pe_callTy call_list_of (by rfl) B.list (by decide +kernel) (pa_cons (pv 1) pa_nil)))
      (pss_one (ps_ret (pe_callB cr_sortedI (by rfl) B.sorted (by decide +kernel) (pa_cons (pe_lc (own := [("_law_k", 4)]) (g := gName 4) (tt := tYes) (te := (tBM K "list" rPopAt (tVar 3) (tCons (tCall spTake [] E0 (tCons (tVar 0) (tCons (tCB (rLenK K) (tCons (tVar 3) tNil)) tNil))) tNil))) (by rfl) scPicked.nd (pi_range1 (by rfl) B.range (pa_cons (pe_callB (call_min2 rfl) (by rfl) B.min (by decide +kernel) (pa_cons (pv 2) (pa_cons (pe_callB call_len_seq (by rfl) B.len PySem.boot_len (pa_cons (pv 3) pa_nil)) pa_nil))) pa_nil)) (blkOk_by (own := [("_law_k", 4)]) (N := ["_law_pool_here", "_law_some", "_law_many", "_law_left", "_law_k"]) (sc := defScope sPicked) (by decide +kernel)) (fun _ _ _ _ _ => (pg_name (i := 4) scPicked.nd rfl (Or.inl rfl))) (fun _ _ _ _ _ => pts_nil) (fun _ _ _ _ _ => (pe_bm PySem.F.plainAttrs_list PySem.F.slot_list_pop PySem.F.type_list_pop mt_popAt (pv 3) (pa_cons (pe_own c_take hr (by decide) (by rfl) (pa_cons (pv 0) (pa_cons (pe_callB call_len_seq (by rfl) B.len PySem.boot_len (pa_cons (pv 3) pa_nil)) pa_nil))) pa_nil)))) pa_nil))))), ?_⟩
    refine ⟨_, rfl, b, _, rfl, .inl hS, fun l nl => ?_⟩
    have elp : l ≠ p := pool_ne hp nl
    have hl0 : (if ((ns.map V.int).length : Int) < many then ((ns.map V.int).length : Int) else many) = ((min many.toNat ns.length : Nat) : Int) := by
      rw [List.length_map]
      split <;> omega
    refine ⟨_, rfl, _, rfl, l, _, rfl, .inl (SqL.of upd_same), _, _, rfl, _, rfl, (by omega), (by omega), fun D nD => ?_⟩
    rw [hl0]
    refine lc_range (lo := 0) (n := min many.toNat ns.length) (fun i H2 => ∃ lf acc : List Int, H2 l = some (.lst (lf.map V.int)) ∧ H2 D = some (.lst (acc.map V.int)) ∧ acc.length = i ∧ (acc ++ lf).Perm ns ∧ PoolAt H2 p ∧ Kept p H H2) ?_ ?_ ?_
    · obtain ⟨eDl, nD0⟩ := free_upd nD
      refine ⟨ns, [], (by rw [upd_ne eDl.symm, upd_same]), upd_same, rfl, List.Perm.refl _, (hp.upd elp.symm).upd (pool_ne hp nD0).symm, ((Kept.refl p H).set nl).set nD0⟩
    · rintro i H2 hi ⟨lf, acc, h1, h2, hlen, hpm, hpo, hk⟩
      obtain ⟨eDl, nD0⟩ := free_upd nD
      have eDp : D ≠ p := pool_ne hp nD0
      have hll : acc.length + lf.length = ns.length := by
        have := hpm.length_eq
        rw [List.length_append] at this
        exact this
      refine ⟨rfl, tyes ?_⟩
      refine ⟨_, rfl, .inl ⟨rfl, _, SqL.of h1⟩, _, rfl, _, rfl, l, _, rfl, .inl (SqL.of h1), p, _, rfl, hpo, ?_, ?_, fun r o r0 r1 po => ?_⟩
      · rw [List.length_map]
        omega
      · rw [List.length_map]
        omega
      · rw [List.length_map] at r1
        have hr1 : r.toNat < lf.length := by omega
        refine ⟨l, lf.map V.int, r, r.toNat, V.int lf[r.toNat], rfl, rfl, (by rw [upd_ne elp]; exact h1), by omega, by omega, seqIx r0 (by rw [List.length_map]; exact r1), (by rw [List.getElem?_map, List.getElem?_eq_getElem hr1]; rfl), ?_⟩
        have hg : lf[r.toNat]? = some lf[r.toNat] := List.getElem?_eq_getElem hr1
        generalize lf[r.toNat] = y at *
        refine ⟨acc.map V.int, (by rw [upd_ne eDl, upd_ne eDp]; exact h2), ?_, lf.eraseIdx r.toNat, acc ++ [y], ?_, ?_, ?_, ?_, ?_, ?_⟩
        · rw [List.length_map]
          exact small1000 (by omega)
        · rw [upd_ne eDl.symm, upd_same, erase_map]
        · rw [upd_same, List.map_append]
          rfl
        · rw [List.length_append, hlen]
          rfl
        · rw [List.append_assoc]
          exact ((erase_perm lf r.toNat y hg).append_left acc).trans hpm
        · refine PoolAt.upd (PoolAt.upd ⟨o, upd_same, po⟩ elp.symm) eDp.symm
        · exact (((hk.trans (Kept.upd p H2 o)).set nl).set nD0)
    · rintro H2 ⟨lf, acc, h1, h2, hlen, hpm, hpo, hk⟩
      obtain ⟨eDl, nD0⟩ := free_upd nD
      refine ⟨D, acc, rfl, SqL.of h2, fun ms c pm so nc => ?_⟩
      have ecp : c ≠ p := pool_ne hpo nc
      have hsub : ∀ x ∈ ms, x ∈ ns := fun x hx => hpm.subset (List.mem_append_left _ (pm.subset hx))
      have hnd : (acc ++ lf).Nodup := hpm.nodup_iff.mpr nd
      exact q c _ ms (hk.free ecp nc) (hk.trans (Kept.same (same_upd nc))) (hpo.upd ecp.symm) upd_same (pm.nodup_iff.mpr (List.nodup_append.mp hnd).1) hsub (by rw [pm.length_eq, hlen]) so
end
end Su
namespace Su
open PySem PySem.Spec PyProof.Rows L2
def spPlaces : Sp := fun vs H Q _ => ∃ (p : Addr) (many : Int), vs = [.ref p, .int many] ∧ PoolAt H p ∧ 0 ≤ many ∧
  ∀ (q : Addr) (H' : Hp) (ms : List Int), H q = none → Kept p H H' → PoolAt H' p → H' q = some (.lst (ms.map V.int)) → ms.Nodup → (∀ x ∈ ms, 0 ≤ x ∧ x < 100) → ms.length = min many.toNat 100 → ms.Pairwise (· ≤ ·) → Q (.ref q) H'
def spSort : Sp := fun vs H Q _ => ∃ (p : Addr), vs = [.ref p] ∧ PoolAt H p ∧ ∀ (x : Str) (H' : Hp), Kept p H H' → PoolAt H' p → x = "last" ∨ x = "first" ∨ x = "tree" → Q (.str x) H'
def spBig : Sp := fun vs H Q _ => ∃ (p : Addr) (x : Str), vs = [.ref p, .str x] ∧ PoolAt H p ∧ ∀ (n : Int) (H' : Hp), Kept p H H' → PoolAt H' p → 1 ≤ n → n ≤ 8 → (x = "tree" → n = 1 ∨ n = 2 ∨ n = 4 ∨ n = 8) → Q (.int n) H'
theorem scPlaces : FnScope ["_law_pool_here", "_law_many"] ["_law_pool_here", "_law_many"] (defScope sPlaces) := ⟨rfl, rfl, rfl, by decide +kernel, rfl, by decide +kernel, by decide +kernel⟩
theorem scSort : FnScope ["_law_pool_here"] ["_law_pool_here"] (defScope sSort) := ⟨rfl, rfl, rfl, by decide +kernel, rfl, by decide +kernel, by decide +kernel⟩
theorem scBig : FnScope ["_law_pool_here", "_law_sort_here"] ["_law_pool_here", "_law_sort_here"] (defScope sBig) := ⟨rfl, rfl, rfl, by decide +kernel, rfl, by decide +kernel, by decide +kernel⟩
def hundred : List Int := (List.range 100).map fun i => ((i : Nat) : Int)
theorem hundred_rg : rgV 0 100 = hundred.map V.int := by
  unfold rgV hundred
  rw [List.map_map]
  rfl
theorem hundred_nd : hundred.Nodup := by decide +kernel
theorem hundred_len : hundred.length = 100 := rfl
theorem hundred_mem {x : Int} (h : x ∈ hundred) : 0 ≤ x ∧ x < 100 := by
  unfold hundred at h
  obtain ⟨i, hi, rfl⟩ := List.mem_map.mp h
  have := List.mem_range.mp hi
  omega
theorem cons_nil_fin {α : Type} {xs : List α} {r : Int} (n : Nat) (h : xs.length = n) (r0 : 0 ≤ r) (r1 : r < n) : ∃ v ∈ xs, atI xs r = some v := by
  have hr : r.toNat < xs.length := by omega
  exact ⟨xs[r.toNat], List.getElem_mem hr, atI_int r0 (List.getElem?_eq_getElem hr)⟩
section
variable {P : Program} {w : World} {K : PySem.W.Frag} {mg : Str → Option Value} {base : Heap}
theorem ok_places (T : At K mg "_law_places" sPlaces ["_law_pool_here", "_law_many"]) (B : Bt mg) (c_picked : Cal P w K mg base 2 "_law_picked" ["_law_pool_here", "_law_some", "_law_many"] (spPicked K)) :
    Cal P w K mg base 3 "_law_places" ["_law_pool_here", "_law_many"] spPlaces := by
  refine cal_of T scPlaces (fun vs H Q E h => ?_) (fun f cdv A outer s H vs Q E hr h => ?_)
  · obtain ⟨p, many, rfl, _⟩ := h
    rfl
  · obtain ⟨p, many, rfl, hp, m0, q⟩ := h
    refine ⟨_, (pss_one (ps_ret (pe_own c_picked hr (by decide) (by rfl) (pa_cons (pv 0) (pa_cons (pe_listRg rfl (by rfl) B.list (prg_1 (by rfl) B.range pe_int)) (pa_cons (pv 1) pa_nil)))))), ?_⟩
    refine ⟨_, rfl, 100, rfl, ⟨by decide, by decide, by decide, by decide, by decide⟩, fun b nb => ?_⟩
    have ebp : b ≠ p := pool_ne hp nb
    rw [hundred_rg]
    refine ⟨_, rfl, p, b, hundred, many, rfl, hp.upd ebp.symm, SqL.of upd_same, ebp, hundred_nd, (by rw [hundred_len]; decide), m0, fun c H' ms nc hk hpo hc nd hm hl so => ?_⟩
    exact q c H' ms (free_upd nc).2 ((Kept.same (same_upd nb)).trans hk) hpo hc nd (fun x hx => hundred_mem (hm x hx)) (by rw [hl, hundred_len]) so
theorem ok_sort (T : At K mg "_law_sort" sSort ["_law_pool_here"]) (c_take : Cal P w K mg base 1 "_law_take" ["_law_pool_here", "_law_many"] spTake) :
    Cal P w K mg base 2 "_law_sort" ["_law_pool_here"] spSort := by
  refine cal_of T scSort (fun vs H Q E h => ?_) (fun f cdv A outer s H vs Q E hr h => ?_)
  · obtain ⟨p, rfl, _⟩ := h
    rfl
  · obtain ⟨p, rfl, hp, q⟩ := h
    refine ⟨_, (pss_one (ps_ret (pe_ix ix_list (pe_lst (pa_cons pe_str (pa_cons pe_str (pa_cons pe_str pa_nil)))) (pe_own c_take hr (by decide) (by rfl) (pa_cons (pv 0) (pa_cons pe_int pa_nil))) (fun _ _ => rfl)))), ?_⟩
    refine ⟨(by show 3 ≤ sizeLine; decide), fun l nl => ?_⟩
    have elp : l ≠ p := pool_ne hp nl
    refine ⟨_, rfl, p, _, rfl, hp.upd elp.symm, by decide, by decide, fun r o r0 r1 po => ?_⟩
    obtain ⟨v, hv, ev⟩ := cons_nil_fin (xs := [V.str "last", V.str "first", V.str "tree"]) 3 rfl r0 r1
    refine ⟨l, _, r, v, rfl, rfl, SqL.of (by rw [upd_ne elp, upd_same]), ev, ?_⟩
    have hk : Kept p H (upd (upd H l (.lst [V.str "last", V.str "first", V.str "tree"])) p o) := ((Kept.same (same_upd nl)).trans (Kept.upd p _ o))
    have hpo : PoolAt (upd (upd H l (.lst [V.str "last", V.str "first", V.str "tree"])) p o) p := ⟨o, upd_same, po⟩
    simp only [List.mem_cons, List.not_mem_nil, or_false] at hv
    rcases hv with rfl | rfl | rfl
    · exact q _ _ hk hpo (.inl rfl)
    · exact q _ _ hk hpo (.inr (.inl rfl))
    · exact q _ _ hk hpo (.inr (.inr rfl))
theorem ok_big (T : At K mg "_law_big" sBig ["_law_pool_here", "_law_sort_here"]) (c_take : Cal P w K mg base 1 "_law_take" ["_law_pool_here", "_law_many"] spTake) :
    Cal P w K mg base 2 "_law_big" ["_law_pool_here", "_law_sort_here"] spBig := by
  refine cal_of T scBig (fun vs H Q E h => ?_) (fun f cdv A outer s H vs Q E hr h => ?_)
  · obtain ⟨p, x, rfl, _⟩ := h
    rfl
  · obtain ⟨p, x, rfl, hp, q⟩ := h
    refine ⟨_, (pss_cons (ps_if (pt_cmpR op_eq (pv 1) pe_str (nomark _)) (pss_one (ps_ret (pe_ix ix_list (pe_lst (pa_cons pe_int (pa_cons pe_int (pa_cons pe_int (pa_cons pe_int pa_nil))))) (pe_own c_take hr (by decide) (by rfl) (pa_cons (pv 0) (pa_cons pe_int pa_nil))) (fun _ _ => rfl)))) pss_nil)
      (pss_one (ps_ret (pe_op op_add pe_int (pe_own c_take hr (by decide) (by rfl) (pa_cons (pv 0) (pa_cons pe_int pa_nil))))))), ?_⟩
    refine ⟨_, rfl, rfl, _, rfl, ite2 (fun e => ?_) (fun e => ?_)⟩
    · refine ⟨(by show 4 ≤ sizeLine; decide), fun l nl => ?_⟩
      have elp : l ≠ p := pool_ne hp nl
      refine ⟨_, rfl, p, _, rfl, hp.upd elp.symm, by decide, by decide, fun r o r0 r1 po => ?_⟩
      obtain ⟨v, hv, ev⟩ := cons_nil_fin (xs := [V.int 1, V.int 2, V.int 4, V.int 8]) 4 rfl r0 r1
      refine ⟨l, _, r, v, rfl, rfl, SqL.of (by rw [upd_ne elp, upd_same]), ev, ?_⟩
      have hk : Kept p H (upd (upd H l (.lst [V.int 1, V.int 2, V.int 4, V.int 8])) p o) := ((Kept.same (same_upd nl)).trans (Kept.upd p _ o))
      have hpo : PoolAt (upd (upd H l (.lst [V.int 1, V.int 2, V.int 4, V.int 8])) p o) p := ⟨o, upd_same, po⟩
      simp only [List.mem_cons, List.not_mem_nil, or_false] at hv
      rcases hv with rfl | rfl | rfl | rfl
      · exact q _ _ hk hpo (by decide) (by decide) fun _ => .inl rfl
      · exact q _ _ hk hpo (by decide) (by decide) fun _ => .inr (.inl rfl)
      · exact q _ _ hk hpo (by decide) (by decide) fun _ => .inr (.inr (.inl rfl))
      · exact q _ _ hk hpo (by decide) (by decide) fun _ => .inr (.inr (.inr rfl))
    · refine ⟨_, rfl, p, _, rfl, hp, by decide, by decide, fun r o r0 r1 po => ?_⟩
      refine ⟨_, _, rfl, rfl, q _ _ (Kept.upd p H o) ⟨o, upd_same, po⟩ (by omega) (by omega) fun z => ?_⟩
      subst z
      exact absurd (decide_eq_true rfl) e
end
end Su
namespace Su
open PySem PySem.Spec PyProof.Rows L2
/-- what stands in slots: -1, or rooms, none twice -/
structure Slots (n : Nat) (xs : List Int) : Prop where
  len : xs.length = n
  rng : ∀ x ∈ xs, -1 ≤ x ∧ x < 100
  one : ∀ v, v ≠ -1 → xs.count v ≤ 1
structure Bits (n : Nat) (xs : List Int) : Prop where
  len : xs.length = n
  rng : ∀ x ∈ xs, x = 0 ∨ x = 1
def spCells (K : PySem.W.Frag) : Sp := fun vs H Q _ => ∃ (p b : Addr) (n : Nat) (ns : List Int), vs = [.ref p, .int (n : Int), .ref b] ∧ PoolAt H p ∧ SqL K H b (ns.map V.int) ∧ ns.Nodup ∧ (∀ x ∈ ns, 0 ≤ x ∧ x < 100) ∧ ns.length ≤ 1000 ∧ n ≤ 8 ∧
  ∀ (q : Addr) (H' : Hp) (xs : List Int), H q = none → Kept p H H' → PoolAt H' p → PTup H' q (xs.map V.int) → Slots n xs → Q (.ref q) H'
def spMarks : Sp := fun vs H Q _ => ∃ (p : Addr) (n : Nat) (x : Str), vs = [.ref p, .int (n : Int), .str x] ∧ PoolAt H p ∧ 1 ≤ n ∧ n ≤ 8 ∧
  ∀ (q : Addr) (H' : Hp) (xs : List Int), H q = none → Kept p H H' → PoolAt H' p → PTup H' q (xs.map V.int) → (x = "tree" → Bits (n - 1) xs) → (x ≠ "tree" → xs = []) → Q (.ref q) H'
theorem scCells : FnScope ["_law_pool_here", "_law_big_here", "_law_some", "_law_left", "_law_found", "_law_k"] ["_law_pool_here", "_law_big_here", "_law_some"] (defScope sCells) := ⟨rfl, rfl, rfl, by decide +kernel, rfl, by decide +kernel, by decide +kernel⟩
theorem scMarks : FnScope ["_law_pool_here", "_law_big_here", "_law_sort_here", "_law_k"] ["_law_pool_here", "_law_big_here", "_law_sort_here"] (defScope sMarks) := ⟨rfl, rfl, rfl, by decide +kernel, rfl, by decide +kernel, by decide +kernel⟩
theorem dp_ints {K : PySem.W.Frag} {H : Hp} : ∀ ns : List Int, DpAll K H (ns.map V.int) (ns.map PyData.int)
  | [] => .nil
  | n :: ns => .cons (.int n) (dp_ints ns)
theorem fine_ints {ns : List Int} (h : ∀ x ∈ ns, -1 ≤ x ∧ x < 100) : FineL (ns.map PyData.int) 0 (41 * ns.length) := FineL.ints ns fun z hz => by
  have := h z hz
  omega
theorem set_nil_count (acc : List Int) (y v : Int) : ((acc ++ [-1]).set acc.length y).count v = acc.count v + (if y = v then 1 else 0) := by
  have e : (acc ++ [-1]).set acc.length y = acc ++ [y] := by
    rw [List.set_append_right _ _ (Nat.le_refl _), Nat.sub_self]
    rfl
  rw [e, List.count_append]
  by_cases h : y = v
  · subst h
    simp
  · simp [h, List.count_cons, List.count_nil]
section
variable {P : Program} {w : World} {K : PySem.W.Frag} {mg : Str → Option Value} {base : Heap}
theorem ok_cells (T : At K mg "_law_cells" sCells ["_law_pool_here", "_law_big_here", "_law_some"]) (B : Bt mg) (c_take : Cal P w K mg base 1 "_law_take" ["_law_pool_here", "_law_many"] spTake) :
    Cal P w K mg base 2 "_law_cells" ["_law_pool_here", "_law_big_here", "_law_some"] (spCells K) := by
  refine cal_of T scCells (fun vs H Q E h => ?_) (fun f cdv A outer s H vs Q E hr h => ?_)
  · obtain ⟨p, b, n, ns, rfl, _⟩ := h
    rfl
  · obtain ⟨p, b, n, ns, rfl, hp, hS, nd, hrg, hnl, hn, q⟩ := h
    refine ⟨_, (pss_cons (ps_set (i := 3) scCells.nd rfl (Or.inl rfl) (pe_callTy call_list_of (by rfl) B.list (by decide +kernel) (pa_cons (pv 2) pa_nil)))
      (pss_cons (ps_set (i := 4) scCells.nd rfl (Or.inl rfl) (pe_lst pa_nil))
      (pss_cons (ps_for PassesOwn.never rfl (pi_range1 (by rfl) B.range (pa_cons (pv 1) pa_nil)) (pg_name (i := 5) scCells.nd rfl (Or.inl rfl)) (pss_cons (ps_expr (pe_bm PySem.F.plainAttrs_list PySem.F.slot_list_append PySem.F.type_list_append mt_append (pv 4) (pa_cons (pe_un un_neg pe_int) pa_nil)))
      (pss_one (ps_if (PW.pt (pw_and (pt_cmpR (op_neD hr.units) (pv 3) (pe_lst pa_nil) (nomark _)) (pw_and1 (pt_cmpR op_gt (pe_own c_take hr (by decide) (by rfl) (pa_cons (pv 0) (pa_cons pe_int pa_nil))) pe_int (nomark _))))) (pss_one (ps_asg (pe_bm PySem.F.plainAttrs_list PySem.F.slot_list_pop PySem.F.type_list_pop mt_popAt (pv 3) (pa_cons (pe_own c_take hr (by decide) (by rfl) (pa_cons (pv 0) (pa_cons (pe_callB call_len_seq (by rfl) B.len PySem.boot_len (pa_cons (pv 3) pa_nil)) pa_nil))) pa_nil)) (pg_sub (pv 4) (pv 5) set_list))) pss_nil))))
      (pss_one (ps_ret (pe_callTy call_tupleF (by rfl) B.tuple (by decide +kernel) (pa_cons (pv 4) pa_nil))))))), ?_⟩
    refine ⟨_, rfl, b, _, rfl, .inl hS, fun l nl => ?_⟩
    have elp : l ≠ p := pool_ne hp nl
    refine ⟨Nat.zero_le _, fun D nD => ?_⟩
    obtain ⟨eDl, nD0⟩ := free_upd nD
    have eDp : D ≠ p := pool_ne hp nD0
    refine ⟨_, rfl, _, rfl, (by omega), (by omega), ?_⟩
    rw [show ((n : Int) : Int).toNat = n by omega]
    refine for_range (lo := 0) (n := n) (fun i σ H2 => ∃ (y : Option V) (lf acc : List Int), σ = [some (.ref p), some (.int (n : Int)), some (.ref b), some (.ref l), some (.ref D), y] ∧ H2 l = some (.lst (lf.map V.int)) ∧ H2 D = some (.lst (acc.map V.int)) ∧
      acc.length = i ∧ lf.length ≤ ns.length ∧ (∀ v, v ≠ -1 → acc.count v + lf.count v ≤ 1) ∧ (∀ x ∈ acc, -1 ≤ x ∧ x < 100) ∧ (∀ x ∈ lf, 0 ≤ x ∧ x < 100) ∧ PoolAt H2 p ∧ Kept p H H2) ?_ ?_ ?_
    · refine ⟨none, ns, [], rfl, (by rw [upd_ne eDl.symm, upd_same]), upd_same, rfl, Nat.le_refl _, fun v hv => ?_, fun x hx => (List.not_mem_nil hx).elim, hrg, (hp.upd elp.symm).upd eDp.symm, ((Kept.refl p H).set nl).set nD0⟩
      rw [List.count_nil, Nat.zero_add]
      exact List.nodup_iff_count.mp nd v
    · rintro i σ H2 hi ⟨y, lf, acc, rfl, h1, h2, hlen, hll, hc, hra, hrl, hpo, hk⟩
      -- found.append(-1)
      refine ⟨_, rfl, .inl ⟨rfl, _, SqL.of h2⟩, 1, rfl, D, _, _, rfl, rfl, h2, (by rw [List.length_map]; exact small1000 (by omega)), ?_⟩
      have h1' : (upd H2 D (.lst (acc.map V.int ++ [V.int (-1)]))) l = some (.lst (lf.map V.int)) := by
        rw [upd_ne eDl.symm]
        exact h1
      have e2 : acc.map V.int ++ [V.int (-1)] = (acc ++ [-1]).map V.int := by
        rw [List.map_append]
        rfl
      have hpo' : PoolAt (upd H2 D (.lst (acc.map V.int ++ [V.int (-1)]))) p := hpo.upd eDp.symm
      -- left != []
      refine ⟨_, rfl, Nat.zero_le _, fun c nc => ?_⟩
      obtain ⟨ecD, nc0⟩ := free_upd nc
      have ecp : c ≠ p := pool_ne hpo' nc
      have ecl : c ≠ l := (ne_of_none h1' nc).symm
      have hkc : Kept p H (upd (upd H2 D (.lst (acc.map V.int ++ [V.int (-1)]))) c (.lst [])) := (hk.set nD0).trans (Kept.same (same_upd nc))
      have f1 : Fine (.list (lf.map PyData.int)) 1 (41 * lf.length) := Fine.list (fine_ints fun x hx => by
        have := hrl x hx
        omega)
      have f2 : Fine (.list []) 1 0 := Fine.list FineL.nil
      have hlc : (upd (upd H2 D (.lst (acc.map V.int ++ [V.int (-1)]))) c (.lst [])) l = some (.lst (lf.map V.int)) := by
        rw [upd_ne ecl.symm]
        exact h1'
      have hDc : (upd (upd H2 D (.lst (acc.map V.int ++ [V.int (-1)]))) c (.lst [])) D = some (.lst ((acc ++ [-1]).map V.int)) := by
        rw [upd_ne ecD.symm, upd_same, e2]
      have hpc : PoolAt (upd (upd H2 D (.lst (acc.map V.int ++ [V.int (-1)]))) c (.lst [])) p := hpo'.upd ecp.symm
      refine ⟨_, _, .lst (SqL.of hlc) (dp_ints lf), .lst (SqL.of upd_same) .nil, f1.shaped (by decide), f2.shaped (by decide), _, rfl, ?_⟩
      generalize upd (upd H2 D (.lst (acc.map V.int ++ [V.int (-1)]))) c (.lst []) = H3 at *
      have skip : ∀ H4 : Hp, H4 l = some (.lst (lf.map V.int)) → H4 D = some (.lst ((acc ++ [-1]).map V.int)) → PoolAt H4 p → Kept p H H4 → ∃ (y : Option V) (lf acc : List Int), [some (V.ref p), some (.int (n : Int)), some (.ref b), some (.ref l), some (.ref D), some (.int (0 + (i : Int)))] = [some (.ref p), some (.int (n : Int)), some (.ref b), some (.ref l), some (.ref D), y] ∧ H4 l = some (.lst (lf.map V.int)) ∧ H4 D = some (.lst (acc.map V.int)) ∧
          acc.length = i + 1 ∧ lf.length ≤ ns.length ∧ (∀ v, v ≠ -1 → acc.count v + lf.count v ≤ 1) ∧ (∀ x ∈ acc, -1 ≤ x ∧ x < 100) ∧ (∀ x ∈ lf, 0 ≤ x ∧ x < 100) ∧ PoolAt H4 p ∧ Kept p H H4 := by
        intro H4 g1 g2 g3 g4
        refine ⟨_, lf, acc ++ [-1], rfl, g1, g2, (by rw [List.length_append, hlen]; rfl), hll, fun v hv => ?_, fun x hx => ?_, hrl, g3, g4⟩
        · rw [List.count_append, List.count_cons_of_ne (fun z => hv z.symm), List.count_nil]
          have := hc v hv
          omega
        · rcases List.mem_append.mp hx with z | z
          · exact hra x z
          · rw [List.mem_singleton.mp z]
            decide
      cases lf with
      | nil =>
        refine iteF ?_
        exact skip H3 hlc hDc hpc hkc
      | cons y0 lf0 =>
        refine iteT ?_
        refine ⟨_, rfl, p, _, rfl, hpc, by decide, by decide, fun r o r0 r1 po => ?_⟩
        have hlc2 : (upd H3 p o) l = some (.lst ((y0 :: lf0).map V.int)) := by
          rw [upd_ne elp]
          exact hlc
        have hDc2 : (upd H3 p o) D = some (.lst ((acc ++ [-1]).map V.int)) := by
          rw [upd_ne eDp]
          exact hDc
        have hpc2 : PoolAt (upd H3 p o) p := ⟨o, upd_same, po⟩
        refine ⟨_, _, rfl, rfl, _, rfl, ite2 (fun e => ?_) (fun e => ?_)⟩
        · refine ⟨_, rfl, .inl ⟨rfl, _, SqL.of hlc2⟩, _, rfl, _, rfl, l, _, rfl, .inl (SqL.of hlc2), p, _, rfl, hpc2, ?_, ?_, fun r o r0 r1 po => ?_⟩
          · rw [List.length_map, List.length_cons]
            omega
          · rw [List.length_map]
            omega
          · rw [List.length_map] at r1
            have hr1 : r.toNat < (y0 :: lf0).length := by omega
            refine ⟨l, (y0 :: lf0).map V.int, r, r.toNat, V.int (y0 :: lf0)[r.toNat], rfl, rfl, (by rw [upd_ne elp]; exact hlc2), by omega, by omega, seqIx r0 (by rw [List.length_map]; exact r1), (by rw [List.getElem?_map, List.getElem?_eq_getElem hr1]; rfl), ?_⟩
            have hg : (y0 :: lf0)[r.toNat]? = some (y0 :: lf0)[r.toNat] := List.getElem?_eq_getElem hr1
            generalize (y0 :: lf0)[r.toNat] = z at *
            generalize y0 :: lf0 = lf at *
            have hpm := erase_perm lf r.toNat z hg
            have ez : z ∈ lf := List.mem_of_getElem? hg
            have hz := hrl z ez
            refine ⟨_, rfl, _, rfl, D, (acc ++ [-1]).map V.int, 0 + (i : Int), acc.length, rfl, rfl, (by rw [upd_ne eDl, upd_ne eDp]; exact hDc2), ?_, ?_⟩
            · unfold ixN
              rw [if_pos (by omega), if_pos (by rw [List.length_map, List.length_append, hlen]; show (0 : Int) + (i : Int) < ((i + 1 : Nat) : Int); omega)]
              congr 1
              omega
            · refine ⟨_, lf.eraseIdx r.toNat, (acc ++ [-1]).set acc.length z, rfl, ?_, ?_, ?_, ?_, ?_, ?_, ?_, ?_, ?_⟩
              · rw [upd_ne eDl.symm, upd_same, erase_map]
              · rw [upd_same, List.map_set]
              · rw [List.length_set, List.length_append, hlen]
                rfl
              · have := hpm.length_eq
                rw [List.length_cons] at this
                omega
              · intro v hv
                rw [set_nil_count]
                have h9 := hc v hv
                have h8 := hpm.count_eq v
                rw [List.count_cons] at h8
                by_cases zz : z = v
                · subst zz
                  simp at h8 ⊢
                  omega
                · simp [zz] at h8 ⊢
                  omega
              · intro x hx
                rcases List.mem_or_eq_of_mem_set hx with z1 | z1
                · rcases List.mem_append.mp z1 with z2 | z2
                  · exact hra x z2
                  · rw [List.mem_singleton.mp z2]
                    decide
                · rw [z1]
                  omega
              · intro x hx
                exact hrl x (List.mem_of_mem_eraseIdx hx)
              · exact ((PoolAt.upd ⟨o, upd_same, po⟩ elp.symm).upd eDp.symm)
              · exact ((((hkc.trans (Kept.upd p _ _)).trans (Kept.upd p _ _)).set nl).set nD0)
        · exact skip _ hlc2 hDc2 hpc2 (hkc.trans (Kept.upd p _ _))
    · rintro σ H2 ⟨y, lf, acc, rfl, h1, h2, hlen, hll, hc, hra, hrl, hpo, hk⟩
      refine ⟨_, rfl, D, _, rfl, SqL.of h2, fun t H3 sm nt pt => ?_⟩
      have etp : t ≠ p := pool_ne hpo nt
      exact q t _ acc (hk.free etp nt) (hk.trans (Kept.same sm)) (hpo.same sm) pt ⟨hlen, hra, fun v hv => Nat.le_trans (Nat.le_add_right _ _) (hc v hv)⟩
theorem ok_marks (T : At K mg "_law_marks" sMarks ["_law_pool_here", "_law_big_here", "_law_sort_here"]) (B : Bt mg) (c_take : Cal P w K mg base 1 "_law_take" ["_law_pool_here", "_law_many"] spTake) :
    Cal P w K mg base 2 "_law_marks" ["_law_pool_here", "_law_big_here", "_law_sort_here"] spMarks := by
  refine cal_of T scMarks (fun vs H Q E h => ?_) (fun f cdv A outer s H vs Q E hr h => ?_)
  · obtain ⟨p, n, x, rfl, _⟩ := h
    rfl
  · obtain ⟨p, n, x, rfl, hp, hn1, hn, q⟩ := h
    refine ⟨_, (pss_one (ps_ret (pe_callTy call_tupleF (by rfl) B.tuple (by decide +kernel) (pa_cons (pe_lc (own := [("_law_k", 3)]) (g := gName 3) (tt := tYes) (te := (tCall spTake [] E0 (tCons (tVar 0) (tCons (tC (.int 2)) tNil)))) (by rfl) scMarks.nd (pi_range1 (by rfl) B.range (pa_cons (pe_op op_mul (pe_op op_sub (pv 1) pe_int) (pe_callTy call_int1 (by rfl) B.int (by decide +kernel) (pa_cons (pe_cmpR op_eq (pv 2) pe_str (nomark _)) pa_nil))) pa_nil)) (blkOk_by (own := [("_law_k", 3)]) (N := ["_law_pool_here", "_law_big_here", "_law_sort_here", "_law_k"]) (sc := defScope sMarks) (by decide +kernel)) (fun _ _ _ _ _ => (pg_name (i := 3) scMarks.nd rfl (Or.inl rfl))) (fun _ _ _ _ _ => pts_nil) (fun _ _ _ _ _ => (pe_own c_take hr (by decide) (by rfl) (pa_cons (pv 0) (pa_cons pe_int pa_nil))))) pa_nil)))), ?_⟩
    obtain ⟨m, hm, hm1, hm2⟩ : ∃ m : Nat, ((n : Int) - 1) * (if decide (V.str x = V.str "tree") = true then (1 : Int) else 0) = (m : Int) ∧ (x = "tree" → m = n - 1) ∧ (x ≠ "tree" → m = 0) := by
      by_cases e : x = "tree"
      · refine ⟨n - 1, ?_, fun _ => rfl, fun z => absurd e z⟩
        subst e
        rw [if_pos (decide_eq_true rfl)]
        omega
      · refine ⟨0, ?_, fun z => absurd z e, fun _ => rfl⟩
        rw [if_neg (fun z => e (V.str.inj (of_decide_eq_true z)))]
        omega
    have hm3 : m ≤ 8 := by
      by_cases e : x = "tree"
      · have := hm1 e
        omega
      · have := hm2 e
        omega
    refine ⟨_, rfl, _, _, rfl, rfl, _, rfl, rfl, .inr ⟨_, rfl, _, _, rfl, rfl, .inr (b01 _), ?_⟩⟩
    refine ⟨_, rfl, ?_, ?_, fun D nD => ?_⟩
    · show -(2 ^ 62) ≤ ((n : Int) - 1) * (if decide (V.str x = V.str "tree") = true then (1 : Int) else 0)
      rw [hm]
      omega
    · show ((n : Int) - 1) * (if decide (V.str x = V.str "tree") = true then (1 : Int) else 0) < 2 ^ 62
      rw [hm]
      omega
    have eDp : D ≠ p := pool_ne hp nD
    show ∃ W : Nat → Nat → Hp → Prop, _
    rw [show (((n : Int) - 1) * (if decide (V.str x = V.str "tree") = true then (1 : Int) else 0)) = (m : Int) from hm, show ((m : Int)).toNat = m by omega]
    refine lc_range (lo := 0) (n := m) (fun i H2 => ∃ acc : List Int, H2 D = some (.lst (acc.map V.int)) ∧ acc.length = i ∧ (∀ x ∈ acc, x = 0 ∨ x = 1) ∧ PoolAt H2 p ∧ Kept p H H2) ?_ ?_ ?_
    · exact ⟨[], upd_same, rfl, fun x hx => (List.not_mem_nil hx).elim, hp.upd eDp.symm, (Kept.refl p H).set nD⟩
    · rintro i H2 hi ⟨acc, h2, hlen, hb, hpo, hk⟩
      refine ⟨rfl, tyes ?_⟩
      refine ⟨_, rfl, p, _, rfl, hpo, by decide, by decide, fun r o r0 r1 po => ?_⟩
      refine ⟨acc.map V.int, (by rw [upd_ne eDp]; exact h2), (by rw [List.length_map]; exact small1000 (by omega)), acc ++ [r], (by rw [upd_same, List.map_append]; rfl), (by rw [List.length_append, hlen]; rfl), fun x hx => ?_, (PoolAt.upd ⟨o, upd_same, po⟩ eDp.symm), ((hk.trans (Kept.upd p _ _)).set nD)⟩
      rcases List.mem_append.mp hx with z | z
      · exact hb x z
      · rw [List.mem_singleton.mp z]
        omega
    · rintro H2 ⟨acc, h2, hlen, hb, hpo, hk⟩
      refine ⟨D, _, rfl, SqL.of h2, fun t H3 sm nt pt => ?_⟩
      have etp : t ≠ p := pool_ne hpo nt
      refine q t _ acc (hk.free etp nt) (hk.trans (Kept.same sm)) (hpo.same sm) pt (fun e => ⟨by rw [hlen, hm1 e], hb⟩) (fun e => ?_)
      have := hm2 e
      rw [this] at hlen
      exact List.length_eq_zero_iff.mp hlen
end
end Su
namespace Su
open PySem PySem.Spec PyProof.Rows L2
theorem same_T {K : PySem.W.Frag} {H H' : Hp} {a : Addr} {xs : List V} (e : Same H H') (h : SqT K H a xs) : SqT K H' a xs := by
  rcases h with (h | ⟨o, h⟩) | h
  · exact .inl (.inl (e _ _ h))
  · exact .inl (.inr ⟨o, e _ _ h⟩)
  · exact .inr h
theorem cut_to (xs : List Int) (g : Nat) (h : g ≤ xs.length) : cutV (xs.map V.int) none (some (g : Int)) = (xs.take g).map V.int := by
  unfold cutV
  rw [HT.sIx_nat, HT.sIx_none, List.length_map, Nat.min_eq_left h, Nat.sub_zero, List.drop_zero, List.map_take]
theorem cut_from (xs : List Int) (g : Nat) (h : g ≤ xs.length) : cutV (xs.map V.int) (some (g : Int)) none = (xs.drop g).map V.int := by
  unfold cutV
  rw [HT.sIx_nat, HT.sIx_none, List.length_map, Nat.min_eq_left h, List.map_drop, List.take_of_length_le]
  rw [List.length_drop, List.length_map]
  exact Nat.le_refl _
theorem flat_ints : ∀ xs : List Int, (xs.map V.int).all flatV = true
  | [] => rfl
  | _ :: xs => flat_ints xs
theorem in_ints (x : Int) : ∀ xs : List Int, inV (.int x) (xs.map V.int) = decide (x ∈ xs)
  | [] => rfl
  | y :: xs => by
    have ih := in_ints x xs
    unfold inV at ih ⊢
    rw [List.map_cons, List.any_cons, ih]
    show ((y == x) || decide (x ∈ xs)) = decide (x ∈ y :: xs)
    by_cases e : y = x
    · subst e
      simp
    · have e2 : ¬ x = y := fun z => e z.symm
      simp [e, e2]
/-! what a shelf's asks do, in numbers -/
def goneAt (xs : List Int) (r : Int) : Nat := if r ∈ xs then xs.idxOf r else xs.length - 1
def putF (xs : List Int) (r : Int) : List Int := r :: (xs.take (goneAt xs r) ++ xs.drop (goneAt xs r + 1))
theorem gone_lt {xs : List Int} {r : Int} (h : 0 < xs.length) : goneAt xs r < xs.length := by
  unfold goneAt
  split
  · rename_i e
    exact List.idxOf_lt_length_of_mem e
  · omega
def spPut : Sp := fun vs H Q _ => ∃ (a : Addr) (xs : List Int) (r : Int), vs = [.ref a, .int r] ∧ PTup H a (xs.map V.int) ∧ 0 < xs.length ∧ xs.length ≤ 100 ∧ ∀ (v : Addr) (H' : Hp), Same H H' → PTup H' v ((putF xs r).map V.int) → Q (.ref v) H'
theorem scPutFirst : FnScope ["slots", "room", "gone"] ["slots", "room"] (defScope sPutFirst) := ⟨rfl, rfl, rfl, by decide +kernel, rfl, by decide +kernel, by decide +kernel⟩
section
variable {P : Program} {w : World} {K : PySem.W.Frag} {mg : Str → Option Value} {base : Heap}
theorem ok_put (T : At K mg "put_first" sPutFirst ["slots", "room"]) (B : Bt mg) : Cal P w K mg base 1 "put_first" ["slots", "room"] spPut := by
  refine cal_of T scPutFirst (fun vs H Q E h => ?_) (fun f cdv A outer s H vs Q E hr h => ?_)
  · obtain ⟨a, xs, r, rfl, _⟩ := h
    rfl
  · obtain ⟨a, xs, r, rfl, hx, h0, hl, q⟩ := h
    refine ⟨_, (pss_cons (ps_set (i := 2) scPutFirst.nd rfl (Or.inl rfl) (pe_ifExp (pt_cmpR op_in_seq (pv 1) (pv 0) (by rfl)) (pe_mT PySem.F.slot_tuple_index PySem.F.type_tuple_index mt_tindex (pv 0) (pa_cons (pv 1) pa_nil)) (pe_op op_sub (pe_callB call_len_seq (by rfl) B.len PySem.boot_len (pa_cons (pv 0) pa_nil)) pe_int)))
      (pss_one (ps_ret (pe_op op_catF (pe_op op_catF (pe_tupF (pa_cons (pv 1) pa_nil)) (pe_slice sl_tupF (pv 0) po_none (po_some (pv 2)))) (pe_slice sl_tupF (pv 0) (po_some (pe_op op_add (pv 2) pe_int)) po_none))))), ?_⟩
    have hg : goneAt xs r < xs.length := gone_lt h0
    refine ⟨_, rfl, _, rfl, a, _, rfl, .inr hx.sq, rfl, flat_ints xs, _, rfl, ?_⟩
    rw [show (if false = true then !inV (V.int r) (xs.map V.int) else inV (V.int r) (xs.map V.int)) = decide (r ∈ xs) from in_ints r xs]
    refine ite2 (fun e => ?_) (fun e => ?_)
    rw [decide_eq_true_eq] at e
    refine ⟨_, rfl, ⟨a, _, rfl, hx⟩, _, rfl, a, xs, r, rfl, rfl, hx.sq, e, ?_⟩
    rw [show xs.idxOf r = goneAt xs r by unfold goneAt; rw [if_pos e]]
    rotate_left
    refine ⟨_, rfl, a, _, rfl, .inr hx.sq, _, _, rfl, rfl, ?_⟩
    rw [decide_eq_true_eq] at e
    rw [show (fun i j : Int => V.int (i - j)) ((xs.map V.int).length : Int) 1 = V.int ((goneAt xs r : Nat) : Int) from congrArg V.int (by
      unfold goneAt
      rw [if_neg e, List.length_map]
      omega)]
    all_goals
      refine ⟨_, rfl, (by show 1 ≤ sizeLine; decide), fun v1 H1 s1 n1 p1 => ?_⟩
      refine ⟨_, rfl, _, rfl, _, rfl, a, _, rfl, hx.same s1, fun v2 H2 s2 p2 => ?_⟩
      rw [cut_to xs (goneAt xs r) (by omega)] at p2
      refine ⟨v1, v2, _, _, rfl, rfl, p1.same s2, p2, ?_, fun v3 H3 s3 p3 => ?_⟩
      · rw [List.length_map, List.length_take]
        exact Nat.le_of_lt (small1000 (by show 1 + _ ≤ 1000; omega))
      refine ⟨_, rfl, _, rfl, _, _, rfl, rfl, _, rfl, a, _, rfl, ((hx.same s1).same s2).same s3, fun v4 H4 s4 p4 => ?_⟩
      rw [show ((goneAt xs r : Nat) : Int) + 1 = ((goneAt xs r + 1 : Nat) : Int) by omega, cut_from xs (goneAt xs r + 1) (by omega)] at p4
      refine ⟨v3, v4, _, _, rfl, rfl, p3.same s4, p4, ?_, fun v5 H5 s5 p5 => ?_⟩
      · rw [List.length_append, List.length_map, List.length_map, List.length_take, List.length_drop]
        exact Nat.le_of_lt (small1000 (by show 1 + _ + _ ≤ 1000; omega))
      refine q v5 H5 ((((s1.trans s2).trans s3).trans s4).trans s5) ?_
      unfold putF
      rw [List.map_cons, List.map_append]
      exact p5
end
end Su
namespace Su
open PySem PySem.Spec PyProof.Rows L2
/-- where the bits lead -/
def ledF : Nat → List Int → Int → Int → Int → Int
  | 0, _, slot, _, _ => slot
  | f + 1, bs, slot, bit, half => if 0 < half then ledF f bs (slot + bs.getD bit.toNat 0 * half) (2 * bit + 1 + bs.getD bit.toNat 0) (half / 2) else slot
/-- .. by places that are there -/
def ledOk : Nat → List Int → Int → Int → Int → Bool
  | 0, _, _, _, half => decide (half ≤ 0)
  | f + 1, bs, slot, bit, half => if 0 < half then decide (0 ≤ bit) && decide (bit.toNat < bs.length) && decide (half ≤ 8) && ledOk f bs (slot + bs.getD bit.toNat 0 * half) (2 * bit + 1 + bs.getD bit.toNat 0) (half / 2) else true
/-- the bits turned away from a slot -/
def awayF : Nat → List Int → Int → Int → Int → List Int
  | 0, led, _, _, _ => led
  | f + 1, led, bit, half, wi => if 0 < half then awayF f (led.set bit.toNat (1 - (if half ≤ wi then 1 else 0))) (2 * bit + 1 + (if half ≤ wi then 1 else 0)) (half / 2) (wi - (if half ≤ wi then 1 else 0) * half) else led
def awayOk : Nat → Nat → Int → Int → Int → Bool
  | 0, _, _, half, _ => decide (half ≤ 0)
  | f + 1, m, bit, half, wi => if 0 < half then decide (0 ≤ bit) && decide (bit.toNat < m) && decide (half ≤ 8) && awayOk f m (2 * bit + 1 + (if half ≤ wi then 1 else 0)) (half / 2) (wi - (if half ≤ wi then 1 else 0) * half) else true
theorem awayF_len : ∀ (f : Nat) (led : List Int) (bit half wi : Int), (awayF f led bit half wi).length = led.length
  | 0, _, _, _, _ => rfl
  | f + 1, led, bit, half, wi => by
    unfold awayF
    split
    · rw [awayF_len, List.length_set]
    · rfl
def spLed : Sp := fun vs H Q _ => ∃ (b : Addr) (n : Int) (bs : List Int), vs = [.ref b, .int n] ∧ PTup H b (bs.map V.int) ∧ ledOk 4 bs 0 0 (n / 2) = true ∧ Q (.int (ledF 4 bs 0 0 (n / 2))) H
def spAway : Sp := fun vs H Q _ => ∃ (b : Addr) (sl n : Int) (bs : List Int), vs = [.ref b, .int sl, .int n] ∧ PTup H b (bs.map V.int) ∧ awayOk 4 bs.length 0 (n / 2) sl = true ∧ ∀ v H', Same H H' → PTup H' v ((awayF 4 bs 0 (n / 2) sl).map V.int) → Q (.ref v) H'
theorem scLed : FnScope ["bits", "size", "slot", "bit", "half", "turn"] ["bits", "size"] (defScope sLed) := ⟨rfl, rfl, rfl, by decide +kernel, rfl, by decide +kernel, by decide +kernel⟩
theorem scAway : FnScope ["bits", "slot", "size", "led", "bit", "half", "within", "turn"] ["bits", "slot", "size"] (defScope sAway) := ⟨rfl, rfl, rfl, by decide +kernel, rfl, by decide +kernel, by decide +kernel⟩
def num (σ : L2.St) (i : Nat) : Nat := match σ[i]? with
  | some (some (.int h)) => h.toNat
  | _ => 0
theorem ite3 {c A B : Prop} [Decidable c] (h1 : c → A) (h2 : ¬ c → B) : if decide c = true then A else B := by
  by_cases h : c
  · rw [if_pos (decide_eq_true h)]
    exact h1 h
  · rw [if_neg (by simp [h])]
    exact h2 h
section
variable {P : Program} {w : World} {K : PySem.W.Frag} {mg : Str → Option Value} {base : Heap}
theorem ok_led (T : At K mg "slot_led_to" sLed ["bits", "size"]) : Cal P w K mg base 1 "slot_led_to" ["bits", "size"] spLed := by
  refine cal_of T scLed (fun vs H Q E h => ?_) (fun f cdv A outer s H vs Q E hr h => ?_)
  · obtain ⟨b, n, bs, rfl, _⟩ := h
    rfl
  · obtain ⟨b, n, bs, rfl, hb, hok, q⟩ := h
    refine ⟨_, (pss_cons (ps_set (i := 2) scLed.nd rfl (Or.inl rfl) pe_int)
      (pss_cons (ps_set (i := 3) scLed.nd rfl (Or.inl rfl) pe_int)
      (pss_cons (ps_set (i := 4) scLed.nd rfl (Or.inl rfl) (pe_op op_fdiv (pv 1) pe_int))
      (pss_cons (ps_while PassesOwn.never (pt_cmpR op_gt (pv 4) pe_int (nomark _)) (pss_cons (ps_set (i := 5) scLed.nd rfl (Or.inl rfl) (pe_ix ix_tup (pv 0) (pv 3) (fun _ _ => rfl)))
      (pss_cons (ps_aug (i := 2) scLed.nd rfl (Or.inl rfl) (pe_op op_mul (pv 5) (pv 4)) ip_add)
      (pss_cons (ps_set (i := 3) scLed.nd rfl (Or.inl rfl) (pe_op op_add (pe_op op_add (pe_op op_mul pe_int (pv 3)) pe_int) (pv 5)))
      (pss_one (ps_set (i := 4) scLed.nd rfl (Or.inl rfl) (pe_op op_fdiv (pv 4) pe_int)))))))
      (pss_one (ps_ret (pv 2))))))), ?_⟩
    refine ⟨_, rfl, _, _, rfl, rfl, ⟨by decide, by decide⟩, ?_⟩
    refine while_by (fun σ H' => ∃ (f : Nat) (slot bit half : Int) (y : Option V), σ = [some (.ref b), some (.int n), some (.int slot), some (.int bit), some (.int half), y] ∧ H' = H ∧ ledOk f bs slot bit half = true ∧ ledF f bs slot bit half = ledF 4 bs 0 0 (n / 2)) (fun σ _ => num σ 4) ?_ ?_ ?_
    · exact ⟨4, 0, 0, n / 2, none, rfl, rfl, hok, rfl⟩
    · rintro σ H' ⟨f, slot, bit, half, y, rfl, rfl, h1, h2⟩
      refine ⟨_, rfl, _, _, rfl, rfl, _, rfl, ite3 (fun e => ?_) (fun e => ?_)⟩
      · cases f with
        | zero =>
          unfold ledOk at h1
          rw [decide_eq_true_eq] at h1
          exact absurd e (by omega)
        | succ f =>
          unfold ledOk at h1
          unfold ledF at h2
          rw [if_pos e] at h1 h2
          simp only [Bool.and_eq_true, decide_eq_true_eq] at h1
          obtain ⟨⟨⟨b0, b1⟩, b2⟩, b3⟩ := h1
          have g : atI (bs.map V.int) bit = some (V.int (bs.getD bit.toNat 0)) := atI_int b0 (by
            rw [List.getElem?_map, List.getElem?_eq_getElem b1, List.getD_eq_getElem?_getD, List.getElem?_eq_getElem b1]
            rfl)
          refine ⟨_, rfl, _, rfl, b, _, bit, _, rfl, rfl, hb.sq, g, ?_⟩
          refine ⟨_, rfl, _, rfl, _, rfl, _, _, rfl, rfl, .inr ⟨by omega, by omega⟩, _, _, rfl, rfl, ?_⟩
          refine ⟨_, rfl, _, _, rfl, rfl, .inl ⟨by decide, by decide⟩, _, _, rfl, rfl, _, rfl, _, _, rfl, rfl, ?_⟩
          refine ⟨_, rfl, _, _, rfl, rfl, ⟨by decide, by decide⟩, ?_⟩
          refine ⟨⟨f, _, _, _, _, rfl, rfl, b3, h2⟩, ?_⟩
          show (half / 2).toNat < half.toNat
          omega
      · refine ⟨_, rfl, ?_⟩
        have e2 : slot = ledF 4 bs 0 0 (n / 2) := by
          rw [← h2]
          cases f with
          | zero => rfl
          | succ f =>
            unfold ledF
            rw [if_neg e]
        rw [e2]
        exact q
    · rintro σ H' Q1 Q2 hq ⟨v, hv, i, j, e1, e2, k, e3, z⟩
      exact ⟨v, hv, i, j, e1, e2, k, e3, hq _ _ z⟩
theorem ok_away (T : At K mg "led_away" sAway ["bits", "slot", "size"]) (B : Bt mg) : Cal P w K mg base 1 "led_away" ["bits", "slot", "size"] spAway := by
  refine cal_of T scAway (fun vs H Q E h => ?_) (fun f cdv A outer s H vs Q E hr h => ?_)
  · obtain ⟨b, sl, n, bs, rfl, _⟩ := h
    rfl
  · obtain ⟨b, sl, n, bs, rfl, hb, hok, q⟩ := h
    refine ⟨_, (pss_cons (ps_set (i := 3) scAway.nd rfl (Or.inl rfl) (pe_callTy call_list_of (by rfl) B.list (by decide +kernel) (pa_cons (pv 0) pa_nil)))
      (pss_cons (ps_set (i := 4) scAway.nd rfl (Or.inl rfl) pe_int)
      (pss_cons (ps_set (i := 5) scAway.nd rfl (Or.inl rfl) (pe_op op_fdiv (pv 2) pe_int))
      (pss_cons (ps_set (i := 6) scAway.nd rfl (Or.inl rfl) (pv 1))
      (pss_cons (ps_while PassesOwn.never (pt_cmpR op_gt (pv 5) pe_int (nomark _)) (pss_cons (ps_set (i := 7) scAway.nd rfl (Or.inl rfl) (pe_ifExp (pt_cmpR op_ge (pv 6) (pv 5) (nomark _)) pe_int pe_int))
      (pss_cons (ps_asg (pe_op op_sub pe_int (pv 7)) (pg_sub (pv 3) (pv 4) set_list))
      (pss_cons (ps_aug (i := 6) scAway.nd rfl (Or.inl rfl) (pe_op op_mul (pv 7) (pv 5)) ip_sub)
      (pss_cons (ps_set (i := 4) scAway.nd rfl (Or.inl rfl) (pe_op op_add (pe_op op_add (pe_op op_mul pe_int (pv 4)) pe_int) (pv 7)))
      (pss_one (ps_set (i := 5) scAway.nd rfl (Or.inl rfl) (pe_op op_fdiv (pv 5) pe_int))))))))
      (pss_one (ps_ret (pe_callTy call_tupleF (by rfl) B.tuple (by decide +kernel) (pa_cons (pv 3) pa_nil))))))))), ?_⟩
    refine ⟨_, rfl, b, _, rfl, .inr hb.sq, fun l nl => ?_⟩
    refine ⟨_, rfl, _, _, rfl, rfl, ⟨by decide, by decide⟩, ?_⟩
    refine ⟨_, rfl, ?_⟩
    refine while_by (fun σ H' => ∃ (f : Nat) (led : List Int) (bit half wi : Int) (y : Option V), σ = [some (.ref b), some (.int sl), some (.int n), some (.ref l), some (.int bit), some (.int half), some (.int wi), y] ∧ H' = upd H l (.lst (led.map V.int)) ∧ awayOk f led.length bit half wi = true ∧ awayF f led bit half wi = awayF 4 bs 0 (n / 2) sl) (fun σ _ => num σ 5) ?_ ?_ ?_
    · exact ⟨4, bs, 0, n / 2, sl, none, rfl, rfl, hok, rfl⟩
    · rintro σ H' ⟨f, led, bit, half, wi, y, rfl, rfl, h1, h2⟩
      refine ⟨_, rfl, _, _, rfl, rfl, _, rfl, ite3 (fun e => ?_) (fun e => ?_)⟩
      · cases f with
        | zero =>
          unfold awayOk at h1
          rw [decide_eq_true_eq] at h1
          exact absurd e (by omega)
        | succ f =>
          unfold awayOk at h1
          unfold awayF at h2
          rw [if_pos e] at h1 h2
          simp only [Bool.and_eq_true, decide_eq_true_eq] at h1
          obtain ⟨⟨⟨b0, b1⟩, b2⟩, b3⟩ := h1
          refine ⟨_, rfl, _, rfl, _, _, rfl, rfl, _, rfl, ite3 (fun e1 => ?_) (fun e1 => ?_)⟩
          all_goals
            first
              | rw [if_pos e1] at h2 b3
              | rw [if_neg e1] at h2 b3
            refine ⟨_, rfl, _, _, rfl, rfl, ?_⟩
            refine ⟨_, rfl, _, rfl, l, led.map V.int, bit, bit.toNat, rfl, rfl, upd_same, ?_, ?_⟩
            · unfold ixN
              rw [if_pos b0, if_pos (by rw [List.length_map]; omega)]
            rw [upd_upd]
            refine ⟨_, rfl, _, rfl, _, rfl, _, _, rfl, rfl, .inl ⟨by decide, by decide⟩, _, _, rfl, rfl, ?_⟩
            refine ⟨_, rfl, _, _, rfl, rfl, .inl ⟨by decide, by decide⟩, _, _, rfl, rfl, _, rfl, _, _, rfl, rfl, ?_⟩
            refine ⟨_, rfl, _, _, rfl, rfl, ⟨by decide, by decide⟩, ?_⟩
            refine ⟨⟨f, led.set bit.toNat _, _, _, _, _, rfl, ?_, ?_, h2⟩, ?_⟩
            · rw [List.map_set]
            · rw [List.length_set]
              exact b3
            · show (half / 2).toNat < half.toNat
              omega
      · refine ⟨_, rfl, l, _, rfl, SqL.of upd_same, fun v H2 sm nv pt => ?_⟩
        have e2 : led = awayF 4 bs 0 (n / 2) sl := by
          rw [← h2]
          cases f with
          | zero => rfl
          | succ f =>
            unfold awayF
            rw [if_neg e]
        rw [e2] at pt
        exact q v H2 ((same_upd nl).trans sm) pt
    · rintro σ H' Q1 Q2 hq ⟨v, hv, i, j, e1, e2, k, e3, z⟩
      exact ⟨v, hv, i, j, e1, e2, k, e3, hq _ _ z⟩
end
end Su
namespace Su
open PySem PySem.Spec PyProof.Rows L2
def allBits : Nat → List (List Int)
  | 0 => [[]]
  | k + 1 => (allBits k).flatMap fun l => [0 :: l, 1 :: l]
theorem mem_allBits : ∀ (k : Nat) (bs : List Int), Bits k bs → bs ∈ allBits k
  | 0, bs, h => by
    have e := List.length_eq_zero_iff.mp h.len
    rw [e]
    exact List.mem_singleton.mpr rfl
  | k + 1, [], h => by
    have := h.len
    cases this
  | k + 1, b :: bs, h => by
    have ih := mem_allBits k bs ⟨by have := h.len; rw [List.length_cons] at this; omega, fun x hx => h.rng x (List.mem_cons_of_mem _ hx)⟩
    refine List.mem_flatMap.mpr ⟨bs, ih, ?_⟩
    rcases h.rng b List.mem_cons_self with e | e
    · rw [e]
      exact List.mem_cons_self
    · rw [e]
      exact List.mem_cons_of_mem _ List.mem_cons_self
structure TreeOk (n : Nat) (bs : List Int) : Prop where
  sz : n = 1 ∨ n = 2 ∨ n = 4 ∨ n = 8
  bt : Bits (n - 1) bs
/-- a look at all bits of a tree -/
def lookT (n : Nat) (bs : List Int) : Bool := ledOk 4 bs 0 0 ((n : Int) / 2) && decide (0 ≤ ledF 4 bs 0 0 ((n : Int) / 2)) && decide (ledF 4 bs 0 0 ((n : Int) / 2) < n)
theorem look1 : ∀ bs ∈ allBits 0, lookT 1 bs = true := by decide +kernel
theorem look2 : ∀ bs ∈ allBits 1, lookT 2 bs = true := by decide +kernel
theorem look4 : ∀ bs ∈ allBits 3, lookT 4 bs = true := by decide +kernel
theorem look8 : ∀ bs ∈ allBits 7, lookT 8 bs = true := by decide +kernel
theorem led_ok {n : Nat} {bs : List Int} (h : TreeOk n bs) : ledOk 4 bs 0 0 ((n : Int) / 2) = true ∧ 0 ≤ ledF 4 bs 0 0 ((n : Int) / 2) ∧ ledF 4 bs 0 0 ((n : Int) / 2) < n := by
  have z : lookT n bs = true := by
    obtain ⟨s, b⟩ := h
    rcases s with rfl | rfl | rfl | rfl
    · exact look1 bs (mem_allBits _ _ b)
    · exact look2 bs (mem_allBits _ _ b)
    · exact look4 bs (mem_allBits _ _ b)
    · exact look8 bs (mem_allBits _ _ b)
  unfold lookT at z
  simp only [Bool.and_eq_true, decide_eq_true_eq] at z
  exact ⟨z.1.1, z.1.2, z.2⟩
theorem aw1 : ∀ s ∈ List.range 1, awayOk 4 0 0 ((1 : Nat) / 2 : Int) (s : Nat) = true := by decide +kernel
theorem aw2 : ∀ s ∈ List.range 2, awayOk 4 1 0 ((2 : Nat) / 2 : Int) (s : Nat) = true := by decide +kernel
theorem aw4 : ∀ s ∈ List.range 4, awayOk 4 3 0 ((4 : Nat) / 2 : Int) (s : Nat) = true := by decide +kernel
theorem aw8 : ∀ s ∈ List.range 8, awayOk 4 7 0 ((8 : Nat) / 2 : Int) (s : Nat) = true := by decide +kernel
theorem away_ok {n : Nat} {bs : List Int} (h : TreeOk n bs) {s : Nat} (hs : s < n) : awayOk 4 bs.length 0 ((n : Int) / 2) (s : Nat) = true := by
  obtain ⟨z, b⟩ := h
  rw [b.len]
  have hm := List.mem_range.mpr hs
  rcases z with rfl | rfl | rfl | rfl
  · exact aw1 s hm
  · exact aw2 s hm
  · exact aw4 s hm
  · exact aw8 s hm
/-- the slot to which an ask by tree goes -/
def treeAt (xs bs : List Int) (r : Int) : Nat := if r ∈ xs then xs.idxOf r else (ledF 4 bs 0 0 ((xs.length : Int) / 2)).toNat
theorem treeAt_lt {xs bs : List Int} {r : Int} (h : TreeOk xs.length bs) : treeAt xs bs r < xs.length := by
  unfold treeAt
  split
  · rename_i e
    exact List.idxOf_lt_length_of_mem e
  · have := led_ok h
    omega
def putAt (xs : List Int) (s : Nat) (r : Int) : List Int := xs.take s ++ [r] ++ xs.drop (s + 1)
def askF (way : Str) (xs bs : List Int) (r : Int) : List Int × List Int :=
  if way = "tree" then (putAt xs (treeAt xs bs r) r, awayF 4 bs 0 ((xs.length : Int) / 2) (treeAt xs bs r : Nat))
  else if way = "first" ∧ r ∈ xs then (xs, bs) else (putF xs r, bs)
def LayAt (H : Hp) (v : Addr) (xs bs : List Int) : Prop := ∃ a b : Addr, PTup H v [.ref a, .ref b] ∧ PTup H a (xs.map V.int) ∧ PTup H b (bs.map V.int)
def AnsAt (H : Hp) (v : Addr) (xs bs : List Int) (near : Bool) : Prop := ∃ l : Addr, PTup H v [.ref l, .bl near] ∧ LayAt H l xs bs
theorem LayAt.same {H H' : Hp} {v : Addr} {xs bs : List Int} (h : LayAt H v xs bs) (s : Same H H') : LayAt H' v xs bs := by
  obtain ⟨a, b, h1, h2, h3⟩ := h
  exact ⟨a, b, h1.same s, h2.same s, h3.same s⟩
theorem AnsAt.same {H H' : Hp} {v : Addr} {xs bs : List Int} {k : Bool} (h : AnsAt H v xs bs k) (s : Same H H') : AnsAt H' v xs bs k := by
  obtain ⟨l, h1, h2⟩ := h
  exact ⟨l, h1.same s, h2.same s⟩
def spTree : Sp := fun vs H Q _ => ∃ (a b : Addr) (xs bs : List Int) (r : Int), vs = [.ref a, .ref b, .int r] ∧ PTup H a (xs.map V.int) ∧ PTup H b (bs.map V.int) ∧ TreeOk xs.length bs ∧
  ∀ v H', Same H H' → LayAt H' v (putAt xs (treeAt xs bs r) r) (awayF 4 bs 0 ((xs.length : Int) / 2) (treeAt xs bs r : Nat)) → Q (.ref v) H'
def spAsked : Sp := fun vs H Q _ => ∃ (t : Addr) (xs bs : List Int) (r : Int) (way : Str), vs = [.ref t, .int r, .str way] ∧ LayAt H t xs bs ∧ (way = "tree" → TreeOk xs.length bs) ∧ 0 < xs.length ∧ xs.length ≤ 8 ∧
  ∀ v H', Same H H' → AnsAt H' v (askF way xs bs r).1 (askF way xs bs r).2 (decide (r ∈ xs)) → Q (.ref v) H'
theorem scByTree : FnScope ["slots", "bits", "room", "size", "slot"] ["slots", "bits", "room"] (defScope sByTree) := ⟨rfl, rfl, rfl, by decide +kernel, rfl, by decide +kernel, by decide +kernel⟩
theorem scAsked : FnScope ["lay", "room", "way", "slots", "bits", "near"] ["lay", "room", "way"] (defScope sAsked) := ⟨rfl, rfl, rfl, by decide +kernel, rfl, by decide +kernel, by decide +kernel⟩
section
variable {P : Program} {w : World} {K : PySem.W.Frag} {mg : Str → Option Value} {base : Heap}
theorem ok_tree (T : At K mg "asked_by_tree" sByTree ["slots", "bits", "room"]) (B : Bt mg) (c_slot_led_to : Cal P w K mg base 1 "slot_led_to" ["bits", "size"] spLed) (c_led_away : Cal P w K mg base 1 "led_away" ["bits", "slot", "size"] spAway) :
    Cal P w K mg base 2 "asked_by_tree" ["slots", "bits", "room"] spTree := by
  refine cal_of T scByTree (fun vs H Q E h => ?_) (fun f cdv A outer s H vs Q E hr h => ?_)
  · obtain ⟨a, b, xs, bs, r, rfl, _⟩ := h
    rfl
  · obtain ⟨a, b, xs, bs, r, rfl, hx, hb, ht, q⟩ := h
    have hn : xs.length ≤ 8 := by
      have := ht.sz
      omega
    have hs := treeAt_lt (r := r) ht
    refine ⟨_, (pss_cons (ps_set (i := 3) scByTree.nd rfl (Or.inl rfl) (pe_callB call_len_seq (by rfl) B.len PySem.boot_len (pa_cons (pv 0) pa_nil)))
      (pss_cons (ps_set (i := 4) scByTree.nd rfl (Or.inl rfl) (pe_ifExp (pt_cmpR op_in_seq (pv 2) (pv 0) (by rfl)) (pe_mT PySem.F.slot_tuple_index PySem.F.type_tuple_index mt_tindex (pv 0) (pa_cons (pv 2) pa_nil)) (pe_own c_slot_led_to hr (by decide) (by rfl) (pa_cons (pv 1) (pa_cons (pv 3) pa_nil)))))
      (pss_one (ps_ret (pe_tupF (pa_cons (pe_op op_catF (pe_op op_catF (pe_slice sl_tupF (pv 0) po_none (po_some (pv 4))) (pe_tupF (pa_cons (pv 2) pa_nil))) (pe_slice sl_tupF (pv 0) (po_some (pe_op op_add (pv 4) pe_int)) po_none)) (pa_cons (pe_own c_led_away hr (by decide) (by rfl) (pa_cons (pv 1) (pa_cons (pv 4) (pa_cons (pv 3) pa_nil)))) pa_nil))))))), ?_⟩
    refine ⟨_, rfl, a, _, rfl, .inr hx.sq, ?_⟩
    rw [List.length_map]
    refine ⟨_, rfl, _, rfl, a, _, rfl, .inr hx.sq, rfl, flat_ints xs, _, rfl, ?_⟩
    rw [show (if false = true then !inV (V.int r) (xs.map V.int) else inV (V.int r) (xs.map V.int)) = decide (r ∈ xs) from in_ints r xs]
    refine ite3 (fun e => ?_) (fun e => ?_)
    refine ⟨_, rfl, ⟨a, _, rfl, hx⟩, _, rfl, a, xs, r, rfl, rfl, hx.sq, e, ?_⟩
    rw [show xs.idxOf r = treeAt xs bs r by unfold treeAt; rw [if_pos e]]
    rotate_left
    refine ⟨_, rfl, _, rfl, b, _, bs, rfl, hb, (led_ok ht).1, ?_⟩
    rw [show ledF 4 bs 0 0 ((xs.length : Int) / 2) = ((treeAt xs bs r : Nat) : Int) by
      unfold treeAt
      rw [if_neg e]
      have := led_ok ht
      omega]
    all_goals
      refine ⟨_, rfl, _, rfl, _, rfl, a, _, rfl, hx, fun v1 H1 s1 p1 => ?_⟩
      rw [cut_to xs (treeAt xs bs r) (by omega)] at p1
      refine ⟨_, rfl, (by show 1 ≤ sizeLine; decide), fun v2 H2 s2 n2 p2 => ?_⟩
      refine ⟨v1, v2, _, _, rfl, rfl, p1.same s2, p2, ?_, fun v3 H3 s3 p3 => ?_⟩
      · rw [List.length_map, List.length_take]
        exact Nat.le_of_lt (small1000 (by show _ + 1 ≤ 1000; omega))
      refine ⟨_, rfl, _, rfl, _, _, rfl, rfl, _, rfl, a, _, rfl, ((hx.same s1).same s2).same s3, fun v4 H4 s4 p4 => ?_⟩
      rw [show ((treeAt xs bs r : Nat) : Int) + 1 = ((treeAt xs bs r + 1 : Nat) : Int) by omega, cut_from xs (treeAt xs bs r + 1) (by omega)] at p4
      refine ⟨v3, v4, _, _, rfl, rfl, p3.same s4, p4, ?_, fun v5 H5 s5 p5 => ?_⟩
      · rw [List.length_append, List.length_map, List.length_map, List.length_take, List.length_drop]
        exact Nat.le_of_lt (small1000 (by show _ + 1 + _ ≤ 1000; omega))
      have s15 : Same H H5 := (((s1.trans s2).trans s3).trans s4).trans s5
      refine ⟨_, rfl, _, rfl, _, rfl, b, _, _, bs, rfl, hb.same s15, away_ok ht hs, fun v6 H6 s6 p6 => ?_⟩
      refine ⟨(by show 2 ≤ sizeLine; decide), fun v7 H7 s7 n7 p7 => q v7 H7 ((s15.trans s6).trans s7) ⟨v5, v6, p7, ?_, p6.same s7⟩⟩
      have e5 : List.map V.int (xs.take (treeAt xs bs r)) ++ [V.int r] ++ List.map V.int (xs.drop (treeAt xs bs r + 1)) = (putAt xs (treeAt xs bs r) r).map V.int := by
        unfold putAt
        rw [List.map_append, List.map_append]
        rfl
      rw [← e5]
      exact (p5.same s6).same s7
theorem ok_asked (T : At K mg "asked" sAsked ["lay", "room", "way"]) (c_asked_by_tree : Cal P w K mg base 2 "asked_by_tree" ["slots", "bits", "room"] spTree) (c_put_first : Cal P w K mg base 1 "put_first" ["slots", "room"] spPut) :
    Cal P w K mg base 3 "asked" ["lay", "room", "way"] spAsked := by
  refine cal_of T scAsked (fun vs H Q E h => ?_) (fun f cdv A outer s H vs Q E hr h => ?_)
  · obtain ⟨t, xs, bs, r, way, rfl, _⟩ := h
    rfl
  · obtain ⟨t, xs, bs, r, way, rfl, ⟨a, b, ht, hx, hb⟩, hok, h0, hn, q⟩ := h
    refine ⟨_, (pss_cons (ps_asg (pv 0) (pg_tup (by rfl) (pgs_cons (pg_name (i := 3) scAsked.nd rfl (Or.inl rfl)) (pgs_cons (pg_name (i := 4) scAsked.nd rfl (Or.inl rfl)) pgs_nil))))
      (pss_cons (ps_set (i := 5) scAsked.nd rfl (Or.inl rfl) (pe_cmpR op_in_seq (pv 1) (pv 3) (by rfl)))
      (pss_cons (ps_if (pt_cmpR op_eq (pv 2) pe_str (nomark _)) (pss_one (ps_ret (pe_tupF (pa_cons (pe_own c_asked_by_tree hr (by decide) (by rfl) (pa_cons (pv 3) (pa_cons (pv 4) (pa_cons (pv 1) pa_nil)))) (pa_cons (pv 5) pa_nil))))) pss_nil)
      (pss_cons (ps_if (PW.pt (pw_and (pt_cmpR op_eq (pv 2) pe_str (nomark _)) (pw_and1 (pt_val (pv 5))))) (pss_one (ps_ret (pe_tupF (pa_cons (pe_tupF (pa_cons (pv 3) (pa_cons (pv 4) pa_nil))) (pa_cons (pv 5) pa_nil))))) pss_nil)
      (pss_one (ps_ret (pe_tupF (pa_cons (pe_tupF (pa_cons (pe_own c_put_first hr (by decide) (by rfl) (pa_cons (pv 3) (pa_cons (pv 1) pa_nil))) (pa_cons (pv 4) pa_nil))) (pa_cons (pv 5) pa_nil))))))))), ?_⟩
    refine ⟨_, rfl, t, _, rfl, ht.sq, rfl, _, _, rfl, _, _, rfl, rfl, ?_⟩
    refine ⟨_, rfl, _, rfl, a, _, rfl, .inr hx.sq, rfl, flat_ints xs, ?_⟩
    rw [show (if false = true then !inV (V.int r) (xs.map V.int) else inV (V.int r) (xs.map V.int)) = decide (r ∈ xs) from in_ints r xs]
    refine ⟨_, rfl, rfl, _, rfl, ite3 (fun e => ?_) (fun e => ?_)⟩
    · have e1 : way = "tree" := V.str.inj e
      refine ⟨_, rfl, _, rfl, _, rfl, a, b, xs, bs, r, rfl, hx, hb, hok e1, fun v H1 s1 la => ?_⟩
      refine ⟨_, rfl, (by show 2 ≤ sizeLine; decide), fun v2 H2 s2 n2 p2 => q v2 H2 (s1.trans s2) ⟨v, p2, ?_⟩⟩
      unfold askF
      rw [if_pos e1]
      exact la.same s2
    · have e1 : ¬ way = "tree" := fun z => e (by rw [z])
      refine ⟨_, rfl, rfl, _, rfl, ite3 (fun e2 => ?_) (fun e2 => ?_)⟩
      · have e3 : way = "first" := V.str.inj e2
        refine ⟨_, rfl, _, rfl, ite3 (fun e4 => ?_) (fun e4 => ?_)⟩
        · refine ⟨_, rfl, _, rfl, (by show 2 ≤ sizeLine; decide), fun v1 H1 s1 n1 p1 => ?_⟩
          refine ⟨_, rfl, (by show 2 ≤ sizeLine; decide), fun v2 H2 s2 n2 p2 => q v2 H2 (s1.trans s2) ⟨v1, p2, ?_⟩⟩
          unfold askF
          rw [if_neg e1, if_pos ⟨e3, e4⟩]
          exact ⟨a, b, p1.same s2, (hx.same s1).same s2, (hb.same s1).same s2⟩
        · refine ⟨_, rfl, _, rfl, a, xs, r, rfl, hx, h0, by omega, fun v1 H1 s1 p1 => ?_⟩
          refine ⟨_, rfl, (by show 2 ≤ sizeLine; decide), fun v2 H2 s2 n2 p2 => ?_⟩
          refine ⟨_, rfl, (by show 2 ≤ sizeLine; decide), fun v3 H3 s3 n3 p3 => q v3 H3 ((s1.trans s2).trans s3) ⟨v2, p3, ?_⟩⟩
          unfold askF
          rw [if_neg e1, if_neg (fun z => e4 z.2)]
          exact ⟨v1, b, p2.same s3, (p1.same s2).same s3, ((hb.same s1).same s2).same s3⟩
      · have e3 : ¬ way = "first" := fun z => e2 (by rw [z])
        refine ⟨_, rfl, _, rfl, a, xs, r, rfl, hx, h0, by omega, fun v1 H1 s1 p1 => ?_⟩
        refine ⟨_, rfl, (by show 2 ≤ sizeLine; decide), fun v2 H2 s2 n2 p2 => ?_⟩
        refine ⟨_, rfl, (by show 2 ≤ sizeLine; decide), fun v3 H3 s3 n3 p3 => q v3 H3 ((s1.trans s2).trans s3) ⟨v2, p3, ?_⟩⟩
        unfold askF
        rw [if_neg e1, if_neg (fun z => e3 z.1)]
        exact ⟨v1, b, p2.same s3, (p1.same s2).same s3, ((hb.same s1).same s2).same s3⟩
end
end Su
namespace Su
open PySem PySem.Spec PyProof.Rows L2
/-- the bits over a slot, and the side on which it lies -/
def pathF : Nat → Int → Int → Int → Int → List (Int × Int)
  | 0, _, _, _, _ => []
  | f + 1, s, low, bit, half => if 0 < half then (bit, if low + half ≤ s then 1 else 0) :: pathF f s (low + half * (if low + half ≤ s then 1 else 0)) (2 * bit + 1 + (if low + half ≤ s then 1 else 0)) (half / 2) else []
def Prs (H : Hp) : List V → List (Int × Int) → Prop
  | [], [] => True
  | v :: vs, q :: qs => (∃ t, v = .ref t ∧ PTup H t [.int q.1, .int q.2]) ∧ Prs H vs qs
  | _, _ => False
theorem Prs.map {H H' : Hp} (h : ∀ a xs, PTup H a xs → PTup H' a xs) : ∀ {vs : List V} {ps : List (Int × Int)}, Prs H vs ps → Prs H' vs ps
  | [], [], _ => trivial
  | v :: vs, q :: qs, z => by
    obtain ⟨⟨t, e, p⟩, r⟩ := z
    exact ⟨⟨t, e, h _ _ p⟩, Prs.map h r⟩
  | [], _ :: _, z => z.elim
  | _ :: _, [], z => z.elim
theorem Prs.snoc {H : Hp} {t : Addr} {q : Int × Int} (p : PTup H t [.int q.1, .int q.2]) : ∀ {vs : List V} {ps : List (Int × Int)}, Prs H vs ps → Prs H (vs ++ [.ref t]) (ps ++ [q])
  | [], [], _ => ⟨⟨t, rfl, p⟩, trivial⟩
  | v :: vs, q :: qs, z => ⟨z.1, Prs.snoc p z.2⟩
  | [], _ :: _, z => z.elim
  | _ :: _, [], z => z.elim
theorem Prs.len {H : Hp} : ∀ {vs : List V} {ps : List (Int × Int)}, Prs H vs ps → vs.length = ps.length
  | [], [], _ => rfl
  | v :: vs, q :: qs, z => by
    rw [List.length_cons, List.length_cons, Prs.len z.2]
  | [], _ :: _, z => z.elim
  | _ :: _, [], z => z.elim
theorem Prs.get {H : Hp} : ∀ {vs : List V} {ps : List (Int × Int)}, Prs H vs ps → ∀ {i : Nat} {v : V}, vs[i]? = some v → ∃ q t, ps[i]? = some q ∧ v = .ref t ∧ PTup H t [.int q.1, .int q.2]
  | [], [], _, i, v, e => by simp at e
  | v0 :: vs, q :: qs, z, 0, v, e => by
    obtain ⟨⟨t, e2, p⟩, _⟩ := z
    have e3 : v0 = v := by simpa using e
    subst e3
    exact ⟨q, t, rfl, e2, p⟩
  | v0 :: vs, q :: qs, z, i + 1, v, e => Prs.get z.2 (i := i) (by simpa using e)
  | [], _ :: _, z, _, _, _ => z.elim
  | _ :: _, [], z, _, _, _ => z.elim
theorem PTup.set {H : Hp} {a p : Addr} {xs l : List V} {o : HO} (h : PTup H a xs) (hp : H p = some (.lst l)) : PTup (upd H p o) a xs := by
  obtain ⟨ob, e, d⟩ := h
  refine ⟨ob, ?_, d⟩
  rw [upd_ne (ne_of e hp (by intro z; cases z))]
  exact e
def PathAt (H : Hp) (p : Addr) (ps : List (Int × Int)) : Prop := ∃ vs, H p = some (.lst vs) ∧ Prs H vs ps
def spPath : Sp := fun vs H Q _ => ∃ (s n : Int), vs = [.int s, .int n] ∧ 0 ≤ n ∧ n ≤ 8 ∧ ∀ (p : Addr) (H' : Hp), Same H H' → H p = none → PathAt H' p (pathF 4 s 0 0 (n / 2)) → Q (.ref p) H'
theorem scPath : FnScope ["_law_slot", "_law_big_here", "_law_found", "_law_low", "_law_bit", "_law_half", "_law_side"] ["_law_slot", "_law_big_here"] (defScope sPath) := ⟨rfl, rfl, rfl, by decide +kernel, rfl, by decide +kernel, by decide +kernel⟩
section
variable {P : Program} {w : World} {K : PySem.W.Frag} {mg : Str → Option Value} {base : Heap}
theorem ok_path (T : At K mg "_law_path" sPath ["_law_slot", "_law_big_here"]) (B : Bt mg) : Cal P w K mg base 1 "_law_path" ["_law_slot", "_law_big_here"] spPath := by
  refine cal_of T scPath (fun vs H Q E h => ?_) (fun f cdv A outer s H vs Q E hr h => ?_)
  · obtain ⟨sl, n, rfl, _⟩ := h
    rfl
  · obtain ⟨sl, n, rfl, n0, n1, q⟩ := h
    refine ⟨_, (pss_cons (ps_set (i := 2) scPath.nd rfl (Or.inl rfl) (pe_lst pa_nil))
      (pss_cons (ps_set (i := 3) scPath.nd rfl (Or.inl rfl) pe_int)
      (pss_cons (ps_set (i := 4) scPath.nd rfl (Or.inl rfl) pe_int)
      (pss_cons (ps_set (i := 5) scPath.nd rfl (Or.inl rfl) (pe_op op_fdiv (pv 1) pe_int))
      (pss_cons (ps_while PassesOwn.never (pt_cmpR op_gt (pv 5) pe_int (nomark _)) (pss_cons (ps_set (i := 6) scPath.nd rfl (Or.inl rfl) (pe_callTy call_int1 (by rfl) B.int (by decide +kernel) (pa_cons (pe_cmpR op_ge (pv 0) (pe_op op_add (pv 3) (pv 5)) (nomark _)) pa_nil)))
      (pss_cons (ps_expr (pe_bm PySem.F.plainAttrs_list PySem.F.slot_list_append PySem.F.type_list_append mt_append (pv 2) (pa_cons (pe_tupF (pa_cons (pv 4) (pa_cons (pv 6) pa_nil))) pa_nil)))
      (pss_cons (ps_set (i := 3) scPath.nd rfl (Or.inl rfl) (pe_op op_add (pv 3) (pe_op op_mul (pv 5) (pv 6))))
      (pss_cons (ps_set (i := 4) scPath.nd rfl (Or.inl rfl) (pe_op op_add (pe_op op_add (pe_op op_mul pe_int (pv 4)) pe_int) (pv 6)))
      (pss_one (ps_set (i := 5) scPath.nd rfl (Or.inl rfl) (pe_op op_fdiv (pv 5) pe_int))))))))
      (pss_one (ps_ret (pv 2)))))))), ?_⟩
    refine ⟨Nat.zero_le _, fun p np => ?_⟩
    refine ⟨_, rfl, _, _, rfl, rfl, ⟨by decide, by decide⟩, ?_⟩
    refine while_by (fun σ H' => ∃ (f : Nat) (low bit half : Int) (y : Option V) (done : List (Int × Int)) (vs : List V), σ = [some (.int sl), some (.int n), some (.ref p), some (.int low), some (.int bit), some (.int half), y] ∧ Same H H' ∧ H' p = some (.lst vs) ∧ Prs H' vs done ∧
      done.length + f = 4 ∧ half < 2 ^ f ∧ 0 ≤ half ∧ half ≤ 4 ∧ done ++ pathF f sl low bit half = pathF 4 sl 0 0 (n / 2)) (fun σ _ => num σ 5) ?_ ?_ ?_
    · exact ⟨4, 0, 0, n / 2, none, [], [], rfl, same_upd np, upd_same, trivial, rfl, by omega, by omega, by omega, rfl⟩
    · rintro σ H' ⟨f, low, bit, half, y, done, vs, rfl, sm, hp, pr, hf, h1, h2, h3, h4⟩
      refine ⟨_, rfl, _, _, rfl, rfl, _, rfl, ite3 (fun e => ?_) (fun e => ?_)⟩
      · cases f with
        | zero => exact absurd h1 (by omega)
        | succ f =>
          unfold pathF at h4
          rw [if_pos e] at h4
          refine ⟨_, rfl, _, rfl, _, rfl, _, _, rfl, rfl, _, _, rfl, rfl, .inr ⟨_, rfl, ?_⟩⟩
          have hif : (if decide (low + half ≤ sl) = true then (1 : Int) else 0) = if low + half ≤ sl then 1 else 0 := by
            by_cases z : low + half ≤ sl <;> simp [z]
          rw [hif]
          generalize hsd : (if low + half ≤ sl then (1 : Int) else 0) = sd at *
          have hsd1 : 0 ≤ sd ∧ sd ≤ 1 := by
            rw [← hsd]
            split <;> omega
          refine ⟨_, rfl, .inl ⟨rfl, _, SqL.of hp⟩, _, rfl, _, rfl, (by show 2 ≤ sizeLine; decide), fun t H2 s2 nt pt => ?_⟩
          refine ⟨p, vs, _, rfl, rfl, s2 _ _ hp, ?_, ?_⟩
          · rw [pr.len]
            exact small1000 (by omega)
          refine ⟨_, rfl, _, rfl, _, rfl, _, _, rfl, rfl, .inr ⟨by omega, by omega⟩, _, _, rfl, rfl, ?_⟩
          refine ⟨_, rfl, _, _, rfl, rfl, .inl ⟨by decide, by decide⟩, _, _, rfl, rfl, _, rfl, _, _, rfl, rfl, ?_⟩
          refine ⟨_, rfl, _, _, rfl, rfl, ⟨by decide, by decide⟩, ?_⟩
          refine ⟨⟨f, _, _, _, _, done ++ [(bit, sd)], vs ++ [.ref t], rfl, ?_, upd_same, ?_, ?_, ?_, ?_, ?_, ?_⟩, ?_⟩
          · intro b o eb
            rw [upd_ne (ne_of_none eb np)]
            exact s2 _ _ (sm _ _ eb)
          · refine Prs.map (fun a xs z => z.set (s2 _ _ hp)) (Prs.snoc (q := (bit, sd)) pt (Prs.map (fun a xs z => z.same s2) pr))
          · rw [List.length_append]
            show done.length + 1 + f = 4
            omega
          · have : (2 : Int) ^ (f + 1) = 2 ^ f * 2 := by rw [Int.pow_succ]
            omega
          · omega
          · omega
          · rw [List.append_assoc]
            exact h4
          · show (half / 2).toNat < half.toNat
            omega
      · have e2 : done = pathF 4 sl 0 0 (n / 2) := by
          rw [← h4]
          cases f with
          | zero =>
            unfold pathF
            rw [List.append_nil]
          | succ f =>
            unfold pathF
            rw [if_neg e, List.append_nil]
        exact ⟨_, rfl, q p H' sm np ⟨vs, hp, by rw [← e2]; exact pr⟩⟩
    · rintro σ H' Q1 Q2 hq ⟨v, hv, i, j, e1, e2, k, e3, z⟩
      exact ⟨v, hv, i, j, e1, e2, k, e3, hq _ _ z⟩
end
end Su
namespace Su
open PySem PySem.Spec PyProof.Rows L2
def okAt (bs : List Int) (n : Nat) (s : Nat) : Bool := (pathF 4 (s : Int) 0 0 ((n : Int) / 2)).all fun q => decide (bs.getD q.1.toNat 0 = q.2)
def pointF (bs : List Int) (n : Nat) : Nat := ((List.range n).find? (okAt bs n)).getD 0
theorem pb1 : ∀ s ∈ List.range 1, ∀ q ∈ pathF 4 ((s : Nat) : Int) 0 0 (((1 : Nat) : Int) / 2), 0 ≤ q.1 ∧ q.1 < 0 := by decide +kernel
theorem pb2 : ∀ s ∈ List.range 2, ∀ q ∈ pathF 4 ((s : Nat) : Int) 0 0 (((2 : Nat) : Int) / 2), 0 ≤ q.1 ∧ q.1 < 1 := by decide +kernel
theorem pb4 : ∀ s ∈ List.range 4, ∀ q ∈ pathF 4 ((s : Nat) : Int) 0 0 (((4 : Nat) : Int) / 2), 0 ≤ q.1 ∧ q.1 < 3 := by decide +kernel
theorem pb8 : ∀ s ∈ List.range 8, ∀ q ∈ pathF 4 ((s : Nat) : Int) 0 0 (((8 : Nat) : Int) / 2), 0 ≤ q.1 ∧ q.1 < 7 := by decide +kernel
theorem path_in {n : Nat} {bs : List Int} (h : TreeOk n bs) {s : Nat} (hs : s < n) {q : Int × Int} (hq : q ∈ pathF 4 (s : Int) 0 0 ((n : Int) / 2)) : 0 ≤ q.1 ∧ q.1.toNat < bs.length := by
  obtain ⟨z, b⟩ := h
  rw [b.len]
  have hm := List.mem_range.mpr hs
  rcases z with rfl | rfl | rfl | rfl
  · have := pb1 s hm q hq
    omega
  · have := pb2 s hm q hq
    omega
  · have := pb4 s hm q hq
    omega
  · have := pb8 s hm q hq
    omega
theorem pt1 : ∀ bs ∈ allBits 0, ((pointF bs 1 : Nat) : Int) = ledF 4 bs 0 0 (((1 : Nat) : Int) / 2) := by decide +kernel
theorem pt2 : ∀ bs ∈ allBits 1, ((pointF bs 2 : Nat) : Int) = ledF 4 bs 0 0 (((2 : Nat) : Int) / 2) := by decide +kernel
theorem pt4 : ∀ bs ∈ allBits 3, ((pointF bs 4 : Nat) : Int) = ledF 4 bs 0 0 (((4 : Nat) : Int) / 2) := by decide +kernel
theorem pt8 : ∀ bs ∈ allBits 7, ((pointF bs 8 : Nat) : Int) = ledF 4 bs 0 0 (((8 : Nat) : Int) / 2) := by decide +kernel
theorem point_led {n : Nat} {bs : List Int} (h : TreeOk n bs) : ((pointF bs n : Nat) : Int) = ledF 4 bs 0 0 ((n : Int) / 2) := by
  obtain ⟨z, b⟩ := h
  have hm := mem_allBits _ _ b
  rcases z with rfl | rfl | rfl | rfl
  · exact pt1 bs hm
  · exact pt2 bs hm
  · exact pt4 bs hm
  · exact pt8 bs hm
theorem shaped_ints (ns : List Int) : SeqAt.shaped (.list (ns.map PyData.int)) = true := by
  have e : ∀ l : List Int, PyData.canLayAll0 (l.map PyData.int) = true ∧ PyData.depthAll (l.map PyData.int) = 0 := by
    intro l
    induction l with
    | nil => exact ⟨by first | rfl | simp [PyData.canLayAll0], by simp [PyData.depthAll]⟩
    | cons x l ih =>
      refine ⟨?_, ?_⟩
      · rw [List.map_cons]
        simp only [PyData.canLayAll0, ih.1, Bool.and_true]
        first | rfl | simp [PyData.canLay0]
      · rw [List.map_cons]
        simp only [PyData.depthAll, ih.2, PyData.depth]
        rfl
  unfold SeqAt.shaped
  have h1 := e ns
  simp only [PyData.canLay0, PyData.depth, h1.1, h1.2, Bool.true_and]
  decide
theorem eqv_nil (ns : List Int) : PyData.eqv (.list (ns.map PyData.int)) (.list []) = decide (ns = []) := by
  cases ns with
  | nil => rfl
  | cons x l =>
    have e : decide (x :: l = ([] : List Int)) = false := by simp
    rw [e, List.map_cons]
    rfl
/-- what is not as the bits have it -/
def badOf (bs : List Int) (ps : List (Int × Int)) : List Int := (ps.filter fun q => !decide (bs.getD q.1.toNat 0 = q.2)).map (·.1)
theorem bad_nil (bs : List Int) (ps : List (Int × Int)) : badOf bs ps = [] ↔ (ps.all fun q => decide (bs.getD q.1.toNat 0 = q.2)) = true := by
  unfold badOf
  rw [List.map_eq_nil_iff, List.filter_eq_nil_iff, List.all_eq_true]
  constructor
  · intro h q hq
    have := h q hq
    simpa using this
  · intro h q hq
    have := h q hq
    simpa using this
theorem path_len : ∀ (s h : Int), (pathF 4 s 0 0 h).length ≤ 4 := by
  have e : ∀ (f : Nat) (s low bit h : Int), (pathF f s low bit h).length ≤ f := by
    intro f
    induction f with
    | zero => exact fun _ _ _ _ => Nat.le_refl _
    | succ f ih =>
      intro s low bit h
      unfold pathF
      split
      · rw [List.length_cons]
        exact Nat.succ_le_succ (ih _ _ _ _)
      · exact Nat.zero_le _
  exact fun s h => e 4 s 0 0 h
theorem iteNT {c A B : Prop} [Decidable c] (hc : ¬ c) (h : A) : if (!decide c) = true then A else B := by
  rw [if_pos (by simp [hc])]
  exact h
def spPointed : Sp := fun vs H Q _ => ∃ (b : Addr) (n : Nat) (bs : List Int), vs = [.ref b, .int (n : Int)] ∧ PTup H b (bs.map V.int) ∧ TreeOk n bs ∧ ∀ H', Same H H' → Q (.int (pointF bs n : Nat)) H'
theorem scPointed : FnScope ["_law_marks_here", "_law_big_here", "_law_slot", "_law_bit", "_law_side"] ["_law_marks_here", "_law_big_here"] (defScope sPointed) := ⟨rfl, rfl, rfl, by decide +kernel, rfl, by decide +kernel, by decide +kernel⟩
section
variable {P : Program} {w : World} {K : PySem.W.Frag} {mg : Str → Option Value} {base : Heap}
theorem ok_pointed (T : At K mg "_law_pointed" sPointed ["_law_marks_here", "_law_big_here"]) (B : Bt mg) (c_path : Cal P w K mg base 1 "_law_path" ["_law_slot", "_law_big_here"] spPath) :
    Cal P w K mg base 2 "_law_pointed" ["_law_marks_here", "_law_big_here"] spPointed := by
  refine cal_of T scPointed (fun vs H Q E h => ?_) (fun f cdv A outer s H vs Q E hr h => ?_)
  · obtain ⟨b, n, bs, rfl, _⟩ := h
    rfl
  · obtain ⟨b, n, bs, rfl, hb, ht, q⟩ := h
    have hn : 1 ≤ n ∧ n ≤ 8 := by
      have := ht.sz
      omega
    refine ⟨_, (pss_cons (ps_for PassesOwn.never rfl (pi_range1 (by rfl) B.range (pa_cons (pv 1) pa_nil)) (pg_name (i := 2) scPointed.nd rfl (Or.inl rfl)) (pss_one (ps_if (pt_cmpR (op_eqD hr.units) (pe_lc (own := [("_law_bit", 3), ("_law_side", 4)]) (g := gTup K 2 (gCons (gName 3) (gCons (gName 4) gNil))) (tt := (tTest (tOp rNe (tOp (rIxT K) (tVar 0) (tVar 3)) (tVar 4)))) (te := (tVar 3)) (by rfl) scPointed.nd (pi_list (pe_own c_path hr (by decide) (by rfl) (pa_cons (pv 2) (pa_cons (pv 1) pa_nil)))) (blkOk_by (own := [("_law_bit", 3), ("_law_side", 4)]) (N := ["_law_marks_here", "_law_big_here", "_law_slot", "_law_bit", "_law_side"]) (sc := defScope sPointed) (by decide +kernel)) (fun _ _ _ _ _ => (pg_tup (by rfl) (pgs_cons (pg_name (i := 3) scPointed.nd rfl (Or.inl rfl)) (pgs_cons (pg_name (i := 4) scPointed.nd rfl (Or.inl rfl)) pgs_nil)))) (fun _ _ _ _ _ => pts_one (pt_cmpR op_ne (pe_ix ix_tup (pv 0) (pv 3) (fun _ _ => rfl)) (pv 4) (nomark _))) (fun _ _ _ _ _ => (pv 3))) (pe_lst pa_nil) (nomark _)) (pss_one (ps_ret (pv 2))) pss_nil)))
      (pss_one (ps_ret pe_int))), ?_⟩
    refine ⟨_, rfl, _, rfl, (by omega), (by omega), ?_⟩
    rw [show ((n : Int) : Int).toNat = n by omega]
    refine for_range (lo := 0) (n := n) (fun i σ H2 => ∃ y y3 y4 : Option V, σ = [some (.ref b), some (.int (n : Int)), y, y3, y4] ∧ Same H H2 ∧ ∀ j, j < i → okAt bs n j = false) ?_ ?_ ?_
    · exact ⟨none, none, none, rfl, Same.refl H, fun j hj => absurd hj (Nat.not_lt_zero j)⟩
    · rintro i σ H2 hi ⟨y, y3, y4, rfl, s2, hno⟩
      refine ⟨_, rfl, _, rfl, _, _, rfl, by omega, by omega, fun p H3 s3 np ⟨vs, hp, pr⟩ => ?_⟩
      rw [show (0 : Int) + (i : Int) = (i : Int) by omega] at pr ⊢
      generalize hps : pathF 4 (i : Int) 0 0 ((n : Int) / 2) = ps at pr
      have hin : ∀ q ∈ ps, 0 ≤ q.1 ∧ q.1.toNat < bs.length := fun q hq => path_in ht hi (by rw [hps]; exact hq)
      refine ⟨p, rfl, ⟨_, SqL.of hp⟩, fun D nD => ?_⟩
      refine lc_list (K := K) (a := p) (xs := vs) (fun j H4 => Same H3 H4 ∧ H4 D = some (.lst ((badOf bs (ps.take j)).map V.int))) ?_ ?_ ?_ ?_
      · exact ⟨same_upd nD, upd_same⟩
      · rintro j H4 _ ⟨s4, _⟩
        exact SqL.of (s4 _ _ hp)
      · rintro j x H4 hx ⟨s4, hD⟩
        obtain ⟨qq, t, eq, rfl, pt⟩ := pr.get hx
        have hj : j < ps.length := (List.getElem?_eq_some_iff.mp eq).1
        have hq := hin qq (List.mem_of_getElem? eq)
        have g : atI (bs.map V.int) qq.1 = some (V.int (bs.getD qq.1.toNat 0)) := atI_int hq.1 (by
          rw [List.getElem?_map, List.getElem?_eq_getElem hq.2, List.getD_eq_getElem?_getD, List.getElem?_eq_getElem hq.2]
          rfl)
        have ht1 : ps.take (j + 1) = ps.take j ++ [qq] := by
          rw [List.take_add_one, eq]
          rfl
        refine ⟨t, _, rfl, (pt.same s4).sq, rfl, _, _, rfl, _, _, rfl, rfl, rfl, ?_⟩
        refine ⟨_, rfl, _, rfl, b, _, _, _, rfl, rfl, (((hb.same s2).same s3).same s4).sq, g, _, rfl, rfl, _, rfl, ?_⟩
        by_cases e : bs.getD qq.1.toNat 0 = qq.2
        · refine iteNS (congrArg V.int e) ⟨s4, ?_⟩
          rw [ht1]
          unfold badOf
          rw [List.filter_append, List.filter_cons_of_neg (by simpa using e), List.filter_nil, List.append_nil]
          exact hD
        · refine iteNT (fun z => e (V.int.inj z)) ?_
          refine ⟨_, rfl, _, hD, ?_, ?_, ?_⟩
          · rw [List.length_map]
            unfold badOf
            rw [List.length_map]
            have h1 := List.length_filter_le (fun q : Int × Int => !decide (bs.getD q.1.toNat 0 = q.2)) (ps.take j)
            rw [List.length_take] at h1
            have h2 := path_len (i : Int) ((n : Int) / 2)
            rw [hps] at h2
            exact small1000 (by omega)
          · intro a o ea
            rw [upd_ne (ne_of_none ea nD)]
            exact s4 _ _ ea
          · rw [upd_same, ht1]
            unfold badOf
            rw [List.filter_append, List.filter_cons_of_pos (by simpa using e), List.filter_nil, List.map_append, List.map_append]
            rfl
      · rintro H4 ⟨s4, hD⟩
        rw [List.take_of_length_le (by rw [pr.len]; exact Nat.le_refl _)] at hD
        refine ⟨Nat.zero_le _, fun c nc => ?_⟩
        have ecD : D ≠ c := ne_of_none hD nc
        refine ⟨_, _, .lst (SqL.of (by rw [upd_ne ecD]; exact hD)) (dp_ints _), .lst (SqL.of upd_same) .nil, shaped_ints _, shaped_ints [], _, rfl, ?_⟩
        rw [eqv_nil]
        have sa : Same H (upd H4 c (.lst [])) := ((s2.trans s3).trans s4).trans (same_upd nc)
        refine ite3 (fun e => ?_) (fun e => ?_)
        · have ei : okAt bs n i = true := by
            unfold okAt
            rw [hps]
            exact (bad_nil bs ps).mp e
          have ep : pointF bs n = i := by
            unfold pointF
            rw [List.find?_range_eq_some.mpr ⟨ei, List.mem_range.mpr hi, fun j hj => by rw [hno j hj]; rfl⟩]
            rfl
          have z := q _ sa
          rw [ep] at z
          exact ⟨_, rfl, z⟩
        · refine ⟨_, _, _, rfl, sa, fun j hj => ?_⟩
          by_cases ej : j = i
          · subst ej
            cases z : okAt bs n j with
            | false => rfl
            | true =>
              unfold okAt at z
              rw [hps] at z
              exact absurd ((bad_nil bs ps).mpr z) e
          · exact hno j (by omega)
    · rintro σ H2 ⟨y, y3, y4, rfl, s2, hno⟩
      have e : pointF bs n = 0 := by
        unfold pointF
        rw [List.find?_eq_none.mpr (fun j hj => by rw [hno j (List.mem_range.mp hj)]; decide)]
        rfl
      have z := q H2 s2
      rw [e] at z
      exact z
end
end Su
namespace Su
open PySem PySem.Spec PyProof.Rows L2
def setAll (led : List Int) (ps : List (Int × Int)) : List Int := ps.foldl (fun l q => l.set q.1.toNat (1 - q.2)) led
theorem away_path : ∀ (f : Nat) (led : List Int) (s low bit half : Int), awayF f led bit half (s - low) = setAll led (pathF f s low bit half)
  | 0, _, _, _, _, _ => rfl
  | f + 1, led, s, low, bit, half => by
    unfold awayF pathF
    by_cases h : 0 < half
    · rw [if_pos h, if_pos h]
      by_cases z : low + half ≤ s
      · rw [if_pos z, if_pos (show half ≤ s - low by omega), show s - low - 1 * half = s - (low + half * 1) by omega, away_path f _ s (low + half * 1) _ _]
        rfl
      · rw [if_neg z, if_neg (show ¬ half ≤ s - low by omega), show s - low - 0 * half = s - (low + half * 0) by omega, away_path f _ s (low + half * 0) _ _]
        rfl
    · rw [if_neg h, if_neg h]
      rfl
theorem setAll_len (ps : List (Int × Int)) : ∀ led : List Int, (setAll led ps).length = led.length := by
  induction ps with
  | nil => exact fun _ => rfl
  | cons q ps ih =>
    intro led
    show (setAll (led.set q.1.toNat (1 - q.2)) ps).length = led.length
    rw [ih, List.length_set]
theorem filter_len (r : Int) : ∀ xs : List Int, xs.length = xs.count r + (xs.filter fun x => !decide (x = r)).length
  | [] => rfl
  | x :: xs => by
    have ih := filter_len r xs
    by_cases e : x = r
    · subst e
      rw [List.length_cons, List.count_cons_self, List.filter_cons_of_neg (by simp)]
      omega
    · rw [List.length_cons, List.count_cons_of_ne e, List.filter_cons_of_pos (by simp [e]), List.length_cons]
      omega
theorem filter_none {r : Int} : ∀ {xs : List Int}, r ∉ xs → (xs.filter fun x => !decide (x = r)) = xs := fun {xs} h =>
  List.filter_eq_self.mpr fun x hx => by
    have : ¬ x = r := fun z => h (z ▸ hx)
    simp [this]
theorem filter_once {r : Int} : ∀ {xs : List Int}, r ∈ xs → xs.count r ≤ 1 → (xs.filter fun x => !decide (x = r)) = xs.take (xs.idxOf r) ++ xs.drop (xs.idxOf r + 1)
  | [], h, _ => (List.not_mem_nil h).elim
  | x :: xs, h, hc => by
    by_cases e : x = r
    · subst e
      rw [List.count_cons_self] at hc
      have hn : x ∉ xs := List.count_eq_zero.mp (by omega)
      rw [List.idxOf_cons_self, List.filter_cons_of_neg (by simp), filter_none hn]
      rfl
    · have hm : r ∈ xs := by
        rcases List.mem_cons.mp h with z | z
        · exact absurd z.symm e
        · exact z
      rw [List.count_cons_of_ne e] at hc
      have ei : (x :: xs).idxOf r = xs.idxOf r + 1 := by
        have z : (x == r) = false := by simpa using e
        rw [List.idxOf_cons, z]
        rfl
      rw [ei, List.filter_cons_of_pos (by simp [e]), filter_once hm hc]
      rfl
theorem put_filter {r : Int} {xs : List Int} (hc : xs.count r ≤ 1) (h0 : 0 < xs.length) : (r :: xs.filter fun x => !decide (x = r)).take xs.length = putF xs r := by
  have hl := filter_len r xs
  unfold putF goneAt
  by_cases h : r ∈ xs
  · rw [if_pos h, ← filter_once h hc]
    refine List.take_of_length_le ?_
    rw [List.length_cons]
    have := List.count_pos_iff.mpr h
    omega
  · rw [if_neg h, filter_none h]
    obtain ⟨m, hm⟩ : ∃ m, xs.length = m + 1 := ⟨xs.length - 1, by omega⟩
    rw [hm, List.take_succ_cons, Nat.add_sub_cancel, List.drop_of_length_le (by omega), List.append_nil]
def spBehind : Sp := fun vs H Q _ => ∃ (a b : Addr) (xs bs : List Int) (r : Int) (way : Str), vs = [.ref a, .ref b, .int r, .str way] ∧ PTup H a (xs.map V.int) ∧ PTup H b (bs.map V.int) ∧ (way = "tree" → TreeOk xs.length bs) ∧ 0 < xs.length ∧ xs.length ≤ 8 ∧ xs.count r ≤ 1 ∧
  ∀ v H', Same H H' → LayAt H' v (askF way xs bs r).1 (askF way xs bs r).2 → Q (.ref v) H'
theorem scBehind : FnScope ["_law_cells_here", "_law_marks_here", "_law_one", "_law_sort_here", "_law_slot", "_law_later", "_law_bit", "_law_side", "_law_rest", "_law_cell"] ["_law_cells_here", "_law_marks_here", "_law_one", "_law_sort_here"] (defScope sBehind) := ⟨rfl, rfl, rfl, by decide +kernel, rfl, by decide +kernel, by decide +kernel⟩
section
variable {P : Program} {w : World} {K : PySem.W.Frag} {mg : Str → Option Value} {base : Heap}
theorem ok_behind (T : At K mg "_law_behind" sBehind ["_law_cells_here", "_law_marks_here", "_law_one", "_law_sort_here"]) (B : Bt mg) (c_path : Cal P w K mg base 1 "_law_path" ["_law_slot", "_law_big_here"] spPath) (c_pointed : Cal P w K mg base 2 "_law_pointed" ["_law_marks_here", "_law_big_here"] spPointed) :
    Cal P w K mg base 3 "_law_behind" ["_law_cells_here", "_law_marks_here", "_law_one", "_law_sort_here"] spBehind := by
  refine cal_of T scBehind (fun vs H Q E h => ?_) (fun f cdv A outer s H vs Q E hr h => ?_)
  · obtain ⟨a, b, xs, bs, r, way, rfl, _⟩ := h
    rfl
  · obtain ⟨a, b, xs, bs, r, way, rfl, hx, hb, hok, h0, hn, hc, q⟩ := h
    refine ⟨_, (pss_cons (ps_if (pt_cmpR op_eq (pv 3) pe_str (nomark _)) (pss_cons (ps_set (i := 4) scBehind.nd rfl (Or.inl rfl) (pe_ifExp (pt_cmpR op_in_seq (pv 2) (pv 0) (by rfl)) (pe_mT PySem.F.slot_tuple_index PySem.F.type_tuple_index mt_tindex (pv 0) (pa_cons (pv 2) pa_nil)) (pe_own c_pointed hr (by decide) (by rfl) (pa_cons (pv 1) (pa_cons (pe_callB call_len_seq (by rfl) B.len PySem.boot_len (pa_cons (pv 0) pa_nil)) pa_nil)))))
      (pss_cons (ps_set (i := 5) scBehind.nd rfl (Or.inl rfl) (pe_callTy call_list_of (by rfl) B.list (by decide +kernel) (pa_cons (pv 1) pa_nil)))
      (pss_cons (ps_for PassesOwn.never rfl (pi_list (pe_own c_path hr (by decide) (by rfl) (pa_cons (pv 4) (pa_cons (pe_callB call_len_seq (by rfl) B.len PySem.boot_len (pa_cons (pv 0) pa_nil)) pa_nil)))) (pg_tup (by rfl) (pgs_cons (pg_name (i := 6) scBehind.nd rfl (Or.inl rfl)) (pgs_cons (pg_name (i := 7) scBehind.nd rfl (Or.inl rfl)) pgs_nil))) (pss_one (ps_asg (pe_op op_sub pe_int (pv 7)) (pg_sub (pv 5) (pv 6) set_list))))
      (pss_one (ps_ret (pe_tupF (pa_cons (pe_op op_catF (pe_op op_catF (pe_slice sl_tupF (pv 0) po_none (po_some (pv 4))) (pe_tupF (pa_cons (pv 2) pa_nil))) (pe_slice sl_tupF (pv 0) (po_some (pe_op op_add (pv 4) pe_int)) po_none)) (pa_cons (pe_callTy call_tupleF (by rfl) B.tuple (by decide +kernel) (pa_cons (pv 5) pa_nil)) pa_nil)))))))) pss_nil)
      (pss_cons (ps_if (PW.pt (pw_and (pt_cmpR op_in_seq (pv 2) (pv 0) (by rfl)) (pw_and1 (pt_cmpR op_eq (pv 3) pe_str (nomark _))))) (pss_one (ps_ret (pe_tupF (pa_cons (pv 0) (pa_cons (pv 1) pa_nil))))) pss_nil)
      (pss_cons (ps_setLc (i := 8) (own := [("_law_cell", 9)]) (g := gName 9) (tt := (tTest (tOp rNe (tVar 9) (tVar 2)))) (te := (tVar 9)) (by rfl) scBehind.nd rfl rfl (sw_true rfl rfl rfl (by decide +kernel)) (pi_tup (pv 0)) (blkOk_by (own := [("_law_cell", 9)]) (N := ["_law_cells_here", "_law_marks_here", "_law_one", "_law_sort_here", "_law_slot", "_law_later", "_law_bit", "_law_side", "_law_rest", "_law_cell"]) (sc := defScope sBehind) (by decide +kernel)) (fun _ _ _ _ _ => (pg_name (i := 9) scBehind.nd rfl (Or.inl rfl))) (fun _ _ _ _ _ => pts_one (pt_cmpR op_ne (pv 9) (pv 2) (nomark _))) (fun _ _ _ _ _ => (pv 9)))
      (pss_one (ps_ret (pe_tupF (pa_cons (pe_callTy call_tupleF (by rfl) B.tuple (by decide +kernel) (pa_cons (pe_slice sl_list (pe_op op_cat (pe_lst (pa_cons (pv 2) pa_nil)) (pv 8)) po_none (po_some (pe_callB call_len_seq (by rfl) B.len PySem.boot_len (pa_cons (pv 0) pa_nil)))) pa_nil)) (pa_cons (pv 1) pa_nil)))))))), ?_⟩
    refine ⟨_, rfl, rfl, _, rfl, ite3 (fun e => ?_) (fun e => ?_)⟩
    · have e1 : way = "tree" := V.str.inj e
      have ht := hok e1
      have hs := treeAt_lt (r := r) ht
      refine ⟨_, rfl, _, rfl, a, _, rfl, .inr hx.sq, rfl, flat_ints xs, _, rfl, ?_⟩
      rw [show (if false = true then !inV (V.int r) (xs.map V.int) else inV (V.int r) (xs.map V.int)) = decide (r ∈ xs) from in_ints r xs]
      refine ite3 (fun e => ?_) (fun e => ?_)
      refine ⟨_, rfl, ⟨a, _, rfl, hx⟩, _, rfl, a, xs, r, rfl, rfl, hx.sq, e, ?_⟩
      rw [show xs.idxOf r = treeAt xs bs r by unfold treeAt; rw [if_pos e]]
      have s0 : Same H H := Same.refl H
      rotate_left
      refine ⟨_, rfl, _, rfl, a, _, rfl, .inr hx.sq, b, xs.length, bs, (by rw [List.length_map]; rfl), hb, ht, fun H0 s0 => ?_⟩
      rw [show ((pointF bs xs.length : Nat) : Int) = ((treeAt xs bs r : Nat) : Int) by
        rw [point_led ht]
        unfold treeAt
        rw [if_neg e]
        have := led_ok ht
        omega]
      all_goals
        generalize hsl : treeAt xs bs r = sl at hs ⊢
        have hx0 := hx.same s0
        have hb0 := hb.same s0
        refine ⟨_, rfl, b, _, rfl, .inr hb0.sq, fun l nl => ?_⟩
        have s1 := s0.trans (same_upd (o := HO.lst (bs.map V.int)) nl)
        refine ⟨_, rfl, _, rfl, a, _, rfl, .inr (hx.same s1).sq, _, _, rfl, (by rw [List.length_map]; omega), (by rw [List.length_map]; omega), fun p H2 s2 np ⟨vs, hp, pr⟩ => ?_⟩
        rw [List.length_map] at pr
        have hl2 : H2 l = some (.lst (bs.map V.int)) := s2 _ _ upd_same
        have epl : p ≠ l := (free_upd np).1
        have s02 : Same H H2 := s1.trans s2
        have nl0 : H l = none := s0.free nl
        generalize hps : pathF 4 ((sl : Nat) : Int) 0 0 ((xs.length : Int) / 2) = ps at pr
        have hin : ∀ q ∈ ps, 0 ≤ q.1 ∧ q.1.toNat < bs.length := fun q hq => path_in ht hs (by rw [hps]; exact hq)
        have tk : ∀ {H3 : Hp}, Kept l H2 H3 → ∀ t ys, PTup H2 t ys → PTup H3 t ys := fun {H3} k t ys pt => by
          obtain ⟨o, eo, d⟩ := pt
          exact ⟨o, k _ _ eo (ne_of eo hl2 (by intro z; cases z)), d⟩
        have sk : ∀ {H3 : Hp}, Kept l H2 H3 → Same H H3 := fun {H3} k c o ec => k c o (s02 _ _ ec) (ne_of_none ec nl0)
        refine ⟨p, rfl, ⟨_, SqL.of hp⟩, for_list (K := K) (a := p) (xs := vs) (fun i σ H3 => ∃ y6 y7 : Option V, σ = [some (.ref a), some (.ref b), some (.int r), some (.str way), some (.int ((sl : Nat) : Int)), some (.ref l), y6, y7, none, none] ∧ Kept l H2 H3 ∧ H3 l = some (.lst ((setAll bs (ps.take i)).map V.int)))
          ⟨none, none, rfl, Kept.refl l H2, hl2⟩ (fun i σ H3 _ ⟨_, _, _, k3, _⟩ => SqL.of (k3 _ _ hp epl)) ?_ ?_⟩
        · rintro i x σ H3 hi ⟨y6, y7, rfl, k3, hl3⟩
          obtain ⟨qq, t, eq, rfl, pt⟩ := pr.get hi
          have hq := hin qq (List.mem_of_getElem? eq)
          have et : ps.take (i + 1) = ps.take i ++ [qq] := by
            rw [List.take_add_one, eq]
            rfl
          refine ⟨t, _, rfl, (tk k3 _ _ pt).sq, rfl, _, _, rfl, _, _, rfl, rfl, ?_⟩
          refine ⟨_, rfl, _, _, rfl, rfl, _, rfl, _, rfl, l, _, qq.1, qq.1.toNat, rfl, rfl, hl3, ?_, ?_⟩
          · unfold ixN
            rw [if_pos hq.1, if_pos (by rw [List.length_map, setAll_len]; omega)]
          · refine ⟨_, _, rfl, fun c o ec n => ?_, ?_⟩
            · rw [upd_ne n]
              exact k3 _ _ ec n
            · rw [upd_same, et]
              unfold setAll
              rw [List.foldl_append, List.foldl_cons, List.foldl_nil, List.map_set]
        · rintro σ H3 ⟨y6, y7, rfl, k3, hl3⟩
          rw [List.take_of_length_le (by rw [pr.len]; exact Nat.le_refl _)] at hl3
          have hx3 := hx.same (sk k3)
          refine ⟨_, rfl, _, rfl, _, rfl, a, _, rfl, hx3, fun v1 H4 s4 p1 => ?_⟩
          rw [cut_to xs sl (by omega)] at p1
          refine ⟨_, rfl, (by show 1 ≤ sizeLine; decide), fun v2 H5 s5 n2 p2 => ?_⟩
          refine ⟨v1, v2, _, _, rfl, rfl, p1.same s5, p2, ?_, fun v3 H6 s6 p3 => ?_⟩
          · rw [List.length_map, List.length_take]
            exact Nat.le_of_lt (small1000 (by show _ + 1 ≤ 1000; omega))
          refine ⟨_, rfl, _, rfl, _, _, rfl, rfl, _, rfl, a, _, rfl, ((hx3.same s4).same s5).same s6, fun v4 H7 s7 p4 => ?_⟩
          rw [show ((sl : Nat) : Int) + 1 = ((sl + 1 : Nat) : Int) by omega, cut_from xs (sl + 1) (by omega)] at p4
          refine ⟨v3, v4, _, _, rfl, rfl, p3.same s7, p4, ?_, fun v5 H8 s8 p5 => ?_⟩
          · rw [List.length_append, List.length_map, List.length_map, List.length_take, List.length_drop]
            exact Nat.le_of_lt (small1000 (by show _ + 1 + _ ≤ 1000; omega))
          have s38 : Same H3 H8 := (((s4.trans s5).trans s6).trans s7).trans s8
          refine ⟨_, rfl, l, _, rfl, SqL.of (s38 _ _ hl3), fun v6 H9 s9 n6 p6 => ?_⟩
          refine ⟨(by show 2 ≤ sizeLine; decide), fun v7 HA sA n7 p7 => q v7 HA ((((sk k3).trans s38).trans s9).trans sA) ?_⟩
          have e5 : List.map V.int (xs.take sl) ++ [V.int r] ++ List.map V.int (xs.drop (sl + 1)) = (putAt xs sl r).map V.int := by
            unfold putAt
            rw [List.map_append, List.map_append]
            rfl
          have e6 : setAll bs ps = awayF 4 bs 0 ((xs.length : Int) / 2) (sl : Nat) := by
            have z := away_path 4 bs ((sl : Nat) : Int) 0 0 ((xs.length : Int) / 2)
            rw [Int.sub_zero, hps] at z
            exact z.symm
          unfold askF
          rw [if_pos e1, hsl]
          refine ⟨v5, v6, p7, ?_, ?_⟩
          · show PTup HA v5 ((putAt xs sl r).map V.int)
            rw [← e5]
            exact (p5.same s9).same sA
          · show PTup HA v6 ((awayF 4 bs 0 ((xs.length : Int) / 2) (sl : Nat)).map V.int)
            rw [← e6]
            exact p6.same sA
    · have e1 : ¬ way = "tree" := fun z => e (by rw [z])
      refine ⟨_, rfl, _, rfl, a, _, rfl, .inr hx.sq, rfl, flat_ints xs, _, rfl, ?_⟩
      rw [show (if false = true then !inV (V.int r) (xs.map V.int) else inV (V.int r) (xs.map V.int)) = decide (r ∈ xs) from in_ints r xs]
      refine ite3 (fun e2 => ?_) (fun e2 => ?_)
      refine ⟨_, rfl, rfl, _, rfl, ite3 (fun e3 => ?_) (fun e3 => ?_)⟩
      · refine ⟨_, rfl, _, rfl, (by show 2 ≤ sizeLine; decide), fun v1 H1 s1 n1 p1 => q v1 H1 s1 ?_⟩
        unfold askF
        rw [if_neg e1, if_pos ⟨V.str.inj e3, e2⟩]
        exact ⟨a, b, p1, hx.same s1, hb.same s1⟩
      have hno : ¬ (way = "first" ∧ r ∈ xs) := fun z => e3 (by rw [z.1])
      rotate_left
      have hno : ¬ (way = "first" ∧ r ∈ xs) := fun z => e2 z.2
      all_goals
        refine ⟨_, rfl, a, rfl, ⟨_, hx.sq⟩, fun D nD => ?_⟩
        refine lc_tup (K := K) (a := a) (xs := xs.map V.int) (fun i H2 => Same H H2 ∧ H2 D = some (.lst (((xs.take i).filter fun x => !decide (x = r)).map V.int))) ?_ ?_ ?_ ?_
        · exact ⟨same_upd nD, upd_same⟩
        · rintro i H2 _ ⟨s2, _⟩
          exact (hx.same s2).sq
        · rintro i x H2 hi ⟨s2, hD⟩
          rw [List.getElem?_map] at hi
          obtain ⟨z, ez, rfl⟩ := Option.map_eq_some_iff.mp hi
          have hil : i < xs.length := (List.getElem?_eq_some_iff.mp ez).1
          have et : xs.take (i + 1) = xs.take i ++ [z] := by
            rw [List.take_add_one, ez]
            rfl
          refine ⟨rfl, _, rfl, _, rfl, rfl, _, rfl, ?_⟩
          by_cases ee : z = r
          · refine iteNS (congrArg V.int ee) ⟨s2, ?_⟩
            rw [et, List.filter_append, List.filter_cons_of_neg (by simpa using ee), List.filter_nil, List.append_nil]
            exact hD
          · refine iteNT (fun y => ee (V.int.inj y)) ?_
            refine ⟨_, rfl, _, hD, ?_, ?_, ?_⟩
            · rw [List.length_map]
              have h1 := List.length_filter_le (fun x : Int => !decide (x = r)) (xs.take i)
              rw [List.length_take] at h1
              exact small1000 (by omega)
            · intro c o ec
              rw [upd_ne (ne_of_none ec nD)]
              exact s2 _ _ ec
            · rw [upd_same, et, List.filter_append, List.filter_cons_of_pos (by simpa using ee), List.filter_nil, List.map_append]
              rfl
        · rintro H2 ⟨s2, hD⟩
          rw [List.length_map, List.take_length] at hD
          have hfl := filter_len r xs
          refine ⟨_, rfl, (by show 1 ≤ sizeLine; decide), fun l nl => ?_⟩
          have elD : D ≠ l := ne_of_none hD nl
          refine ⟨_, rfl, l, D, _, _, rfl, rfl, upd_same, (by rw [upd_ne elD]; exact hD), ?_, fun c nc => ?_⟩
          · rw [List.length_map]
            exact Nat.le_of_lt (small1000 (by show 1 + _ ≤ 1000; omega))
          have s4 : Same H (upd (upd H2 l (.lst [V.int r])) c (.lst ([V.int r] ++ (xs.filter fun x => !decide (x = r)).map V.int))) := (s2.trans (same_upd nl)).trans (same_upd nc)
          refine ⟨_, rfl, a, _, rfl, .inr (hx.same s4).sq, _, rfl, c, _, rfl, SqL.of upd_same, fun d nd => ?_⟩
          rw [show ([V.int r] ++ (xs.filter fun x => !decide (x = r)).map V.int) = (r :: xs.filter fun x => !decide (x = r)).map V.int from rfl] at s4 nd ⊢
          rw [List.length_map, cut_to _ xs.length (by rw [List.length_cons]; omega), put_filter hc h0]
          refine ⟨d, _, rfl, SqL.of upd_same, fun v H5 s5 nv pv => ?_⟩
          refine ⟨_, rfl, (by show 2 ≤ sizeLine; decide), fun v6 H6 s6 n6 p6 => ?_⟩
          have s16 : Same H H6 := ((s4.trans (same_upd nd)).trans s5).trans s6
          refine q v6 H6 s16 ?_
          unfold askF
          rw [if_neg e1, if_neg hno]
          exact ⟨v, b, p6, pv.same s6, hb.same s16⟩
end
end Su
namespace Su
open PySem PySem.Spec PyProof.Rows L2
/-! the mathematics of one ask: slots stay slots, bits stay bits -/
theorem putF_len {xs : List Int} {r : Int} (h : 0 < xs.length) : (putF xs r).length = xs.length := by
  have := gone_lt (r := r) h
  unfold putF
  rw [List.length_cons, List.length_append, List.length_take, List.length_drop]
  omega
theorem putF_ok {n : Nat} {xs : List Int} {r : Int} (h : Slots n xs) (h0 : 0 < xs.length) (r0 : 0 ≤ r) (r1 : r < 100) : Slots n (putF xs r) := by
  have hc := h.one r (by omega)
  refine ⟨by rw [putF_len h0, h.len], fun x hx => ?_, fun v hv => ?_⟩
  · unfold putF at hx
    rcases List.mem_cons.mp hx with z | z
    · omega
    · rcases List.mem_append.mp z with y | y
      · exact h.rng x (List.mem_of_mem_take y)
      · exact h.rng x (List.mem_of_mem_drop y)
  · rw [← put_filter hc h0]
    refine Nat.le_trans (List.Sublist.count_le v (List.take_sublist _ _)) ?_
    by_cases e : r = v
    · subst e
      have hz : r ∉ xs.filter fun x => !decide (x = r) := fun z => by
        have := (List.mem_filter.mp z).2
        simp at this
      rw [List.count_cons_self, List.count_eq_zero.mpr hz]
      exact Nat.le_refl _
    · rw [List.count_cons_of_ne e]
      exact Nat.le_trans (List.Sublist.count_le v List.filter_sublist) (h.one v hv)
theorem putAt_len {xs : List Int} {s : Nat} {r : Int} (h : s < xs.length) : (putAt xs s r).length = xs.length := by
  unfold putAt
  rw [List.length_append, List.length_append, List.length_take, List.length_drop]
  show min s xs.length + 1 + (xs.length - (s + 1)) = xs.length
  omega
theorem putAt_ok {n : Nat} {xs bs : List Int} {r : Int} (h : Slots n xs) (hs : treeAt xs bs r < xs.length) (r0 : 0 ≤ r) (r1 : r < 100) : Slots n (putAt xs (treeAt xs bs r) r) := by
  refine ⟨by rw [putAt_len hs, h.len], fun x hx => ?_, fun v hv => ?_⟩
  · unfold putAt at hx
    rcases List.mem_append.mp hx with z | z
    · rcases List.mem_append.mp z with y | y
      · exact h.rng x (List.mem_of_mem_take y)
      · rw [List.mem_singleton.mp y]
        omega
    · exact h.rng x (List.mem_of_mem_drop z)
  · have hx : xs = xs.take (treeAt xs bs r) ++ [xs[treeAt xs bs r]] ++ xs.drop (treeAt xs bs r + 1) := by
      rw [List.append_assoc, List.singleton_append, List.getElem_cons_drop, List.take_append_drop]
    have h1 := h.one v hv
    rw [hx, List.count_append, List.count_append] at h1
    unfold putAt
    rw [List.count_append, List.count_append]
    by_cases e : r ∈ xs
    · have e2 : xs[treeAt xs bs r] = r := by
        have e3 : treeAt xs bs r = xs.idxOf r := by
          unfold treeAt
          rw [if_pos e]
        simp only [e3]
        exact List.getElem_idxOf (List.idxOf_lt_length_of_mem e)
      rw [e2] at h1
      exact h1
    · by_cases ev : r = v
      · subst ev
        have a1 : (xs.take (treeAt xs bs r)).count r = 0 := List.count_eq_zero.mpr fun z => e (List.mem_of_mem_take z)
        have a2 : (xs.drop (treeAt xs bs r + 1)).count r = 0 := List.count_eq_zero.mpr fun z => e (List.mem_of_mem_drop z)
        rw [a1, a2, List.count_singleton_self]
        exact Nat.le_refl _
      · have a3 : [r].count v = 0 := by
          rw [List.count_cons_of_ne ev, List.count_nil]
        rw [a3]
        omega
theorem awayF_ok : ∀ (f : Nat) (led : List Int) (bit half wi : Int), (∀ x ∈ led, x = 0 ∨ x = 1) → ∀ x ∈ awayF f led bit half wi, x = 0 ∨ x = 1
  | 0, _, _, _, _, h => h
  | f + 1, led, bit, half, wi, h => by
    unfold awayF
    split
    · refine awayF_ok f _ _ _ _ fun x hx => ?_
      rcases List.mem_or_eq_of_mem_set hx with z | z
      · exact h x z
      · rw [z]
        split <;> omega
    · exact h
/-- what holds of a lay between two asks -/
structure LayOk (way : Str) (n : Nat) (xs bs : List Int) : Prop where
  sl : Slots n xs
  pos : 0 < n
  few : n ≤ 8
  tr : way = "tree" → TreeOk n bs
  no : way ≠ "tree" → bs = []
theorem LayOk.ask {way : Str} {n : Nat} {xs bs : List Int} {r : Int} (h : LayOk way n xs bs) (r0 : 0 ≤ r) (r1 : r < 100) : LayOk way n (askF way xs bs r).1 (askF way xs bs r).2 := by
  have hl := h.sl.len
  have h0 : 0 < xs.length := by
    rw [hl]
    exact h.pos
  unfold askF
  by_cases e : way = "tree"
  · rw [if_pos e]
    have ht := h.tr e
    have ht' : TreeOk xs.length bs := by
      rw [hl]
      exact ht
    refine ⟨putAt_ok h.sl (treeAt_lt ht') r0 r1, h.pos, h.few, fun _ => ⟨ht.sz, ?_, ?_⟩, fun z => absurd e z⟩
    · show (awayF 4 bs 0 _ _).length = n - 1
      rw [awayF_len]
      exact ht.bt.len
    · exact awayF_ok 4 bs 0 _ _ ht.bt.rng
  · rw [if_neg e]
    split
    · exact ⟨h.sl, h.pos, h.few, fun z => absurd z e, h.no⟩
    · exact ⟨putF_ok h.sl h0 r0 r1, h.pos, h.few, fun z => absurd z e, h.no⟩
/-! lays and answers as data -/
def layD (xs bs : List Int) : PyData := .tuple [.tuple (xs.map .int), .tuple (bs.map .int)]
def ansD (xs bs : List Int) (k : Bool) : PyData := .tuple [layD xs bs, .bool k]
theorem LayAt.dp {K : PySem.W.Frag} {H : Hp} {v : Addr} {xs bs : List Int} (h : LayAt H v xs bs) : Dp K H (.ref v) (layD xs bs) := by
  obtain ⟨a, b, h1, h2, h3⟩ := h
  exact .tup h1.sq (.cons (.tup h2.sq (dp_ints xs)) (.cons (.tup h3.sq (dp_ints bs)) .nil))
theorem AnsAt.dp {K : PySem.W.Frag} {H : Hp} {v : Addr} {xs bs : List Int} {k : Bool} (h : AnsAt H v xs bs k) : Dp K H (.ref v) (ansD xs bs k) := by
  obtain ⟨l, h1, h2⟩ := h
  exact .tup h1.sq (.cons h2.dp (.cons (.bl k) .nil))
theorem LayOk.fine {way : Str} {n : Nat} {xs bs : List Int} (h : LayOk way n xs bs) : Fine (layD xs bs) 2 1000 := by
  have l1 := h.sl.len
  have hf := h.few
  have l2 : bs.length ≤ 8 ∧ ∀ x ∈ bs, -1 ≤ x ∧ x < 100 := by
    by_cases e : way = "tree"
    · have b := (h.tr e).bt
      refine ⟨by rw [b.len]; omega, fun x hx => ?_⟩
      have := b.rng x hx
      omega
    · rw [h.no e]
      exact ⟨Nat.zero_le _, fun x hx => (List.not_mem_nil hx).elim⟩
  refine (Fine.tuple (FineL.cons (Fine.tuple (fine_ints h.sl.rng)) (FineL.cons (Fine.tuple (fine_ints l2.2)) FineL.nil))).up (Nat.le_refl _) ?_
  omega
theorem LayOk.fineA {way : Str} {n : Nat} {xs bs : List Int} (h : LayOk way n xs bs) (k : Bool) : Fine (ansD xs bs k) 3 2000 :=
  (Fine.tuple (FineL.cons h.fine (FineL.cons ((Fine.bool k).up (Nat.zero_le _) (Nat.le_refl _)) FineL.nil))).up (Nat.le_refl _) (by decide)
theorem fnG_fun {P : Program} {w : World} {K : PySem.W.Frag} {mg : Str → Option Value} {base : Heap} {x ql : Str} {st : Stmt} {f : Addr} {fd : FuncData} {N ps : List Str} {k : Nat} {sp : Sp} (F : Fun K x ql st f fd) (S : FnScope N ps (defScope st)) (len : ∀ vs H Q E, sp vs H Q E → vs.length = ps.length)
    (hb : ∀ (cdv : Value) (A : Around) (outer : List Env) (s : Shared) (H : Hp) (vs : List V) (Q : VK) (E : XK), (A.deeper (envOfC ql (defScope st) s.heap.objs.size f cdv)).guards = some [] → Room k (A.deeper (envOfC ql (defScope st) s.heap.objs.size f cdv)) → sp vs H Q E →
      ∃ t, PSs (cxOf CX0 P w K mg base N ql (defScope st) f cdv A outer s H E).nox (defBody st) t ∧ t { nx := fun _ H' => Q .non H', rt := Q } (start N vs) H) : FnG P w K mg base CX0 (k + 1) f fd ps sp := by
  obtain ⟨oc, od, kV, doc, pm, an, cdv, ct, osl, rfl, lk, hcd⟩ := F.ex
  refine fnG_of lk hcd S len fun A outer s H vs Q E hg hr hsp => ?_
  obtain ⟨t, h, q⟩ := hb cdv A outer s H vs Q E hg hr hsp
  exact ⟨t, h.nox, q⟩
end Su
namespace Su
open PySem PySem.Spec PyProof.Rows L2
def gAsk : List V → List V → List V
  | [], [a, b, c] => [c, b, a]
  | _, _ => []
def spLaw (K : PySem.W.Frag) : Sp := fun vs H Q _ => ∃ (a : Addr) (ns : List Int), vs = [.ref a] ∧ SqL K H a (ns.map V.int) ∧ ns.length ≤ 63 ∧ ∀ H', Q (.bl true) H'
theorem LayAt.kept {p v : Addr} {H H' : Hp} {xs bs : List Int} (h : LayAt H v xs bs) (k : Kept p H H') (hp : PoolAt H p) : LayAt H' v xs bs := by
  obtain ⟨a, b, h1, h2, h3⟩ := h
  exact ⟨a, b, h1.kept k hp, h2.kept k hp, h3.kept k hp⟩
/-- what the law calls -/
structure Calls (P : Program) (w : World) (K : PySem.W.Frag) (mg : Str → Option Value) (base : Heap) : Prop where
  pool : Cal P w K mg base 1 "_law_pool" ["_law_script", "_law_k"] (spPool K)
  take : Cal P w K mg base 1 "_law_take" ["_law_pool_here", "_law_many"] spTake
  sort : Cal P w K mg base 2 "_law_sort" ["_law_pool_here"] spSort
  big : Cal P w K mg base 2 "_law_big" ["_law_pool_here", "_law_sort_here"] spBig
  places : Cal P w K mg base 3 "_law_places" ["_law_pool_here", "_law_many"] spPlaces
  cells : Cal P w K mg base 2 "_law_cells" ["_law_pool_here", "_law_big_here", "_law_some"] (spCells K)
  marks : Cal P w K mg base 2 "_law_marks" ["_law_pool_here", "_law_big_here", "_law_sort_here"] spMarks
  behind : Cal P w K mg base 3 "_law_behind" ["_law_cells_here", "_law_marks_here", "_law_one", "_law_sort_here"] spBehind
  asked : Cal P w K mg base 3 "asked" ["lay", "room", "way"] spAsked
  askedK : KCal P w K mg base 3 "asked" ["way", "room", "lay"] gAsk spAsked
theorem scLaw : FnScope ["_law_script", "_law_k", "_law_pool_here", "_law_sort_here", "_law_big_here", "_law_some", "_law_here", "_law_turn", "_law_one", "_law_due", "_law_kept", "_law_again", "_law_found"] ["_law_script"] (defScope sLaw) := ⟨rfl, rfl, rfl, by decide +kernel, rfl, by decide +kernel, by decide +kernel⟩
section
variable {P : Program} {w : World} {K : PySem.W.Frag} {mg : Str → Option Value} {base : Heap}
theorem ok_law {f : Addr} {fd : FuncData} (F : Fun K "law" "law" sLaw f fd) (B : Bt mg) (C : Calls P w K mg base) : FnG P w K mg base CX0 4 f fd ["_law_script"] (spLaw K) := by
  obtain ⟨c_pool, c_take, c_sort, c_big, c_places, c_cells, c_marks, c_behind, c_asked, k_asked⟩ := C
  refine fnG_fun F scLaw (fun vs H Q E h => ?_) (fun cdv A outer s H vs Q E hg hr h => ?_)
  · obtain ⟨a, ns, rfl, _⟩ := h
    rfl
  · obtain ⟨a, ns, rfl, hS, hlen, q⟩ := h
    refine ⟨_, (pss_cons (ps_for PassesOwn.never rfl (pi_range1 (by rfl) B.range (pa_cons (pe_callB (call_max2 rfl) (by rfl) B.max (by decide +kernel) (pa_cons pe_int (pa_cons (pe_callB (call_min2 rfl) (by rfl) B.min (by decide +kernel) (pa_cons (pe_callB call_len_seq (by rfl) B.len PySem.boot_len (pa_cons (pv 0) pa_nil)) (pa_cons pe_int pa_nil))) pa_nil))) pa_nil)) (pg_name (i := 1) scLaw.nd rfl (Or.inl rfl)) (pss_cons (ps_set (i := 2) scLaw.nd rfl (Or.inl rfl) (pe_own c_pool hr (by decide) (by rfl) (pa_cons (pv 0) (pa_cons (pv 1) pa_nil))))
      (pss_cons (ps_set (i := 3) scLaw.nd rfl (Or.inl rfl) (pe_own c_sort hr (by decide) (by rfl) (pa_cons (pv 2) pa_nil)))
      (pss_cons (ps_set (i := 4) scLaw.nd rfl (Or.inl rfl) (pe_own c_big hr (by decide) (by rfl) (pa_cons (pv 2) (pa_cons (pv 3) pa_nil))))
      (pss_cons (ps_set (i := 5) scLaw.nd rfl (Or.inl rfl) (pe_own c_places hr (by decide) (by rfl) (pa_cons (pv 2) (pa_cons (pe_op op_add pe_int (pe_own c_take hr (by decide) (by rfl) (pa_cons (pv 2) (pa_cons pe_int pa_nil)))) pa_nil))))
      (pss_cons (ps_set (i := 6) scLaw.nd rfl (Or.inl rfl) (pe_tupF (pa_cons (pe_own c_cells hr (by decide) (by rfl) (pa_cons (pv 2) (pa_cons (pv 4) (pa_cons (pv 5) pa_nil)))) (pa_cons (pe_own c_marks hr (by decide) (by rfl) (pa_cons (pv 2) (pa_cons (pv 4) (pa_cons (pv 3) pa_nil)))) pa_nil))))
      (pss_one (ps_for PassesOwn.never rfl (pi_range1 (by rfl) B.range (pa_cons (pe_op op_add pe_int (pe_own c_take hr (by decide) (by rfl) (pa_cons (pv 2) (pa_cons pe_int pa_nil)))) pa_nil)) (pg_name (i := 7) scLaw.nd rfl (Or.inl rfl)) (pss_cons (ps_set (i := 8) scLaw.nd rfl (Or.inl rfl) (pe_ix ix_list (pv 5) (pe_own c_take hr (by decide) (by rfl) (pa_cons (pv 2) (pa_cons (pe_callB call_len_seq (by rfl) B.len PySem.boot_len (pa_cons (pv 5) pa_nil)) pa_nil))) (fun _ _ => rfl)))
      (pss_cons (ps_set (i := 9) scLaw.nd rfl (Or.inl rfl) (pe_tupF (pa_cons (pe_own c_behind hr (by decide) (by rfl) (pa_cons (pe_ix ix_tup (pv 6) pe_int (fun _ _ => rfl)) (pa_cons (pe_ix ix_tup (pv 6) pe_int (fun _ _ => rfl)) (pa_cons (pv 8) (pa_cons (pv 3) pa_nil))))) (pa_cons (pe_cmpR op_in_seq (pv 8) (pe_ix ix_tup (pv 6) pe_int (fun _ _ => rfl)) (by rfl)) pa_nil))))
      (pss_cons (ps_set (i := 10) scLaw.nd rfl (Or.inl rfl) (pe_callB (call_reprD hg hr.units) (by rfl) B.repr (by decide +kernel) (pa_cons (pv 6) pa_nil)))
      (pss_cons (ps_for PassesOwn.never rfl (pi_range1 (by rfl) B.range (pa_cons pe_int pa_nil)) (pg_name (i := 11) scLaw.nd rfl (Or.inl rfl)) (pss_cons (ps_set (i := 12) scLaw.nd rfl (Or.inl rfl) (pe_own c_asked hr (by decide) (by rfl) (pa_cons (pv 6) (pa_cons (pv 8) (pa_cons (pv 3) pa_nil)))))
      (pss_one (ps_if (PW.pt (pw_or (pt_cmpR op_ne (pe_callB (call_reprD hg hr.units) (by rfl) B.repr (by decide +kernel) (pa_cons (pv 12) pa_nil)) (pe_callB (call_reprD hg hr.units) (by rfl) B.repr (by decide +kernel) (pa_cons (pv 9) pa_nil)) (nomark _)) (pw_or1 (pt_cmpR op_ne (pe_callB (call_reprD hg hr.units) (by rfl) B.repr (by decide +kernel) (pa_cons (pv 6) pa_nil)) (pv 10) (nomark _))))) (pss_one (ps_ret pe_bl)) pss_nil))))
      (pss_cons (ps_if (pt_cmpR (op_neD hr.units) (pe_ownK k_asked hr (by decide) (by rfl) (pk_cons (pv 3) (pk_cons (pv 8) (pk_cons (pv 6) pk_nil)))) (pv 9) (nomark _)) (pss_one (ps_ret pe_bl)) pss_nil)
      (pss_one (ps_set (i := 6) scLaw.nd rfl (Or.inl rfl) (pe_ix ix_tup (pv 9) pe_int (fun _ _ => rfl)))))))))))))))))
      (pss_one (ps_ret pe_bl))), ?_⟩
    obtain ⟨m, hm, hm2⟩ : ∃ m : Nat, (if (if (12 : Int) < ((ns.map V.int).length : Int) then 12 else ((ns.map V.int).length : Int)) > 1 then (if (12 : Int) < ((ns.map V.int).length : Int) then 12 else ((ns.map V.int).length : Int)) else 1) = (m : Int) ∧ m ≤ 12 := by
      rw [List.length_map]
      refine ⟨(if (if (12 : Int) < (ns.length : Int) then 12 else (ns.length : Int)) > 1 then (if (12 : Int) < (ns.length : Int) then 12 else (ns.length : Int)) else 1).toNat, ?_, ?_⟩
      all_goals
        by_cases e1 : (12 : Int) < (ns.length : Int)
        · simp only [e1, if_true]
          decide
        · simp only [e1, if_false]
          split <;> omega
    refine ⟨_, rfl, a, _, rfl, .inl hS, _, _, rfl, _, _, rfl, ?_⟩
    refine ⟨(m : Int), congrArg (fun z => [V.int z]) hm, by omega, by omega, ?_⟩
    rw [show ((m : Int)).toNat = m by omega]
    refine for_range (lo := 0) (n := m) (fun i σ H2 => ∃ y1 y2 y3 y4 y5 y6 y7 y8 y9 y10 y11 y12 : Option V, σ = [some (.ref a), y1, y2, y3, y4, y5, y6, y7, y8, y9, y10, y11, y12] ∧ SqL K H2 a (ns.map V.int)) ?_ ?_ ?_
    · exact ⟨none, none, none, none, none, none, none, none, none, none, none, none, rfl, hS⟩
    · rintro i σ Hs hi ⟨y1, y2, y3, y4, y5, y6, y7, y8, y9, y10, y11, y12, rfl, hSs⟩
      -- pool
      refine ⟨_, rfl, _, rfl, a, ns, _, rfl, hSs, by omega, by omega, fun p H1 s1 np hp1 => ?_⟩
      have back : ∀ {Hn : Hp}, Kept p H1 Hn → SqL K Hn a (ns.map V.int) := fun {Hn} k => Same.seq (fun b o e => k b o (s1 b o e) (ne_of_none e np)) hSs
      -- sort, big
      refine ⟨_, rfl, p, rfl, hp1, fun way H2 k2 hp2 hway => ?_⟩
      refine ⟨_, rfl, _, rfl, p, way, rfl, hp2, fun nb H3 k3 hp3 nb1 nb8 hbig => ?_⟩
      obtain ⟨n, rfl⟩ : ∃ n : Nat, nb = (n : Int) := ⟨nb.toNat, by omega⟩
      have k13 : Kept p H1 H3 := k2.trans k3
      -- some
      refine ⟨_, rfl, _, rfl, p, _, rfl, hp3, by decide, by decide, fun r o r0 r1 po => ?_⟩
      refine ⟨_, _, rfl, rfl, p, _, rfl, ⟨o, upd_same, po⟩, by omega, fun sm H4 ms nsm k4 hp4 hsm nd hrg hml _ => ?_⟩
      have k14 : Kept p H1 H4 := (k13.trans (Kept.upd p H3 o)).trans k4
      have esp : sm ≠ p := pool_ne ⟨o, upd_same, po⟩ nsm
      have hml3 : 3 ≤ ms.length ∧ ms.length ≤ 100 := by omega
      -- here
      refine ⟨_, rfl, _, rfl, _, rfl, p, sm, n, ms, rfl, hp4, SqL.of hsm, nd, hrg, by omega, by omega, fun ca H5 xs nca k5 hp5 pca hsl => ?_⟩
      refine ⟨_, rfl, _, rfl, _, rfl, p, n, way, rfl, hp5, by omega, by omega, fun ma H6 bs nma k6 hp6 pma hb1 hb2 => ?_⟩
      refine ⟨(by show 2 ≤ sizeLine; decide), fun he H7 s7 nhe phe => ?_⟩
      have k17 : Kept p H1 H7 := ((k14.trans k5).trans k6).trans (Kept.same s7)
      have hp7 : PoolAt H7 p := hp6.same s7
      have hsm7 : H7 sm = some (.lst (ms.map V.int)) := s7 _ _ (k6 _ _ (k5 _ _ hsm esp) esp)
      have hla7 : LayAt H7 he xs bs := ⟨ca, ma, phe, (pca.kept k6 hp5).same s7, pma.same s7⟩
      have hok7 : LayOk way n xs bs := ⟨hsl, by omega, by omega, fun e => ⟨?_, hb1 e⟩, hb2⟩
      rotate_left
      · have := hbig e
        omega
      -- for turn
      refine ⟨_, rfl, p, _, rfl, hp7, by decide, by decide, fun r2 o2 r20 r21 po2 => ?_⟩
      refine ⟨_, _, rfl, rfl, _, rfl, by omega, by omega, ?_⟩
      refine for_range (lo := 0) (fun j σ H8 => ∃ (he : Addr) (xs bs : List Int) (y7 y8 y9 y10 y11 y12 : Option V), σ = [some (.ref a), some (.int (0 + (i : Int))), some (.ref p), some (.str way), some (.int (n : Int)), some (.ref sm), some (.ref he), y7, y8, y9, y10, y11, y12] ∧ Kept p H1 H8 ∧ PoolAt H8 p ∧ H8 sm = some (.lst (ms.map V.int)) ∧ LayAt H8 he xs bs ∧ LayOk way n xs bs) ?_ ?_ ?_
      · exact ⟨he, xs, bs, _, _, _, _, _, _, rfl, k17.trans (Kept.upd p H7 o2), ⟨o2, upd_same, po2⟩, (by rw [upd_ne esp]; exact hsm7), hla7.kept (Kept.upd p H7 o2) hp7, hok7⟩
      · rintro j σ H8 hj ⟨he, xs, bs, y7, y8, y9, y10, y11, y12, rfl, k8, hp8, hsm8, hla8, hok⟩
        clear hok7 hla7 hsl pca pma phe
        have hxl : xs.length = n := hok.sl.len
        have h0 : 0 < xs.length := by
          rw [hxl]
          exact hok.pos
        have h8 : xs.length ≤ 8 := by
          rw [hxl]
          exact hok.few
        have htr : way = "tree" → TreeOk xs.length bs := fun e => by
          rw [hxl]
          exact hok.tr e
        -- one
        refine ⟨_, rfl, _, rfl, _, rfl, sm, _, rfl, .inl (SqL.of hsm8), p, _, rfl, hp8, (by rw [List.length_map]; omega), (by rw [List.length_map]; omega), fun r3 o3 r30 r31 po3 => ?_⟩
        rw [List.length_map] at r31
        have hr3 : r3.toNat < ms.length := by omega
        have hsm9 : (upd H8 p o3) sm = some (.lst (ms.map V.int)) := by
          rw [upd_ne esp]
          exact hsm8
        refine ⟨sm, ms.map V.int, r3, V.int ms[r3.toNat], rfl, rfl, SqL.of hsm9, atI_int r30 (by rw [List.getElem?_map, List.getElem?_eq_getElem hr3]; rfl), ?_⟩
        have hone : 0 ≤ ms[r3.toNat] ∧ ms[r3.toNat] < 100 := hrg _ (List.getElem_mem hr3)
        generalize ms[r3.toNat] = one at hone
        have hp9 : PoolAt (upd H8 p o3) p := ⟨o3, upd_same, po3⟩
        have k9 : Kept p H1 (upd H8 p o3) := k8.trans (Kept.upd p H8 o3)
        have hla9 : LayAt (upd H8 p o3) he xs bs := hla8.kept (Kept.upd p H8 o3) hp8
        generalize upd H8 p o3 = H9 at hsm9 hp9 k9 hla9
        obtain ⟨ca, ma, phe, pca, pma⟩ := id hla9
        -- due
        refine ⟨_, rfl, he, _, _, _, rfl, rfl, phe.sq, atI_nat (j := 0) rfl, _, rfl, he, _, _, _, rfl, rfl, phe.sq, atI_nat (j := 1) rfl, _, rfl, _, rfl, ?_⟩
        refine ⟨ca, ma, xs, bs, one, way, rfl, pca, pma, htr, h0, h8, hok.sl.one one (by omega), fun v HA sA laA => ?_⟩
        refine ⟨_, rfl, _, rfl, he, _, _, _, rfl, rfl, (phe.same sA).sq, atI_nat (j := 0) rfl, ca, _, rfl, .inr (pca.same sA).sq, rfl, flat_ints xs, ?_⟩
        rw [show (if false = true then !inV (V.int one) (xs.map V.int) else inV (V.int one) (xs.map V.int)) = decide (one ∈ xs) from in_ints one xs]
        refine ⟨(by show 2 ≤ sizeLine; decide), fun du HB sB nB pdu => ?_⟩
        have okn : LayOk way n (askF way xs bs one).1 (askF way xs bs one).2 := hok.ask hone.1 hone.2
        have anB : AnsAt HB du (askF way xs bs one).1 (askF way xs bs one).2 (decide (one ∈ xs)) := ⟨v, pdu, laA.same sB⟩
        have laB : LayAt HB he xs bs := (hla9.same sA).same sB
        have s9B : Same H9 HB := sA.trans sB
        -- kept
        refine ⟨_, rfl, he, layD xs bs, 2, 1000, rfl, laB.dp, hok.fine, by decide, by decide, ?_⟩
        refine ⟨2, rfl, by decide, by decide, ?_⟩
        refine for_range (lo := 0) (n := 2) (fun _ σ HC => ∃ y11 y12 : Option V, σ = [some (.ref a), some (.int (0 + (i : Int))), some (.ref p), some (.str way), some (.int (n : Int)), some (.ref sm), some (.ref he), some (.int (0 + (j : Int))), some (.int one), some (.ref du), some (.str (layD xs bs).shown), y11, y12] ∧ Same HB HC) ?_ ?_ ?_
        · exact ⟨_, _, rfl, Same.refl HB⟩
        · rintro g σ HC hg2 ⟨y11, y12, rfl, sC⟩
          refine ⟨_, rfl, _, rfl, _, rfl, he, xs, bs, one, way, rfl, laB.same sC, htr, h0, h8, fun fo HD sD anD => ?_⟩
          refine ⟨_, rfl, fo, _, 3, 2000, rfl, anD.dp, okn.fineA _, by decide, by decide, _, rfl, du, _, 3, 2000, rfl, ((anB.same sC).same sD).dp, okn.fineA _, by decide, by decide, rfl, _, rfl, iteNS rfl ?_⟩
          refine ⟨_, rfl, he, layD xs bs, 2, 1000, rfl, ((laB.same sC).same sD).dp, hok.fine, by decide, by decide, _, rfl, rfl, _, rfl, iteNS rfl ?_⟩
          exact ⟨_, _, rfl, sC.trans sD⟩
        · rintro σ HC ⟨y11, y12, rfl, sC⟩
          refine ⟨_, rfl, _, rfl, _, rfl, he, xs, bs, one, way, rfl, laB.same sC, htr, h0, h8, fun fo HD sD anD => ?_⟩
          have fA := okn.fineA (decide (one ∈ xs))
          have sBD : Same HB HD := sC.trans sD
          refine ⟨_, rfl, _, _, anD.dp, (anB.same sBD).dp, fA.shaped (by decide), fA.shaped (by decide), _, rfl, ?_⟩
          rw [fA.eqv]
          refine iteF ?_
          refine ⟨_, rfl, du, _, _, _, rfl, rfl, (pdu.same sBD).sq, atI_nat (j := 0) rfl, ?_⟩
          have s9D : Same H9 HD := s9B.trans sBD
          exact ⟨v, _, _, _, _, _, _, _, _, rfl, k9.trans (Kept.same s9D), hp9.same s9D, s9D _ _ hsm9, (laA.same sB).same sBD, okn⟩
      · rintro σ H8 ⟨he, xs, bs, y7, y8, y9, y10, y11, y12, rfl, k8, hp8, hsm8, hla8, hok⟩
        exact ⟨_, _, _, _, _, _, _, _, _, _, _, _, rfl, back k8⟩
    · rintro σ H2 ⟨y1, y2, y3, y4, y5, y6, y7, y8, y9, y10, y11, y12, rfl, _⟩
      exact q H2
end
end Su
namespace Su
open PySem PySem.Spec PyProof.Rows L2
theorem at_mk {K : PySem.W.Frag} {h : Heap} {mg : Str → Option Value} {x : Str} {st : Stmt} {f : Addr} {fd : FuncData} {ps : List Str} (X : K.In h) (G : h.Ns mainGlobals mg) (a : PySem.W.nsIn K mainGlobals x = some (some (.ref f))) (F : Fun K x x st f fd) (b : Binds K fd ps []) : At K mg x st ps :=
  ⟨f, fd, F, PySem.W.mg_of X G a, b⟩
def gAskW : List Value → List Value → List Value
  | [], [a, b, c] => [c, b, a]
  | _, _ => []
theorem gAsk_rel {vs zs : List V} {us ws : List Value} (r : Vals vs us) (z : Vals zs ws) : Vals (gAsk vs zs) (gAskW us ws) := by
  cases r with
  | cons _ _ => exact .nil
  | nil =>
    cases z with
    | nil => exact .nil
    | cons h1 t1 =>
      cases t1 with
      | nil => exact .nil
      | cons h2 t2 =>
        cases t2 with
        | nil => exact .nil
        | cons h3 t3 =>
          cases t3 with
          | nil => exact .cons h3 (.cons h2 (.cons h1 .nil))
          | cons h4 t4 => exact .nil
theorem all_mk {l : PySem.W.OpenLaw} {w : World} {K : PySem.W.Frag} {h : Heap} {mg : Str → Option Value} {fa f1 f2 f3 f4 f5 f6 f7 f8 f9 f10 f11 f12 f13 f14 f15 f16 f17 : Addr} (X : K.In h) (G : h.Ns mainGlobals mg) (hfa : mg "law" = some (.ref fa))
    {od1 an1 od2 an2 od3 an3 od4 an4 od5 an5 od6 an6 od7 an7 od8 an8 od9 an9 od10 an10 od11 an11 od12 an12 od13 an13 od14 an14 od15 an15 od16 an16 od17 an17 : Option Addr} {sl1 sl2 sl3 sl4 sl5 sl6 sl7 sl8 sl9 sl10 sl11 sl12 sl13 sl14 sl15 sl16 sl17 : Array (Option Value)} {oc1 kV1 dc1 pm1 cd1 ct1 oc2 kV2 dc2 pm2 cd2 ct2 oc3 kV3 dc3 pm3 cd3 ct3 oc4 kV4 dc4 pm4 cd4 ct4 oc5 kV5 dc5 pm5 cd5 ct5 oc6 kV6 dc6 pm6 cd6 ct6 oc7 kV7 dc7 pm7 cd7 ct7 oc8 kV8 dc8 pm8 cd8 ct8 oc9 kV9 dc9 pm9 cd9 ct9 oc10 kV10 dc10 pm10 cd10 ct10 oc11 kV11 dc11 pm11 cd11 ct11 oc12 kV12 dc12 pm12 cd12 ct12 oc13 kV13 dc13 pm13 cd13 ct13 oc14 kV14 dc14 pm14 cd14 ct14 oc15 kV15 dc15 pm15 cd15 ct15 oc16 kV16 dc16 pm16 cd16 ct16 oc17 kV17 dc17 pm17 cd17 ct17 : Value}
    (a1 : PySem.W.nsIn K mainGlobals "put_first" = some (some (.ref f1))) (l1 : K.lookup f1 = some ⟨oc1, od1, .func (PySem.W.fnOf "put_first" "put_first" (defArgs sPutFirst) (defBody sPutFirst) (defScope sPutFirst) .none kV1 dc1 pm1 an1 cd1 ct1), sl1⟩) (c1 : PySem.W.codeIn K cd1 "put_first" = true) (k1 : PySem.W.keepIn K (.ref f1) = true)
    (a2 : PySem.W.nsIn K mainGlobals "slot_led_to" = some (some (.ref f2))) (l2 : K.lookup f2 = some ⟨oc2, od2, .func (PySem.W.fnOf "slot_led_to" "slot_led_to" (defArgs sLed) (defBody sLed) (defScope sLed) .none kV2 dc2 pm2 an2 cd2 ct2), sl2⟩) (c2 : PySem.W.codeIn K cd2 "slot_led_to" = true) (k2 : PySem.W.keepIn K (.ref f2) = true)
    (a3 : PySem.W.nsIn K mainGlobals "led_away" = some (some (.ref f3))) (l3 : K.lookup f3 = some ⟨oc3, od3, .func (PySem.W.fnOf "led_away" "led_away" (defArgs sAway) (defBody sAway) (defScope sAway) .none kV3 dc3 pm3 an3 cd3 ct3), sl3⟩) (c3 : PySem.W.codeIn K cd3 "led_away" = true) (k3 : PySem.W.keepIn K (.ref f3) = true)
    (a4 : PySem.W.nsIn K mainGlobals "asked_by_tree" = some (some (.ref f4))) (l4 : K.lookup f4 = some ⟨oc4, od4, .func (PySem.W.fnOf "asked_by_tree" "asked_by_tree" (defArgs sByTree) (defBody sByTree) (defScope sByTree) .none kV4 dc4 pm4 an4 cd4 ct4), sl4⟩) (c4 : PySem.W.codeIn K cd4 "asked_by_tree" = true) (k4 : PySem.W.keepIn K (.ref f4) = true)
    (a5 : PySem.W.nsIn K mainGlobals "asked" = some (some (.ref f5))) (l5 : K.lookup f5 = some ⟨oc5, od5, .func (PySem.W.fnOf "asked" "asked" (defArgs sAsked) (defBody sAsked) (defScope sAsked) .none kV5 dc5 pm5 an5 cd5 ct5), sl5⟩) (c5 : PySem.W.codeIn K cd5 "asked" = true) (k5 : PySem.W.keepIn K (.ref f5) = true)
    (a6 : PySem.W.nsIn K mainGlobals "_law_pool" = some (some (.ref f6))) (l6 : K.lookup f6 = some ⟨oc6, od6, .func (PySem.W.fnOf "_law_pool" "_law_pool" (defArgs sPool) (defBody sPool) (defScope sPool) .none kV6 dc6 pm6 an6 cd6 ct6), sl6⟩) (c6 : PySem.W.codeIn K cd6 "_law_pool" = true) (k6 : PySem.W.keepIn K (.ref f6) = true)
    (a7 : PySem.W.nsIn K mainGlobals "_law_take" = some (some (.ref f7))) (l7 : K.lookup f7 = some ⟨oc7, od7, .func (PySem.W.fnOf "_law_take" "_law_take" (defArgs sTake) (defBody sTake) (defScope sTake) .none kV7 dc7 pm7 an7 cd7 ct7), sl7⟩) (c7 : PySem.W.codeIn K cd7 "_law_take" = true) (k7 : PySem.W.keepIn K (.ref f7) = true)
    (a8 : PySem.W.nsIn K mainGlobals "_law_picked" = some (some (.ref f8))) (l8 : K.lookup f8 = some ⟨oc8, od8, .func (PySem.W.fnOf "_law_picked" "_law_picked" (defArgs sPicked) (defBody sPicked) (defScope sPicked) .none kV8 dc8 pm8 an8 cd8 ct8), sl8⟩) (c8 : PySem.W.codeIn K cd8 "_law_picked" = true) (k8 : PySem.W.keepIn K (.ref f8) = true)
    (a9 : PySem.W.nsIn K mainGlobals "_law_places" = some (some (.ref f9))) (l9 : K.lookup f9 = some ⟨oc9, od9, .func (PySem.W.fnOf "_law_places" "_law_places" (defArgs sPlaces) (defBody sPlaces) (defScope sPlaces) .none kV9 dc9 pm9 an9 cd9 ct9), sl9⟩) (c9 : PySem.W.codeIn K cd9 "_law_places" = true) (k9 : PySem.W.keepIn K (.ref f9) = true)
    (a10 : PySem.W.nsIn K mainGlobals "_law_sort" = some (some (.ref f10))) (l10 : K.lookup f10 = some ⟨oc10, od10, .func (PySem.W.fnOf "_law_sort" "_law_sort" (defArgs sSort) (defBody sSort) (defScope sSort) .none kV10 dc10 pm10 an10 cd10 ct10), sl10⟩) (c10 : PySem.W.codeIn K cd10 "_law_sort" = true) (k10 : PySem.W.keepIn K (.ref f10) = true)
    (a11 : PySem.W.nsIn K mainGlobals "_law_big" = some (some (.ref f11))) (l11 : K.lookup f11 = some ⟨oc11, od11, .func (PySem.W.fnOf "_law_big" "_law_big" (defArgs sBig) (defBody sBig) (defScope sBig) .none kV11 dc11 pm11 an11 cd11 ct11), sl11⟩) (c11 : PySem.W.codeIn K cd11 "_law_big" = true) (k11 : PySem.W.keepIn K (.ref f11) = true)
    (a12 : PySem.W.nsIn K mainGlobals "_law_cells" = some (some (.ref f12))) (l12 : K.lookup f12 = some ⟨oc12, od12, .func (PySem.W.fnOf "_law_cells" "_law_cells" (defArgs sCells) (defBody sCells) (defScope sCells) .none kV12 dc12 pm12 an12 cd12 ct12), sl12⟩) (c12 : PySem.W.codeIn K cd12 "_law_cells" = true) (k12 : PySem.W.keepIn K (.ref f12) = true)
    (a13 : PySem.W.nsIn K mainGlobals "_law_marks" = some (some (.ref f13))) (l13 : K.lookup f13 = some ⟨oc13, od13, .func (PySem.W.fnOf "_law_marks" "_law_marks" (defArgs sMarks) (defBody sMarks) (defScope sMarks) .none kV13 dc13 pm13 an13 cd13 ct13), sl13⟩) (c13 : PySem.W.codeIn K cd13 "_law_marks" = true) (k13 : PySem.W.keepIn K (.ref f13) = true)
    (a14 : PySem.W.nsIn K mainGlobals "_law_path" = some (some (.ref f14))) (l14 : K.lookup f14 = some ⟨oc14, od14, .func (PySem.W.fnOf "_law_path" "_law_path" (defArgs sPath) (defBody sPath) (defScope sPath) .none kV14 dc14 pm14 an14 cd14 ct14), sl14⟩) (c14 : PySem.W.codeIn K cd14 "_law_path" = true) (k14 : PySem.W.keepIn K (.ref f14) = true)
    (a15 : PySem.W.nsIn K mainGlobals "_law_pointed" = some (some (.ref f15))) (l15 : K.lookup f15 = some ⟨oc15, od15, .func (PySem.W.fnOf "_law_pointed" "_law_pointed" (defArgs sPointed) (defBody sPointed) (defScope sPointed) .none kV15 dc15 pm15 an15 cd15 ct15), sl15⟩) (c15 : PySem.W.codeIn K cd15 "_law_pointed" = true) (k15 : PySem.W.keepIn K (.ref f15) = true)
    (a16 : PySem.W.nsIn K mainGlobals "_law_behind" = some (some (.ref f16))) (l16 : K.lookup f16 = some ⟨oc16, od16, .func (PySem.W.fnOf "_law_behind" "_law_behind" (defArgs sBehind) (defBody sBehind) (defScope sBehind) .none kV16 dc16 pm16 an16 cd16 ct16), sl16⟩) (c16 : PySem.W.codeIn K cd16 "_law_behind" = true) (k16 : PySem.W.keepIn K (.ref f16) = true)
    (a17 : PySem.W.nsIn K mainGlobals "law" = some (some (.ref f17))) (l17 : K.lookup f17 = some ⟨oc17, od17, .func (PySem.W.fnOf "law" "law" (defArgs sLaw) (defBody sLaw) (defScope sLaw) .none kV17 dc17 pm17 an17 cd17 ct17), sl17⟩) (c17 : PySem.W.codeIn K cd17 "law" = true) (k17 : PySem.W.keepIn K (.ref f17) = true)
    (z1 : PySem.W.nsIn K mainGlobals "len" = some none) (z2 : PySem.W.nsIn K mainGlobals "sum" = some none) (z3 : PySem.W.nsIn K mainGlobals "abs" = some none) (z4 : PySem.W.nsIn K mainGlobals "int" = some none) (z5 : PySem.W.nsIn K mainGlobals "min" = some none) (z6 : PySem.W.nsIn K mainGlobals "max" = some none) (z7 : PySem.W.nsIn K mainGlobals "range" = some none) (z8 : PySem.W.nsIn K mainGlobals "sorted" = some none) (z9 : PySem.W.nsIn K mainGlobals "list" = some none) (z10 : PySem.W.nsIn K mainGlobals "tuple" = some none) (z11 : PySem.W.nsIn K mainGlobals "repr" = some none) :
    ∃ fd : FuncData, (∀ (s : Shared) (v : Value), BindsTo s fd ⟨[v], []⟩ [("_law_script", v)]) ∧ ∀ base : Heap, K.In base → base.Ns mainGlobals mg → FnG l.prog w K mg base CX0 4 fa fd ["_law_script"] (spLaw K) := by
  have e := hfa.symm.trans (PySem.W.mg_of X G a17)
  cases e
  have B : Bt mg := ⟨PySem.W.mg_none_of X G z1, PySem.W.mg_none_of X G z2, PySem.W.mg_none_of X G z3, PySem.W.mg_none_of X G z4, PySem.W.mg_none_of X G z5, PySem.W.mg_none_of X G z6, PySem.W.mg_none_of X G z7, PySem.W.mg_none_of X G z8, PySem.W.mg_none_of X G z9, PySem.W.mg_none_of X G z10, PySem.W.mg_none_of X G z11⟩
  have F1 := fun_mk (st := sPutFirst) l1 c1 k1
  have b1 := F1.binds (ps := ["slots", "room"]) fun _ _ _ _ _ _ us hl => match us, hl with | [_, _], _ => rfl
  have T1 := at_mk X G a1 F1 b1
  have F2 := fun_mk (st := sLed) l2 c2 k2
  have b2 := F2.binds (ps := ["bits", "size"]) fun _ _ _ _ _ _ us hl => match us, hl with | [_, _], _ => rfl
  have T2 := at_mk X G a2 F2 b2
  have F3 := fun_mk (st := sAway) l3 c3 k3
  have b3 := F3.binds (ps := ["bits", "slot", "size"]) fun _ _ _ _ _ _ us hl => match us, hl with | [_, _, _], _ => rfl
  have T3 := at_mk X G a3 F3 b3
  have F4 := fun_mk (st := sByTree) l4 c4 k4
  have b4 := F4.binds (ps := ["slots", "bits", "room"]) fun _ _ _ _ _ _ us hl => match us, hl with | [_, _, _], _ => rfl
  have T4 := at_mk X G a4 F4 b4
  have F5 := fun_mk (st := sAsked) l5 c5 k5
  have b5 := F5.binds (ps := ["lay", "room", "way"]) fun _ _ _ _ _ _ us hl => match us, hl with | [_, _, _], _ => rfl
  have T5 := at_mk X G a5 F5 b5
  have F6 := fun_mk (st := sPool) l6 c6 k6
  have b6 := F6.binds (ps := ["_law_script", "_law_k"]) fun _ _ _ _ _ _ us hl => match us, hl with | [_, _], _ => rfl
  have T6 := at_mk X G a6 F6 b6
  have F7 := fun_mk (st := sTake) l7 c7 k7
  have b7 := F7.binds (ps := ["_law_pool_here", "_law_many"]) fun _ _ _ _ _ _ us hl => match us, hl with | [_, _], _ => rfl
  have T7 := at_mk X G a7 F7 b7
  have F8 := fun_mk (st := sPicked) l8 c8 k8
  have b8 := F8.binds (ps := ["_law_pool_here", "_law_some", "_law_many"]) fun _ _ _ _ _ _ us hl => match us, hl with | [_, _, _], _ => rfl
  have T8 := at_mk X G a8 F8 b8
  have F9 := fun_mk (st := sPlaces) l9 c9 k9
  have b9 := F9.binds (ps := ["_law_pool_here", "_law_many"]) fun _ _ _ _ _ _ us hl => match us, hl with | [_, _], _ => rfl
  have T9 := at_mk X G a9 F9 b9
  have F10 := fun_mk (st := sSort) l10 c10 k10
  have b10 := F10.binds (ps := ["_law_pool_here"]) fun _ _ _ _ _ _ us hl => match us, hl with | [_], _ => rfl
  have T10 := at_mk X G a10 F10 b10
  have F11 := fun_mk (st := sBig) l11 c11 k11
  have b11 := F11.binds (ps := ["_law_pool_here", "_law_sort_here"]) fun _ _ _ _ _ _ us hl => match us, hl with | [_, _], _ => rfl
  have T11 := at_mk X G a11 F11 b11
  have F12 := fun_mk (st := sCells) l12 c12 k12
  have b12 := F12.binds (ps := ["_law_pool_here", "_law_big_here", "_law_some"]) fun _ _ _ _ _ _ us hl => match us, hl with | [_, _, _], _ => rfl
  have T12 := at_mk X G a12 F12 b12
  have F13 := fun_mk (st := sMarks) l13 c13 k13
  have b13 := F13.binds (ps := ["_law_pool_here", "_law_big_here", "_law_sort_here"]) fun _ _ _ _ _ _ us hl => match us, hl with | [_, _, _], _ => rfl
  have T13 := at_mk X G a13 F13 b13
  have F14 := fun_mk (st := sPath) l14 c14 k14
  have b14 := F14.binds (ps := ["_law_slot", "_law_big_here"]) fun _ _ _ _ _ _ us hl => match us, hl with | [_, _], _ => rfl
  have T14 := at_mk X G a14 F14 b14
  have F15 := fun_mk (st := sPointed) l15 c15 k15
  have b15 := F15.binds (ps := ["_law_marks_here", "_law_big_here"]) fun _ _ _ _ _ _ us hl => match us, hl with | [_, _], _ => rfl
  have T15 := at_mk X G a15 F15 b15
  have F16 := fun_mk (st := sBehind) l16 c16 k16
  have b16 := F16.binds (ps := ["_law_cells_here", "_law_marks_here", "_law_one", "_law_sort_here"]) fun _ _ _ _ _ _ us hl => match us, hl with | [_, _, _, _], _ => rfl
  have T16 := at_mk X G a16 F16 b16
  have F17 := fun_mk (st := sLaw) l17 c17 k17
  have kb : KBinds K (PySem.W.fnOf "asked" "asked" (defArgs sAsked) (defBody sAsked) (defScope sAsked) .none kV5 dc5 pm5 an5 cd5 ct5) ["lay", "room", "way"] ["way", "room", "lay"] gAskW gAsk := by
    refine ⟨fun s us ws _ hl => ?_, fun r z => gAsk_rel r z⟩
    match us, ws, hl with
    | [], [u1, u2, u3], _ => exact .of_eq rfl
    | [], [], hl => exact absurd hl (show ¬ (0 : Nat) = 3 by decide)
    | [], [_], hl => exact absurd hl (show ¬ (0 : Nat) = 3 by decide)
    | [], [_, _], hl => exact absurd hl (show ¬ (0 : Nat) = 3 by decide)
    | [], _ :: _ :: _ :: _ :: _, hl => exact absurd hl (show ¬ (0 : Nat) = 3 by decide)
    | _ :: _, _, hl => exact absurd hl (show ¬ (0 : Nat) = 3 by decide)
  refine ⟨PySem.W.fnOf "law" "law" (defArgs sLaw) (defBody sLaw) (defScope sLaw) .none kV17 dc17 pm17 an17 cd17 ct17, fun s v => .of_eq rfl, fun base _ _ => ?_⟩
  have t1 := ok_take (P := l.prog) (w := w) (base := base) T7
  have t2 := ok_picked (P := l.prog) (w := w) (base := base) T8 B t1
  have t3 := ok_path (P := l.prog) (w := w) (base := base) T14 B
  have t4 := ok_tree (P := l.prog) (w := w) (base := base) T4 B (ok_led T2) (ok_away T3 B)
  have t5 := ok_asked (P := l.prog) (w := w) (base := base) T5 t4 (ok_put T1 B)
  refine ok_law F17 B ⟨ok_pool T6 B, t1, ok_sort T10 t1, ok_big T11 t1, ok_places T9 B t2, ok_cells T12 B t1, ok_marks T13 B t1, ok_behind T16 B t3 (ok_pointed T15 B t3), t5, ?_⟩
  obtain ⟨g, gd, GF, gm, gk, gb, go, gl, gdt⟩ := t5.ex
  have e5 := gm.symm.trans (PySem.W.mg_of X G a5)
  cases e5
  have e6 := gl.symm.trans l5
  cases e6
  cases gdt
  exact ⟨_, _, _, gAskW, GF, gm, gk, kb⟩
end Su
open PySem PySem.W PyProof.Rows
set_option maxRecDepth 100000 in
set_option maxHeartbeats 0 in
theorem PySem.Challenge.cw_surehand_k02_asked_by_each_way_holds : PySem.Challenge.rw_surehand_k02_asked_by_each_way.Holds := by
  w_on; o_law; k_head; (case hw => w_witness2)
  k_fill
  refine Su.walk_ofG (l := PySem.Challenge.rw_surehand_k02_asked_by_each_way) (n := 63) (k := 4) (x := "_law_script") (CX := L2.CX0) (sp := Su.spLaw) rfl (by decide) rfl ⟨rfl, by decide, by decide⟩ (fun w h Y => PySem.W.kIn_of Y) ?F (fun _ _ a ns hl hS => ⟨a, ns, rfl, hS, hl, fun _ => rfl⟩) (fun _ _ _ _ h => h)
  case F =>
    intro w mg fa h KX G hmg
    refine' Su.all_mk KX G hmg ?a1 ?l1 ?c1 ?k1 ?a2 ?l2 ?c2 ?k2 ?a3 ?l3 ?c3 ?k3 ?a4 ?l4 ?c4 ?k4 ?a5 ?l5 ?c5 ?k5 ?a6 ?l6 ?c6 ?k6 ?a7 ?l7 ?c7 ?k7 ?a8 ?l8 ?c8 ?k8 ?a9 ?l9 ?c9 ?k9 ?a10 ?l10 ?c10 ?k10 ?a11 ?l11 ?c11 ?k11 ?a12 ?l12 ?c12 ?k12 ?a13 ?l13 ?c13 ?k13 ?a14 ?l14 ?c14 ?k14 ?a15 ?l15 ?c15 ?k15 ?a16 ?l16 ?c16 ?k16 ?a17 ?l17 ?c17 ?k17 ?z1 ?z2 ?z3 ?z4 ?z5 ?z6 ?z7 ?z8 ?z9 ?z10 ?z11
    (case a1 => k_is); (case l1 => k_is); (case c1 => k_is); (case k1 => k_is); (case a2 => k_is); (case l2 => k_is)
    (case c2 => k_is); (case k2 => k_is); (case a3 => k_is); (case l3 => k_is); (case c3 => k_is); (case k3 => k_is)
    (case a4 => k_is); (case l4 => k_is); (case c4 => k_is); (case k4 => k_is); (case a5 => k_is); (case l5 => k_is)
    (case c5 => k_is); (case k5 => k_is); (case a6 => k_is); (case l6 => k_is); (case c6 => k_is); (case k6 => k_is)
    (case a7 => k_is); (case l7 => k_is); (case c7 => k_is); (case k7 => k_is); (case a8 => k_is); (case l8 => k_is)
    (case c8 => k_is); (case k8 => k_is); (case a9 => k_is); (case l9 => k_is); (case c9 => k_is); (case k9 => k_is)
    (case a10 => k_is); (case l10 => k_is); (case c10 => k_is); (case k10 => k_is); (case a11 => k_is); (case l11 => k_is)
    (case c11 => k_is); (case k11 => k_is); (case a12 => k_is); (case l12 => k_is); (case c12 => k_is); (case k12 => k_is)
    (case a13 => k_is); (case l13 => k_is); (case c13 => k_is); (case k13 => k_is); (case a14 => k_is); (case l14 => k_is)
    (case c14 => k_is); (case k14 => k_is); (case a15 => k_is); (case l15 => k_is); (case c15 => k_is); (case k15 => k_is)
    (case a16 => k_is); (case l16 => k_is); (case c16 => k_is); (case k16 => k_is); (case a17 => k_is); (case l17 => k_is)
    (case c17 => k_is); (case k17 => k_is); (case z1 => k_is); (case z2 => k_is); (case z3 => k_is); (case z4 => k_is)
    (case z5 => k_is); (case z6 => k_is); (case z7 => k_is); (case z8 => k_is); (case z9 => k_is); (case z10 => k_is)
    (case z11 => k_is)

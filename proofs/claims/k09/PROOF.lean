import PyProof.Rows.All
import Wide.All
import OpenK.AllK
import Wide.FinOn
import HandS.ForMost
import HandS.SortInts
import HandS.TupAny
import HandS.Conv
import KE.KIndexOf
import PyProof.ReprRoads
import PyProof.ReprLen
import HandS.IsInst
import HandS.Strs
import HandS.Rev
import HandS.Style
import HandS.TupLe
import HandS.SetFor
import HandS.Codes
import PySem.Challenge.RW_surehand_k09_reach_and_rooms
set_option Elab.async false
set_option linter.all false
set_option maxRecDepth 100000
set_option maxHeartbeats 4000000
/-! ### B0: what every law's text uses: a def by its name, calls, the end where nothing is being written out -/
namespace Su
open PySem PySem.Spec PyProof.Rows L2
/-- a def of the text stands under its name -/
structure At (K : PySem.W.Frag) (mg : Str → Option Value) (x : Str) (st : Stmt) (ps : List Str) : Prop where
  ex : ∃ (f : Addr) (fd : FuncData), Fun K x x st f fd ∧ mg x = some (.ref f) ∧ Binds K fd ps []
/-- a def that keeps a promise may be called by its name -/
structure Cal (P : Program) (w : World) (K : PySem.W.Frag) (mg : Str → Option Value) (base : Heap) (k : Nat) (x : Str) (ps : List Str) (sp : Sp) : Prop where
  ex : ∃ (f : Addr) (fd : FuncData), FnOk P w K mg base CX0 k f fd ps sp ∧ mg x = some (.ref f) ∧ PySem.W.keepIn K (.ref f) = true ∧ Binds K fd ps [] ∧ ∃ o : Obj, K.lookup f = some o ∧ o.data = .func fd
section
variable {P : Program} {w : World} {K : PySem.W.Frag} {mg : Str → Option Value} {base : Heap}
theorem cal_of {x : Str} {st : Stmt} {N ps : List Str} {k : Nat} {sp : Sp} (T : At K mg x st ps) (S : FnScope N ps (defScope st)) (len : ∀ vs H Q E, sp vs H Q E → vs.length = ps.length)
    (hb : ∀ (f : Addr) (cdv : Value) (A : Around) (outer : List Env) (s : Shared) (H : Hp) (vs : List V) (Q : VK) (E : XK), Room k (A.deeper (envOfC x (defScope st) s.heap.objs.size f cdv)) → sp vs H Q E →
      ∃ t, PSs (cxOf CX0 P w K mg base N x (defScope st) f cdv A outer s H E).nox (defBody st) t ∧ t { nx := fun _ H' => Q .non H', rt := Q } (start N vs) H) : Cal P w K mg base (k + 1) x ps sp := by
  obtain ⟨f, fd, F, hm, b⟩ := T.ex
  have z : ∃ o : Obj, K.lookup f = some o ∧ o.data = .func fd := by
    obtain ⟨oc, od, kV, doc, pm, an, cdv, ct, osl, _, lk, _⟩ := F.ex
    exact ⟨_, lk, rfl⟩
  exact ⟨f, fd, F.ok S len (fun cdv A outer s H vs Q E => hb f cdv A outer s H vs Q E), hm, F.kp, b, z⟩
end
section
variable {X : Cx} {k j : Nat} {x : Str} {ps : List Str} {sp : Sp} {p pos : Pos} {e : Expr} {es : List Expr} {t : TA}
theorem pe_own (C : Cal X.prog X.w X.K X.mg X.base k x ps sp) (hr : Room j X.A) (hk : k ≤ j) (hg : Gl X x) (ha : PA X (e :: es) t)
    (hdb : (x == ("__debug__" : Str)) = false := by decide) (he : starEach (e :: es) X.env = (false, eval e X.env) :: starEach es X.env := by rfl) (hpl : (backTo pos (starEach es X.env)).any (·.1) = false := by rfl) :
    PE X (.Call (.Name x p) (e :: es) [] pos) (tCall sp [] E0 t) := by
  obtain ⟨f, fd, F, hm, kp, b, _⟩ := C.ex
  exact pe_call F (hr.mono hk) hg hm kp b .nil (fun _ _ _ _ _ _ _ h => h.elim) ha hdb he hpl
theorem pe_own0 (C : Cal X.prog X.w X.K X.mg X.base k x ps sp) (hr : Room j X.A) (hk : k ≤ j) (hg : Gl X x) (hdb : (x == ("__debug__" : Str)) = false := by decide) :
    PE X (.Call (.Name x p) [] [] pos) (tCall sp [] E0 tNil) := by
  obtain ⟨f, fd, F, hm, kp, b, _⟩ := C.ex
  exact pe_call0 F (hr.mono hk) hg hm kp b .nil (fun _ _ _ _ _ _ _ h => h.elim) hdb
end
/-- the same promise, asked only where no object is being written out -/
structure FnG (P : Program) (w : World) (K : PySem.W.Frag) (mg : Str → Option Value) (base : Heap) (CX : CXT) (k : Nat) (f : Addr) (fd : FuncData) (ps : List Str) (sp : Sp) : Prop where
  len : ∀ vs H Q E, sp vs H Q E → vs.length = ps.length
  run : ∀ (A : Around) (outer : List Env) (s : Shared) (H : Hp) (args : Args) (us : List Value) (vs : List V) (Q : VK) (E : XK), A.guards = some [] → Room k A → Env0 P w K mg base A outer s H →
    BindsTo s fd args (ps.zip us) → Vals vs us → sp vs H Q E → codeAny (model P w) A (.call (.ref f) args) (CR CX outer P w H s Q E) s
theorem deeper_guards {A : Around} {e : Env} (h : A.guards = some []) : (A.deeper e).guards = some [] := by
  first
    | exact h
    | simpa [Around.deeper, Around.under, pushGuards, Code.guards, Code.isGuard] using h
theorem fnG_of {CX : CXT} {P : Program} {w : World} {K : PySem.W.Frag} {mg : Str → Option Value} {base : Heap} {k : Nat} {f : Addr} {nm ql : Str} {pr : Arguments} {bd : List Stmt} {sc : Scope} {dv kv dc pm cd ct oc : Value} {an od : Option Addr}
    {sl : Array (Option Value)} {N ps : List Str} {sp : Sp}
    (lk : K.lookup f = some ⟨oc, od, .func (PySem.W.fnOf nm ql pr bd sc dv kv dc pm an cd ct), sl⟩)
    (hcd : PySem.W.codeIn K cd ql = true) (S : FnScope N ps sc) (len : ∀ vs H Q E, sp vs H Q E → vs.length = ps.length)
    (hb : ∀ (A : Around) (outer : List Env) (s : Shared) (H : Hp) (vs : List V) (Q : VK) (E : XK), (A.deeper (envOfC ql sc s.heap.objs.size f cd)).guards = some [] → Room k (A.deeper (envOfC ql sc s.heap.objs.size f cd)) → sp vs H Q E →
      ∃ t, PSs (cxOf CX P w K mg base N ql sc f cd A outer s H E) bd t ∧ t { nx := fun _ H' => Q .non H', rt := Q } (start N vs) H) :
    FnG P w K mg base CX (k + 1) f (PySem.W.fnOf nm ql pr bd sc dv kv dc pm an cd ct) ps sp := by
  refine ⟨len, fun A outer s H args us vs Q E hgd hr e0 hbi rv hs => ?_⟩
  obtain ⟨t, ht, hq⟩ := hb A outer s H vs Q E (deeper_guards hgd) (hr.deeper _) hs
  -- the very same body, as a promise that asks for this surrounding alone
  have kin : K.In s.heap := e0.mod.kin.keeps fun b o z => (e0.bs b o z).1
  have nol : s.heap.NoLimit := e0.mod.nolimit.keeps fun b o z => (e0.bs b o z).1
  refine codeAny_call_function hr.depth (kin _ _ lk) rfl S.co S.gen rfl (PySem.W.codeRec_of kin hcd) (hbi _ _ _ _ ?_)
  refine wpAny_newFunctionEnv_cells S.kind (fun y hy => ?_) fun env he s1 x => ?_
  · rcases S.par y.1 (List.of_mem_zip (show (y.1, y.2) ∈ ps.zip us from hy)).1 with z | z
    · exact Or.inl z
    · exact Or.inr ⟨z, PySem.W.cellsFrom_some _ _ _ (Or.inl z)⟩
  · subst he
    refine ⟨nol.keeps x.toInCall.keep, codeAny_func (wpAny_mono (ht.run [] s1 (start N vs) H _ (inv_start S hr.hd e0 (len _ _ _ _ hs) rv x) hq) (fun fl s' z => ?_) fun _ _ z => z)⟩
    cases fl with
    | ret u =>
      obtain ⟨v, σ', H', J, r', q'⟩ := z
      exact ⟨v, H', J.os, J.bare, J.base, J.hok, r', q'⟩
    | next =>
      obtain ⟨σ', H', J, q'⟩ := z
      exact ⟨V.non, H', J.os, J.bare, J.base, J.hok, rfl, q'⟩
    | brk => exact (z.elim fun _ z => z.elim fun _ z => False.elim z.2)
    | cont => exact (z.elim fun _ z => z.elim fun _ z => False.elim z.2)
theorem hid_ns {h : Heap} {H : Hp} {b : Addr} {m : Str → Option Value} (no : ∀ (o : Obj) (es : Array DictEntry) (ep : Nat), h.get? b = some o → o.data = .dict es ep → H b = none) (n : h.Ns b m) : (hidT h H).Ns b m := by
  obtain ⟨o, es, ep, e, d, r⟩ := n
  exact ⟨o, es, ep, hidT_get e (no o es ep e d), d, r⟩
/-- the law's call, from a promise that is asked only where no object is being written out -/
theorem law_callG {P : Program} {w : World} {K : PySem.W.Frag} {mg mb : Str → Option Value} {CX : CXT} {k : Nat} {fa a : Addr} {fd : FuncData} {x : Str} {sp : Sp} {t : Shared} {vs : List Value} {ns : List Int}
    (KX : K.In t.heap) (g1 : t.heap.Ns mainGlobals mg) (g2 : t.heap.Ns builtinsNs mb) (g3 : ∀ y : Str, y ≠ "__name__" → mb y = bootBuiltins y) (g4 : t.heap.NoLimit) (g5 : t.gens = #[])
    (ha : t.heap.get? a = some { cls := .type "list", data := .seq vs.toArray }) (hi : IntsAre vs ns) (hl : ns.length ≤ sizeLine) (hr : Room k callerA)
    (F : ∀ bs : Heap, K.In bs → bs.Ns mainGlobals mg → FnG P w K mg bs CX k fa fd [x] sp) (hbi : ∀ (s : Shared) (u : Value), BindsTo s fd ⟨[u], []⟩ [(x, u)])
    (hsp : ∀ H : Hp, Only H → SqL K H a (ns.map V.int) → sp [.ref a] H (fun v _ => v = .bl true) fun _ _ _ => False)
    (hCX : ∀ H e s', CX [] H t (fun _ _ _ => False) e s' → False) :
    codeAny (model P w) callerA (.call (.ref fa) ⟨[.ref a], []⟩) (fun r s' => r = .ok (.ret (.bool true)) ∧ OldK t.heap s'.heap ∧ s'.os = t.os ∧ AllBare s'.gens) t := by
  have rv := vals_ints hi
  have main : ∀ H : Hp, Only H → SqL K H a (ns.map V.int) → HOk P w H t.heap → (∀ b, H b ≠ none → b = a) → (H a ≠ none → K.lookup a = none) →
      codeAny (model P w) callerA (.call (.ref fa) ⟨[.ref a], []⟩) (fun r s' => r = .ok (.ret (.bool true)) ∧ OldK t.heap s'.heap ∧ s'.os = t.os ∧ AllBare s'.gens) t := by
    intro H only hS hok one out
    have no : ∀ (b : Addr) (o : Obj) (es : Array DictEntry) (ep : Nat), t.heap.get? b = some o → o.data = .dict es ep → H b = none := by
      intro b o es ep e d
      cases z : H b with
      | none => rfl
      | some u =>
        obtain rfl : b = a := one b (by rw [z]; simp)
        rw [ha] at e
        cases e
        exact absurd d (by simp)
    have kb : K.In (hidT t.heap H) := by
      intro b o e
      refine hidT_get (KX b o e) ?_
      cases z : H b with
      | none => rfl
      | some u =>
        obtain rfl : b = a := one b (by rw [z]; simp)
        rw [out (by rw [z]; simp)] at e
        cases e
    have ng : (hidT t.heap H).Ns mainGlobals mg := hid_ns (no _) g1
    have md : Mod K mg (hidT t.heap H) := ⟨kb, ng, ⟨mb, hid_ns (no _) g2, g3⟩, g4.elim fun mc h => ⟨mc, hid_ns (no _) h.1, h.2⟩⟩
    have ev : Env0 P w K mg (hidT t.heap H) callerA [] t H :=
      ⟨rfl, md, fun b o e => of_hidT e, Nat.le_of_eq (hidT_size _ _), trivial, fun b z => (List.not_mem_nil z).elim, hok, .of_eq g5⟩
    refine codeAny_mono ((F _ kb ng).run callerA [] t H ⟨[.ref a], []⟩ [.ref a] [.ref a] _ _ rfl hr ev (hbi t (.ref a)) (.cons rfl .nil) (hsp H only hS)) fun r s' h => ?_
    match r, h with
    | .error e, h => exact (hCX H e s' h).elim
    | .ok .next, h => exact False.elim h
    | .ok .brk, h => exact False.elim h
    | .ok .cont, h => exact False.elim h
    | .ok (.ret u), h =>
      obtain ⟨v, H', os, bare, un, hok2, r2, q⟩ := h
      obtain rfl : v = .bl true := q
      obtain rfl : u = Value.bool true := r2
      refine ⟨rfl, OldK.of_keep fun b o e => ?_, os, bare⟩
      rcases only b with z | ⟨ob, xs, z⟩
      · exact un.keep b o e z (fun y => (List.not_mem_nil y).elim) (by simp)
      · have y1 := (hok b _ z).1
        have y2 := (hok2 b _ (un.frzs b ob _ z)).1
        rw [e] at y1
        cases y1
        exact y2
  cases hk : K.lookup a with
  | some o =>
    have e := KX a o hk
    rw [ha] at e
    cases e
    refine main (fun _ => none) (fun _ => .inl rfl) (.inr ⟨_, vs.toArray, _, hk, rfl, rfl, rfl, ?_, ?_⟩) (fun b u z => nomatch (show (none : Option HO) = some u from z)) (fun b z => absurd rfl z) fun z => absurd rfl z
    · rw [List.size_toArray, hi.length]
      exact hl
    · simpa using rv
  | none =>
    have at1 : (fun b => if b = a then some (HO.frz { cls := .type "list", data := .seq vs.toArray } (.lst (ns.map V.int))) else none : Hp) a = some (HO.frz { cls := .type "list", data := .seq vs.toArray } (.lst (ns.map V.int))) := if_pos rfl
    refine main (fun b => if b = a then some (.frz { cls := .type "list", data := .seq vs.toArray } (.lst (ns.map V.int))) else none) (fun b => ?_) (.inl (.inr ⟨_, at1⟩)) (fun b u z => ?_) (fun b z => ?_) fun _ => hk
    · by_cases e : b = a
      · exact .inr ⟨_, _, if_pos e⟩
      · exact .inl (if_neg e)
    · by_cases e : b = a
      · subst e
        have y := at1.symm.trans z
        cases y
        exact ⟨ha, by rw [List.length_map]; exact hl, vs, _, rv, ha⟩
      · exact nomatch ((if_neg e).symm.trans z)
    · by_cases e : b = a
      · exact e
      · exact absurd (if_neg e) z
theorem walk_ofG {l : PySem.W.OpenLaw} {n k : Nat} {q : Program} {loose : List Str} {XP : (Str → Option Value) → Heap → Prop} {YP : World → Heap → Prop} {d : DefRec} {K : Params → PySem.W.Frag} {CX : CXT} {sp : PySem.W.Frag → Sp} {x : Str}
    (hn : l.most = some n) (hn2 : n ≤ sizeLine) (hdf : d.params.defaults = []) (hr : Room k callerA) (hY : ∀ (w : World) (h : Heap), YP w h → (K w.params).In h)
    (F : ∀ (w : World) (mg : Str → Option Value) (fa : Addr) (h : Heap), (K w.params).In h → h.Ns mainGlobals mg → mg d.name = some (.ref fa) →
      ∃ fd : FuncData, (∀ (s : Shared) (u : Value), BindsTo s fd ⟨[u], []⟩ [(x, u)]) ∧
        ∀ bs : Heap, (K w.params).In bs → bs.Ns mainGlobals mg → FnG l.prog w (K w.params) mg bs CX k fa fd [x] (sp (K w.params)))
    (hsp : ∀ (K : PySem.W.Frag) (H : Hp) (a : Addr) (ns : List Int), ns.length ≤ n → SqL K H a (ns.map V.int) → sp K [.ref a] H (fun v _ => v = .bl true) fun _ _ _ => False)
    (hCX : ∀ (H : Hp) (s : Shared) (e : Value) (s' : Shared), CX [] H s (fun _ _ _ => False) e s' → False) :
    PySem.W.WalkO q loose XP YP l.row.toRowW d [] (fun f vs => PySem.call f vs) := by
  refine Att.attach_call hn hdf fun w s₀ t mg mb fa o pm cd doc a vs ns G Y ho hd hcd hmg hobj hints hlen hg => ?_
  have KX := hY w _ Y
  obtain ⟨fd, hb, hF⟩ := F w mg fa _ KX G.T.g hmg
  exact law_callG KX G.T.g G.T.b G.T.builtins G.T.nolimit hg hobj hints (Nat.le_trans hlen hn2) hr hF hb (fun H _ hS => hsp (K w.params) H a ns hlen hS) fun H e s' => hCX H t e s'
end Su
/-! ### B1: repr of data, t.index(n), a call by keywords alone, data that is small enough -/
namespace Su
open PySem PySem.Spec PyProof.Rows L2
/-- data of small numbers, of depth n at most, of weight m at most -/
structure Fine (d : PyData) (n m : Nat) : Prop where
  sh : d.showable = true
  nd : d.hasDict = false
  dp : d.depth ≤ n
  lv : d.leavesShort 13 = true
  wt : d.weight ≤ m
  cl : d.canLay0 = true
structure FineL (ds : List PyData) (n m : Nat) : Prop where
  sh : PyData.showableAll ds = true
  nd : PyData.hasDictAll ds = false
  dp : PyData.depthAll ds ≤ n
  lv : PyData.leavesShortAll 13 ds = true
  wt : PyData.weightAll ds ≤ m
  cl : PyData.canLayAll0 ds = true
theorem Fine.int {i : Int} (h1 : -1000000 ≤ i) (h2 : i ≤ 1000000) : Fine (.int i) 0 40 := by
  have hb : i.natAbs < 10 ^ 12 := by omega
  have e : i.natAbs < 2 ^ 20 := by omega
  have hl : i.natAbs.log2 < 39 := by
    by_cases z : i.natAbs = 0
    · rw [z]
      decide
    · exact (Nat.log2_lt z).mpr (by omega)
  refine ⟨?_, by simp [PyData.hasDict], by simp [PyData.depth], ?_, ?_, by first | rfl | simp [PyData.canLay0]⟩
  · simp only [PyData.showable, decide_eq_true_eq]
    omega
  · simp only [PyData.leavesShort, decide_eq_true_eq]
    exact PyData.shown_int_le hb
  · simp only [PyData.weight]
    split <;> omega
theorem Fine.bool (b : Bool) : Fine (.bool b) 0 0 := ⟨by simp [PyData.showable], by simp [PyData.hasDict], by simp [PyData.depth], by simp [PyData.leavesShort], by simp [PyData.weight], by first | rfl | simp [PyData.canLay0]⟩
theorem Fine.none : Fine .none 0 0 := ⟨by simp [PyData.showable], by simp [PyData.hasDict], by simp [PyData.depth], by simp [PyData.leavesShort], by simp [PyData.weight], by first | rfl | simp [PyData.canLay0]⟩
theorem FineL.nil {n : Nat} : FineL [] n 0 := ⟨by simp [PyData.showableAll], by simp [PyData.hasDictAll], by simp [PyData.depthAll], by simp [PyData.leavesShortAll], by simp [PyData.weightAll], by first | rfl | simp [PyData.canLayAll0]⟩
theorem FineL.cons {d : PyData} {ds : List PyData} {n m k : Nat} (h : Fine d n m) (t : FineL ds n k) : FineL (d :: ds) n (m + 1 + k) := by
  refine ⟨?_, ?_, ?_, ?_, ?_, ?_⟩
  · simp only [PyData.showableAll, h.sh, t.sh, Bool.and_self]
  · simp only [PyData.hasDictAll, h.nd, t.nd, Bool.or_self]
  · simp only [PyData.depthAll]
    have := h.dp
    have := t.dp
    omega
  · simp only [PyData.leavesShortAll, h.lv, t.lv, Bool.and_self]
  · simp only [PyData.weightAll]
    have := h.wt
    have := t.wt
    omega
  · simp only [PyData.canLayAll0, h.cl, t.cl, Bool.and_self]
theorem Fine.tuple {ds : List PyData} {n m : Nat} (t : FineL ds n m) : Fine (.tuple ds) (n + 1) m :=
  ⟨by simpa only [PyData.showable] using t.sh, by simpa only [PyData.hasDict] using t.nd, by simp only [PyData.depth]; have := t.dp; omega, by simpa only [PyData.leavesShort] using t.lv, by simpa only [PyData.weight] using t.wt, by simpa only [PyData.canLay0] using t.cl⟩
theorem Fine.list {ds : List PyData} {n m : Nat} (t : FineL ds n m) : Fine (.list ds) (n + 1) m :=
  ⟨by simpa only [PyData.showable] using t.sh, by simpa only [PyData.hasDict] using t.nd, by simp only [PyData.depth]; have := t.dp; omega, by simpa only [PyData.leavesShort] using t.lv, by simpa only [PyData.weight] using t.wt, by simpa only [PyData.canLay0] using t.cl⟩
theorem Fine.up {d : PyData} {n m n' m' : Nat} (h : Fine d n m) (a : n ≤ n') (b : m ≤ m') : Fine d n' m' := ⟨h.sh, h.nd, Nat.le_trans h.dp a, h.lv, Nat.le_trans h.wt b, h.cl⟩
theorem FineL.ints : ∀ ns : List Int, (∀ z ∈ ns, -1000000 ≤ z ∧ z ≤ 1000000) → FineL (ns.map PyData.int) 0 (41 * ns.length)
  | [], _ => FineL.nil
  | z :: ns, h => by
    have a := FineL.cons (Fine.int (h z List.mem_cons_self).1 (h z List.mem_cons_self).2) (FineL.ints ns fun y hy => h y (List.mem_cons_of_mem _ hy))
    have e : 40 + 1 + 41 * ns.length = 41 * (z :: ns).length := by
      rw [List.length_cons]
      omega
    rw [e] at a
    exact a
theorem Fine.len {d : PyData} {n m : Nat} (h : Fine d n m) (hm : m ≤ 1000000) : d.shown.length ≤ sizeLine := PyData.shown_fits (B := 13) (by decide) (by decide) h.lv (by have := h.wt; omega)
theorem Fine.shaped {d : PyData} {n m : Nat} (h : Fine d n m) (hn : n ≤ 64) : SeqAt.shaped d = true := by
  unfold SeqAt.shaped
  rw [h.cl, Bool.true_and, decide_eq_true_eq]
  exact Nat.le_trans h.dp hn
theorem Fine.eqv {d : PyData} {n m : Nat} (h : Fine d n m) : PyData.eqv d d = true := SeqAt.eqv_refl d h.cl
section
variable {X : Cx}
/-- repr(x), x a list or tuple of data -/
def rReprD (K : PySem.W.Frag) : List V → Hp → VK → Prop := fun xs H Q => ∃ (a : Addr) (d : PyData) (n m : Nat), xs = [.ref a] ∧ Dp K H (.ref a) d ∧ Fine d n m ∧ n ≤ 60 ∧ m ≤ 1000000 ∧ Q (.str d.shown) H
theorem call_reprD (hg : X.A.guards = some []) (hu : X.A.units + 64 < cLine) : CallR X (.builtin "repr") (rReprD X.K) := by
  intro pins s σ H xs us Q I r h
  obtain ⟨a, d, n, m, rfl, hd, hf, hn, hm, q⟩ := h
  rw [Vals.ref1 r]
  obtain ⟨as, rd⟩ := Dp.reads I d _ (.ref a) hd rfl
  refine repr_of_reads' rd hf.sh (PyData.noDict_hsm hf.nd) hg (by have := hf.dp; omega) (fun _ _ z => z) (fun h' u tk hk => ⟨.str d.shown, H, I.kept hk, ⟨u, rfl⟩, q⟩) (hf.len hm)
/-- t.index(n), t a tuple of ints that has n -/
def rTIndex (K : PySem.W.Frag) : V → List V → Hp → VK → Prop := fun x xs H Q => ∃ (p : Addr) (ns : List Int) (k : Int), x = .ref p ∧ xs = [.int k] ∧ SqT K H p (ns.map V.int) ∧ k ∈ ns ∧ Q (.int (ns.idxOf k : Nat)) H
theorem ints_of : ∀ {ns : List Int} {vs : List Value}, Vals (ns.map V.int) vs → IntsAre vs ns
  | [], _, r => by
    cases r
    exact .nil
  | n :: ns, _, r => by
    cases r with
    | cons r1 r2 =>
      obtain ⟨t, rfl⟩ := r1
      exact .cons _ _ (ints_of r2)
theorem mt_tindex : MtR X "tuple.index" (rTIndex X.K) := by
  intro pins s σ H x xs v us Q I rx rs h
  obtain ⟨p, ns, k, rfl, rfl, hq, hk, q⟩ := h
  cases rx
  obtain ⟨u, rfl, t, rfl⟩ := vals1 rs
  obtain ⟨its, r, pl, hz⟩ := I.tuple hq
  exact PySem.SeqAt.tuple_index_ints (l := p) (vs := its) pl (ints_of r) hk ⟨.int (ns.idxOf k : Nat), H, I.tok _, ⟨_, rfl⟩, q⟩
end
section
variable {X : Cx} {k j : Nat} {x : Str} {ps ks : List Str} {sp : Sp} {p pos : Pos} {kws : List Keyword} {tk : TA}
/-- a def that keeps a promise, called by keywords alone -/
structure KCal (P : Program) (w : World) (K : PySem.W.Frag) (mg : Str → Option Value) (base : Heap) (k : Nat) (x : Str) (ks : List Str) (gV : List V → List V → List V) (sp : Sp) : Prop where
  ex : ∃ (f : Addr) (fd : FuncData) (ps : List Str) (g : List Value → List Value → List Value), FnOk P w K mg base CX0 k f fd ps sp ∧ mg x = some (.ref f) ∧ PySem.W.keepIn K (.ref f) = true ∧ KBinds K fd ps ks g gV
variable {gV : List V → List V → List V}
def tKws (sp : Sp) (gV : List V → List V → List V) (tk : TA) : TE := fun σ H Q => tk σ H fun zs H2 => sp (gV [] zs) H2 Q E0
theorem pe_ownK (C : KCal X.prog X.w X.K X.mg X.base k x ks gV sp) (hr : Room j X.A) (hk : k ≤ j) (hg : Gl X x) (hkw : PK X kws tk)
    (hall : (backToKw pos (keywordEach kws X.env)).all (·.1.isSome) = true := by rfl) (hks : (backToKw pos (keywordEach kws X.env)).filterMap (·.1) = ks := by rfl) (hdb : (x == ("__debug__" : Str)) = false := by decide)
    (hpl : ((backTo pos (starEach [] X.env)).any (·.1) || (backToKw pos (keywordEach kws X.env)).any (·.1.isNone)) = false := by rfl) : PE X (.Call (.Name x p) [] kws pos) (tKws sp gV tk) := by
  obtain ⟨f, fd, ps, g, F, hm, kp, b⟩ := C.ex
  refine ⟨fun pins s σ H Q I h => ?_⟩
  refine wpAny_Call_Name_kw (ld_glob I hg hm ?_ hdb)
  refine PySem.W.callWith_KW0 (h₀ := X.base) I.ok.mod.kin kp hall (thn (hkw.run pos pins s σ H _ I h) fun ws s2 ⟨zs, H2, I2, rz, q2⟩ => ⟨I2.kIn, ?_⟩) hpl
  rw [hks]
  exact run_fnk F (hr.mono hk) b (fun _ _ _ _ _ _ _ z => z.elim) I2 .nil rz q2
end
end Su
/-! ### B2: tuples whose object is known to have no dict: their methods may be called -/
namespace Su
open PySem PySem.Spec PyProof.Rows L2
def PTup (H : Hp) (a : Addr) (xs : List V) : Prop := ∃ o : Obj, H a = some (.frz o (.tup xs)) ∧ o.dict = none
theorem PTup.sq {K : PySem.W.Frag} {H : Hp} {a : Addr} {xs : List V} (h : PTup H a xs) : SqT K H a xs := by
  obtain ⟨o, e, _⟩ := h
  exact .inl (.inr ⟨o, e⟩)
theorem PTup.same {H H' : Hp} {a : Addr} {xs : List V} (h : PTup H a xs) (s : Same H H') : PTup H' a xs := by
  obtain ⟨o, e, d⟩ := h
  exact ⟨o, s _ _ e, d⟩
theorem same_upd {H : Hp} {p : Addr} {o : HO} (h : H p = none) : Same H (upd H p o) := fun b x e => by
  rw [upd_ne (ne_of_none e h)]
  exact e
section
variable {X : Cx} {pins : List (Addr × Obj)} {σ : L2.St} {H : Hp} {s : Shared}
/-- a new tuple's object -/
abbrev tupO (its : List Value) : Obj := { cls := .type "tuple", data := .seq its.toArray }
theorem laidF {xs : List V} {its : List Value} (I : Inv X pins σ H s) (r : Vals xs its) (hz : xs.length ≤ sizeLine) (t' : Tok) :
    Inv X pins σ (upd H s.heap.objs.size (.frz (tupO its) (.tup xs))) { s with heap := s.heap.push (tupO its), toks := t' } := by
  refine I.laid (t' := t') (o := .frz (tupO its) (.tup xs)) (fun b ob q => Heap.get?_push_of_some _ q) (Nat.le_refl _) ?_
  exact ⟨Heap.get?_push_size _ rfl, hz, its, r, IsTup.new _ _⟩
theorem newF {xs : List V} {its : List Value} {Q : VK} (I : Inv X pins σ H s) (r : Vals xs its) (hz : xs.length ≤ sizeLine) (q : ∀ v H', Same H H' → H v = none → PTup H' v xs → Q (.ref v) H') (t' : Tok) :
    EP X pins σ Q (.ref s.heap.objs.size) { s with heap := s.heap.push (tupO its), toks := t' } :=
  have hf : H s.heap.objs.size = none := I.hok.fresh (Nat.le_refl _)
  ⟨.ref s.heap.objs.size, _, laidF I r hz t', rfl, q _ _ (same_upd hf) hf ⟨_, upd_same, rfl⟩⟩
end
section
variable {X : Cx} {es : List Expr} {t : TA} {pos : Pos}
def tTupF (t : TA) : TE := fun σ H Q => t σ H fun xs H1 => xs.length ≤ sizeLine ∧ ∀ v H', Same H1 H' → H1 v = none → PTup H' v xs → Q (.ref v) H'
theorem pe_tupF {x1} (h : PA X es t) : PE X (.Tuple es x1 pos) (tTupF t) := by
  refine ⟨fun pins s σ H Q I hq => ?_⟩
  refine wpAny_Tuple_spliced (thn (h.run pos pins s σ H _ I hq) fun us s1 ⟨xs, H1, I1, r, z, q⟩ => ⟨by rw [← r.length]; exact z, ?_⟩)
  exact newF I1 r z q s1.toks
def rTupL (K : PySem.W.Frag) : List V → Hp → VK → Prop := fun xs H Q => ∃ p ys, xs = [.ref p] ∧ SqL K H p ys ∧ ∀ v H', Same H H' → H v = none → PTup H' v ys → Q (.ref v) H'
theorem call_tupleF : CallR X (.type "tuple") (rTupL X.K) := by
  intro pins s σ H xs us Q I r h
  obtain ⟨p, ys, rfl, hq, q⟩ := h
  obtain ⟨u, rfl, rx⟩ := vals1 r
  cases rx
  obtain ⟨its, r', pl, hz⟩ := I.list hq
  have hlen := r'.length
  refine call_tuple_list pl.isList (fun h' kp => ?_) (by simp only [List.size_toArray] <;> omega)
  exact newF (s := { s with heap := h' }) (I.kept (t' := s.toks) kp) r' hz q s.toks
def rCatF : R2 := fun x y H Q => ∃ a b xs ys, x = .ref a ∧ y = .ref b ∧ PTup H a xs ∧ PTup H b ys ∧ xs.length + ys.length ≤ sizeLine ∧ ∀ v H', Same H H' → PTup H' v (xs ++ ys) → Q (.ref v) H'
theorem op_catF : OpR X (binaryOp .Add) rCatF := by
  intro pins s σ H x y v u Q I rx ry h
  obtain ⟨a, b, xs, ys, rfl, rfl, ha, hb, hz, q⟩ := h
  cases rx
  cases ry
  obtain ⟨its, r1, p1, _⟩ := I.tuple (ha.sq (K := X.K))
  obtain ⟨its2, r2, p2, _⟩ := I.tuple (hb.sq (K := X.K))
  by_cases hx : xs = []
  · subst hx
    cases r1
    exact cat_tup0 p1 p2 ⟨.ref b, H, I, rfl, q b H (Same.refl H) hb⟩
  · refine HT.cat_tup p1 p2 (fun z => hx (r1.nil_iff.mp z)) (fun z => ⟨.ref a, H, I, rfl, q a H (Same.refl H) ?_⟩) (fun z => ?_) (by rw [← r1.length, ← r2.length]; exact hz)
    · rw [r2.nil_iff.mp z, List.append_nil]
      exact ha
    · exact newF I (r1.append r2) (by rw [List.length_append]; exact hz) (fun v H' s' _ h => q v H' s' h) s.toks
def rSlF : V → Option Int → Option Int → Hp → VK → Prop := fun x lo hi H Q => ∃ a xs, x = .ref a ∧ PTup H a xs ∧ ∀ v H', Same H H' → PTup H' v (cutV xs lo hi) → Q (.ref v) H'
theorem sl_tupF : SlR X rSlF := by
  intro pins s σ H x v vl vu lo hi sl Q I rx hs pl pu h
  obtain ⟨a, xs, rfl, hx, q⟩ := h
  cases rx
  obtain ⟨its, r, ht, hz⟩ := I.tuple (hx.sq (K := X.K))
  have hlen : its.toArray.size = xs.length := by rw [List.size_toArray]; exact r.length.symm
  refine ⟨"tuple", _, PyProof.Rows.slot_tuple_getitem.lookup, ht.typeIs, ?_⟩
  by_cases hw : HT.sIx xs.length 0 lo = 0 ∧ HT.sIx xs.length xs.length hi = xs.length
  · refine getItem_tuple_whole ht hs pl pu (by rw [hlen]; exact hw) ⟨.ref a, H, I, rfl, q a H (Same.refl H) ?_⟩
    have z : cutV xs lo hi = xs := by
      unfold cutV
      rw [hw.1, hw.2, Nat.sub_zero, List.drop_zero, List.take_length]
    rw [z]
    exact hx
  · refine HT.getItem_tuple_cut ht hs pl pu (by rw [hlen]; exact hw) ?_ (by rw [hlen]; exact hz)
    rw [hlen]
    exact newF I ((r.drop (HT.sIx xs.length 0 lo)).take (HT.sIx xs.length xs.length hi - HT.sIx xs.length 0 lo)) (Nat.le_trans (cutV_length xs lo hi) hz) (fun v H' s' _ h => q v H' s' h) s.toks
/-- t.m(e, ..), t such a tuple -/
def tMT (r : V → List V → Hp → VK → Prop) (to : TE) (t : TA) : TE := fun σ H Q => to σ H fun x H1 => (∃ a xs, x = .ref a ∧ PTup H1 a xs) ∧ t σ H1 fun xs H2 => r x xs H2 Q
variable {o e : Expr} {to : TE} {name : Str} {apos cpos : Pos} {id : String} {r : V → List V → Hp → VK → Prop}
theorem pe_mT (slot : Slot "tuple" name id) (hty : typeOf (.builtin id) = pure (.type "method_descriptor")) (hm : MtR X id r) (ho : PE X o to) (ha : PA X (e :: es) t)
    (hbase : attributeBase o name X.env (eval o X.env) = eval o X.env := by rfl)
    (hfew : ((backTo cpos (starEach (e :: es) X.env)).all (fun x => !x.1) && (backToKw cpos (keywordEach [] X.env)).all (fun x => x.1.isSome) && decide ((e :: es).length + ([] : List Keyword).length + (if ([] : List Keyword).isEmpty then 0 else 1) < 30)) = true := by rfl)
    (hline : (apos.endLine == cpos.line) = true := by rfl) (hs : starEach (e :: es) X.env = (false, eval e X.env) :: starEach es X.env := by rfl) (hplain : (backTo cpos (starEach es X.env)).any (·.1) = false := by rfl) :
    PE X (.Call (.Attribute o name apos) (e :: es) [] cpos) (tMT r to t) := by
  refine ⟨fun pins s σ H Q I h => ?_⟩
  refine wpAny_Call_method_late hbase hfew hline rfl (thn (ho.run pins s σ H _ I h) fun v s1 ⟨x, H1, I1, r1, ⟨a, xs, ex, pt⟩, q1⟩ => ?_)
  subst ex
  cases r1
  obtain ⟨its, rv, tp, _⟩ := I1.tuple (pt.sq (K := X.K))
  obtain ⟨ob, eo, ed⟩ := pt
  have g1 := (I1.hok a _ eo).1
  refine ⟨"tuple", id, PySem.F.plainAttrs_tuple, slot, hty, tp.typeIs, fun b eb => ?_, ?_⟩
  · cases eb
    exact ⟨ob, g1, ed⟩
  have hA := ha.run cpos pins s1 σ H1 _ I1 q1
  rw [hs] at hA ⊢
  refine Calls.callWith_builtin (by show (false || (backTo cpos (starEach es X.env)).any (·.1)) = false; rw [hplain] <;> rfl) (Calls.evalArgs_plain ?_)
  exact thn hA fun us s2 ⟨vs, H2, I2, r2, q2⟩ => hm pins s2 σ H2 (.ref a) vs _ us Q I2 rfl r2 q2
end
end Su
namespace Su
open PySem PySem.Spec PyProof.Rows L2
def topS (i : Nat) : Stmt := PySem.Challenge.pw_surehand_k09_reach_and_rooms.main.body.getD i (.Pass ⟨0, 0, 0, 0⟩)
abbrev sWithin : Stmt := topS 1
abbrev sReachOf : Stmt := topS 2
abbrev sReachesOf : Stmt := topS 3
abbrev sReach : Stmt := topS 4
abbrev sAskedRooms : Stmt := topS 5
abbrev sRoomsOf : Stmt := topS 6
abbrev sPool : Stmt := topS 8
abbrev sTake : Stmt := topS 9
abbrev sPicked : Stmt := topS 10
abbrev sNames : Stmt := topS 11
abbrev sTerm : Stmt := topS 12
abbrev sProgram : Stmt := topS 13
abbrev sLReach : Stmt := topS 14
abbrev sLReaches : Stmt := topS 15
abbrev sLRoomsIn : Stmt := topS 16
abbrev sLAll : Stmt := topS 17
abbrev sDeep : Stmt := topS 18
abbrev sLaw : Stmt := topS 19
end Su
namespace Su
open PySem PySem.Spec PyProof.Rows L2
/-- the built-in names that the text does not bind -/
structure Bt (mg : Str → Option Value) : Prop where
  len : mg "len" = none
  sum : mg "sum" = none
  abs : mg "abs" = none
  int : mg "int" = none
  min : mg "min" = none
  max : mg "max" = none
  range : mg "range" = none
  sorted : mg "sorted" = none
  list : mg "list" = none
  tuple : mg "tuple" = none
  repr : mg "repr" = none
  set : mg "set" = none
  all : mg "all" = none
  isinstance : mg "isinstance" = none
  str : mg "str" = none
  bool : mg "bool" = none
  reversed : mg "reversed" = none
  enumerate : mg "enumerate" = none
theorem cutV_ints (ns : List Int) (lo hi : Option Int) : ∃ ms : List Int, cutV (ns.map V.int) lo hi = ms.map V.int := by
  unfold cutV
  exact ⟨_, by rw [← List.map_drop, ← List.map_take]⟩
theorem atI_int {α : Type} {xs : List α} {i : Int} {v : α} (h0 : 0 ≤ i) (h : xs[i.toNat]? = some v) : atI xs i = some v := by
  have e := atI_nat h
  rw [Int.toNat_of_nonneg h0] at e
  exact e
theorem b01 (b : Bool) : -(2 ^ 64) < (if b = true then (1 : Int) else 0) ∧ (if b = true then (1 : Int) else 0) < 2 ^ 64 := by
  cases b <;> exact ⟨by decide, by decide⟩
/-! the pool -/
def PoolO (o : HO) : Prop := ∃ g m : Int, o = .lst [.int g, .int m] ∧ 0 ≤ g ∧ 0 ≤ m ∧ m < 2147483647
def PoolAt (H : Hp) (p : Addr) : Prop := ∃ o, H p = some o ∧ PoolO o
def spTake : Sp := fun vs H Q _ => ∃ (p : Addr) (many : Int), vs = [.ref p, .int many] ∧ PoolAt H p ∧ 1 ≤ many ∧ many < 1000000 ∧
  ∀ (r : Int) (o : HO), 0 ≤ r → r < many → PoolO o → Q (.int r) (upd H p o)
def spPool (K : PySem.W.Frag) : Sp := fun vs H Q _ => ∃ (a : Addr) (ns : List Int) (k : Int), vs = [.ref a, .int k] ∧ SqL K H a (ns.map V.int) ∧ 0 ≤ k ∧ k < 1000 ∧
  ∀ (p : Addr) (H' : Hp), Same H H' → H p = none → PoolAt H' p → Q (.ref p) H'
theorem scTake : FnScope ["_law_pool_here", "_law_many", "_law_found"] ["_law_pool_here", "_law_many"] (defScope sTake) := ⟨rfl, rfl, rfl, by decide +kernel, rfl, by decide +kernel, by decide +kernel⟩
theorem scPool : FnScope ["_law_script", "_law_k", "_law_cell", "_law_great", "_law_mixed"] ["_law_script", "_law_k"] (defScope sPool) := ⟨rfl, rfl, rfl, by decide +kernel, rfl, by decide +kernel, by decide +kernel⟩
section
variable {P : Program} {w : World} {K : PySem.W.Frag} {mg : Str → Option Value} {base : Heap}
theorem ok_take (T : At K mg "_law_take" sTake ["_law_pool_here", "_law_many"]) : Cal P w K mg base 1 "_law_take" ["_law_pool_here", "_law_many"] spTake := by
  refine cal_of T scTake (fun vs H Q E h => ?_) (fun f cdv A outer s H vs Q E hr h => ?_)
  · obtain ⟨p, many, rfl, _⟩ := h
    rfl
  · obtain ⟨p, many, rfl, ⟨o, hp, g, m, rfl, g0, m0, m1⟩, n1, n2, q⟩ := h
    refine ⟨_, (pss_cons (ps_if (pt_cmpR op_gt (pe_ix ix_list (pv 0) pe_int (fun _ _ => rfl)) pe_int (nomark _)) (pss_cons (ps_set (i := 2) scTake.nd rfl (Or.inl rfl) (pe_op op_mod (pe_ix ix_list (pv 0) pe_int (fun _ _ => rfl)) (pv 1)))
      (pss_cons (ps_asg (pe_op op_fdiv (pe_ix ix_list (pv 0) pe_int (fun _ _ => rfl)) (pv 1)) (pg_sub (pv 0) pe_int set_list))
      (pss_one (ps_ret (pv 2))))) pss_nil)
      (pss_cons (ps_asg (pe_op op_mod (pe_op op_add (pe_op op_mul (pe_ix ix_list (pv 0) pe_int (fun _ _ => rfl)) pe_int) pe_int) pe_int) (pg_sub (pv 0) pe_int set_list))
      (pss_one (ps_ret (pe_op op_mod (pe_op op_fdiv (pe_op op_mod (pe_op op_mul (pe_ix ix_list (pv 0) pe_int (fun _ _ => rfl)) (pe_ix ix_list (pv 0) pe_int (fun _ _ => rfl))) pe_int) pe_int) (pv 1)))))), ?_⟩
    refine ⟨_, rfl, p, _, _, _, rfl, rfl, SqL.of hp, atI_nat (j := 0) rfl, _, _, rfl, rfl, _, rfl, ite2 (fun e => ?_) (fun e => ?_)⟩
    · refine ⟨_, rfl, p, _, _, _, rfl, rfl, SqL.of hp, atI_nat (j := 0) rfl, _, rfl, _, _, rfl, rfl, (by omega), ?_⟩
      refine ⟨_, rfl, p, _, _, _, rfl, rfl, SqL.of hp, atI_nat (j := 0) rfl, _, rfl, _, _, rfl, rfl, ⟨by omega, by omega⟩, ?_⟩
      refine ⟨_, rfl, p, _, _, 0, rfl, rfl, hp, rfl, ?_⟩
      refine ⟨_, rfl, q _ _ (Int.emod_nonneg _ (by omega)) (Int.emod_lt_of_pos _ (by omega)) ⟨_, _, rfl, Int.ediv_nonneg g0 (by omega), m0, m1⟩⟩
    · refine ⟨_, rfl, p, _, _, _, rfl, rfl, SqL.of hp, atI_nat (j := 1) rfl, _, _, rfl, rfl, .inl ⟨by omega, by omega⟩, _, _, rfl, rfl, _, _, rfl, rfl, (by show (0 : Int) < 2147483647; decide), ?_⟩
      refine ⟨_, rfl, p, _, _, 1, rfl, rfl, hp, rfl, ?_⟩
      have e0 : 0 ≤ (m * 48271 + 11) % 2147483647 := Int.emod_nonneg _ (by decide)
      have e1 : (m * 48271 + 11) % 2147483647 < 2147483647 := Int.emod_lt_of_pos _ (by decide)
      refine ⟨_, rfl, p, _, _, _, rfl, rfl, SqL.of upd_same, atI_nat (j := 1) rfl, _, rfl, p, _, _, _, rfl, rfl, SqL.of upd_same, atI_nat (j := 1) rfl, _, _, rfl, rfl, .inl ⟨by omega, by omega⟩, _, _, rfl, rfl, (by show (0 : Int) < 2147483629; decide), _, _, rfl, rfl, ⟨by decide, by decide⟩, _, rfl, _, _, rfl, rfl, (by omega), ?_⟩
      exact q _ _ (Int.emod_nonneg _ (by omega)) (Int.emod_lt_of_pos _ (by omega)) ⟨_, _, rfl, g0, e0, e1⟩
theorem ok_pool (T : At K mg "_law_pool" sPool ["_law_script", "_law_k"]) (B : Bt mg) : Cal P w K mg base 1 "_law_pool" ["_law_script", "_law_k"] (spPool K) := by
  refine cal_of T scPool (fun vs H Q E h => ?_) (fun f cdv A outer s H vs Q E hr h => ?_)
  · obtain ⟨a, ns, k, rfl, _⟩ := h
    rfl
  · obtain ⟨a, ns, k, rfl, hS, k0, k1, q⟩ := h
    refine ⟨_, (pss_cons (ps_set (i := 2) scPool.nd rfl (Or.inl rfl) (pe_op op_add (pe_op op_mul pe_int (pe_callB (cr_sum rfl) (by rfl) B.sum (by decide +kernel) (pa_cons (pe_slice sl_list (pv 0) po_none (po_some pe_int)) pa_nil))) (pv 1)))
      (pss_cons (ps_if (pt_cmpR op_lt (pv 1) (pe_callB call_len_seq (by rfl) B.len PySem.boot_len (pa_cons (pv 0) pa_nil)) (nomark _)) (pss_one (ps_set (i := 2) scPool.nd rfl (Or.inl rfl) (pe_ix ix_list (pv 0) (pv 1) (fun _ _ => rfl)))) pss_nil)
      (pss_cons (ps_set (i := 3) scPool.nd rfl (Or.inl rfl) (pe_callB call_abs (by rfl) B.abs (by decide +kernel) (pa_cons (pv 2) pa_nil)))
      (pss_cons (ps_set (i := 4) scPool.nd rfl (Or.inl rfl) (pe_op op_mod (pe_op op_mul (pe_op op_add (pe_op op_add (pe_op op_add (pe_op op_mod (pv 3) pe_int) (pe_op op_mul (pe_op op_mul pe_int (pv 1)) (pv 1))) (pe_op op_mul pe_int (pv 1))) pe_int) pe_int) pe_int))
      (pss_one (ps_ret (pe_lst (pa_cons (pe_op op_mul (pv 3) (pe_callTy call_int1 (by rfl) B.int (by decide +kernel) (pa_cons (pe_cmpR op_ge (pv 3) (pe_op op_pow pe_int pe_int) (nomark _)) pa_nil))) (pa_cons (pe_op op_mod (pe_op op_mul (pv 4) (pv 4)) pe_int) pa_nil))))))))), ?_⟩
    obtain ⟨ms, ems⟩ := cutV_ints ns none (some 63)
    refine ⟨_, rfl, 63, rfl, a, _, rfl, hS, fun c nc => ?_⟩
    rw [ems]
    have s1 : Same H (upd H c (.lst (ms.map V.int))) := same_upd nc
    refine ⟨c, ms, rfl, SqL.of upd_same, _, _, rfl, rfl, .inl ⟨by decide, by decide⟩, _, rfl, _, _, rfl, rfl, ?_⟩
    refine ⟨_, rfl, _, rfl, a, _, rfl, .inl (s1.seq hS), _, _, rfl, rfl, _, rfl, ite2 (fun e => ?_) (fun e => ?_)⟩
    rw [decide_eq_true_eq, List.length_map] at e
    obtain ⟨z, g⟩ : ∃ z : Int, atI (ns.map V.int) k = some (V.int z) := by
      have hk : k.toNat < ns.length := by omega
      exact ⟨_, atI_int (v := V.int ns[k.toNat]) k0 (by rw [List.getElem?_map, List.getElem?_eq_getElem hk]; rfl)⟩
    refine ⟨_, rfl, _, rfl, a, _, k, .int z, rfl, rfl, s1.seq hS, g, ?_⟩
    all_goals
      refine ⟨_, rfl, _, rfl, ?_⟩
      refine ⟨_, rfl, _, _, rfl, rfl, (by show (0 : Int) < 2147483629; decide), _, rfl, _, _, rfl, rfl, .inl ⟨by decide, by decide⟩, _, rfl, _, _, rfl, rfl, .inr ⟨by omega, by omega⟩, _, _, rfl, rfl, _, rfl, _, _, rfl, rfl, .inl ⟨by decide, by decide⟩, _, _, rfl, rfl, _, _, rfl, rfl, _, _, rfl, rfl, .inr ⟨by decide, by decide⟩, _, _, rfl, rfl, (by show (0 : Int) < 2147483647; decide), ?_⟩
      refine ⟨_, rfl, _, rfl, _, _, rfl, rfl, ⟨by decide, by decide, by decide⟩, _, _, rfl, rfl, .inr ⟨_, rfl, _, _, rfl, rfl, .inr ?_, ?_⟩⟩
      · exact b01 _
      refine ⟨_, rfl, _, rfl, _, _, rfl, rfl, .inl ?_, _, _, rfl, rfl, (by show (0 : Int) < 2147483629; decide), (by show 2 ≤ sizeLine; decide), fun p np => ?_⟩
      · refine ⟨Int.lt_of_lt_of_le (by decide) (Int.emod_nonneg _ (by decide)), Int.lt_trans (Int.emod_lt_of_pos _ (by decide)) (by decide)⟩
      refine q p _ (s1.trans (same_upd np)) (s1.free np) ⟨_, upd_same, _, _, rfl, ?_, Int.emod_nonneg _ (by decide), Int.lt_trans (Int.emod_lt_of_pos _ (by decide)) (by decide)⟩
      refine Int.mul_nonneg ?_ ?_ <;> split <;> omega
end
end Su
namespace Su
open PySem PySem.Spec PyProof.Rows L2
/-- all but what stands at p is as it was -/
def Kept (p : Addr) (H H' : Hp) : Prop := ∀ b o, H b = some o → b ≠ p → H' b = some o
theorem Kept.refl (p : Addr) (H : Hp) : Kept p H H := fun _ _ h _ => h
theorem Kept.trans {p : Addr} {H H1 H2 : Hp} (a : Kept p H H1) (b : Kept p H1 H2) : Kept p H H2 := fun c o h n => b c o (a c o h n) n
theorem Kept.same {p : Addr} {H H1 : Hp} (a : Same H H1) : Kept p H H1 := fun c o h _ => a c o h
theorem Kept.upd (p : Addr) (H : Hp) (o : HO) : Kept p H (upd H p o) := fun b x e n => by
  rw [upd_ne n]
  exact e
theorem Kept.set {p b : Addr} {H H1 : Hp} {o : HO} (a : Kept p H H1) (hb : H b = none) : Kept p H (L2.upd H1 b o) := fun c x e n => by
  rw [upd_ne (ne_of_none e hb)]
  exact a c x e n
theorem Kept.free {p b : Addr} {H H' : Hp} (a : Kept p H H') (n : b ≠ p) (h : H' b = none) : H b = none := by
  cases z : H b with
  | none => rfl
  | some o =>
    rw [a b o z n] at h
    cases h
theorem pool_ne {H : Hp} {p b : Addr} (h : PoolAt H p) (n : H b = none) : b ≠ p := by
  obtain ⟨o, e, _⟩ := h
  exact (ne_of_none e n).symm
theorem PoolAt.upd {H : Hp} {p b : Addr} {o : HO} (h : PoolAt H p) (n : p ≠ b) : PoolAt (upd H b o) p := by
  obtain ⟨x, e, z⟩ := h
  exact ⟨x, by rw [upd_ne n]; exact e, z⟩
theorem PoolAt.same {H H' : Hp} {p : Addr} (h : PoolAt H p) (s : Same H H') : PoolAt H' p := by
  obtain ⟨o, e, z⟩ := h
  exact ⟨o, s _ _ e, z⟩
theorem PTup.kept {p a : Addr} {H H' : Hp} {xs : List V} (h : PTup H a xs) (k : Kept p H H') (hp : PoolAt H p) : PTup H' a xs := by
  obtain ⟨o, e, d⟩ := h
  obtain ⟨x, e2, g, m, rfl, _⟩ := hp
  refine ⟨o, k _ _ e (fun z => ?_), d⟩
  subst z
  rw [e] at e2
  cases e2
theorem seq_kept {K : PySem.W.Frag} {p a : Addr} {H H' : Hp} {xs : List V} (k : Kept p H H') (n : a ≠ p) (h : SqL K H a xs) : SqL K H' a xs := by
  rcases h with (h | ⟨o, h⟩) | h
  · exact .inl (.inl (k _ _ h n))
  · exact .inl (.inr ⟨o, k _ _ h n⟩)
  · exact .inr h
theorem tyes {σ : L2.St} {H : Hp} {A B : Hp → Prop} (h : A H) : tYes σ H (fun b H3 => if b = true then A H3 else B H3) := (iteT h : if true = true then A H else B H)
theorem erase_map (f : Int → V) : ∀ (l : List Int) (j : Nat), (l.map f).eraseIdx j = (l.eraseIdx j).map f
  | [], _ => rfl
  | _ :: _, 0 => rfl
  | x :: l, j + 1 => by
    show f x :: (l.map f).eraseIdx j = f x :: (l.eraseIdx j).map f
    rw [erase_map f l j]
theorem free_upd {H : Hp} {a b : Addr} {o : HO} (h : upd H a o b = none) : b ≠ a ∧ H b = none := by
  by_cases e : b = a
  · subst e
    rw [upd_same] at h
    cases h
  · rw [upd_ne e] at h
    exact ⟨e, h⟩
theorem seqIx {i : Int} {n : Nat} (h0 : 0 ≤ i) (h : i < n) : seqIndex? i n = some i.toNat :=
  (ixN_seq (n := n) (i := i) (j := i.toNat) (by unfold ixN; rw [if_pos h0, if_pos h])).1
theorem erase_perm : ∀ (l : List Int) (j : Nat) (y : Int), l[j]? = some y → (y :: l.eraseIdx j).Perm l
  | [], j, y, h => by simp at h
  | x :: l, 0, y, h => by
    have e : x = y := by simpa using h
    rw [e]
    exact List.Perm.refl _
  | x :: l, j + 1, y, h => by
    have e : l[j]? = some y := by simpa using h
    exact (List.Perm.swap x y (l.eraseIdx j)).trans ((erase_perm l j y e).cons x)
abbrev rLenK (K : PySem.W.Frag) : List V → Hp → VK → Prop := fun xs H Q => ∃ p ys, xs = [.ref p] ∧ (SqL K H p ys ∨ SqT K H p ys) ∧ Q (.int ys.length) H
def spPicked (K : PySem.W.Frag) : Sp := fun vs H Q _ => ∃ (p b : Addr) (ns : List Int) (many : Int), vs = [.ref p, .ref b, .int many] ∧ PoolAt H p ∧ SqL K H b (ns.map V.int) ∧ b ≠ p ∧ ns.Nodup ∧ ns.length ≤ 1000 ∧ 0 ≤ many ∧
  ∀ (q : Addr) (H' : Hp) (ms : List Int), H q = none → Kept p H H' → PoolAt H' p → H' q = some (.lst (ms.map V.int)) → ms.Nodup → (∀ x ∈ ms, x ∈ ns) → ms.length = min many.toNat ns.length → ms.Pairwise (· ≤ ·) → Q (.ref q) H'
theorem scPicked : FnScope ["_law_pool_here", "_law_some", "_law_many", "_law_left", "_law_k"] ["_law_pool_here", "_law_some", "_law_many"] (defScope sPicked) := ⟨rfl, rfl, rfl, by decide +kernel, rfl, by decide +kernel, by decide +kernel⟩
section
variable {P : Program} {w : World} {K : PySem.W.Frag} {mg : Str → Option Value} {base : Heap}
theorem ok_picked (T : At K mg "_law_picked" sPicked ["_law_pool_here", "_law_some", "_law_many"]) (B : Bt mg) (c_take : Cal P w K mg base 1 "_law_take" ["_law_pool_here", "_law_many"] spTake) :
    Cal P w K mg base 2 "_law_picked" ["_law_pool_here", "_law_some", "_law_many"] (spPicked K) := by
  refine cal_of T scPicked (fun vs H Q E h => ?_) (fun f cdv A outer s H vs Q E hr h => ?_)
  · obtain ⟨p, b, ns, many, rfl, _⟩ := h
    rfl
  · obtain ⟨p, b, ns, many, rfl, hp, hS, hbp, nd, hl, m0, q⟩ := h
    refine ⟨_, (pss_cons (ps_set (i := 3) scPicked.nd rfl (Or.inr rfl) (pe_callTy call_list_of (by rfl) B.list (by decide +kernel) (pa_cons (pv 1) pa_nil)))
      (pss_one (ps_ret (pe_callB cr_sortedI (by rfl) B.sorted (by decide +kernel) (pa_cons (pe_lc (own := [("_law_k", 4)]) (g := gName 4) (tt := tYes) (te := (tBM K "list" rPopAt (tVar 3) (tCons (tCall spTake [] E0 (tCons (tVar 0) (tCons (tCB (rLenK K) (tCons (tVar 3) tNil)) tNil))) tNil))) (by rfl) scPicked.nd (pi_range1 (by rfl) B.range (pa_cons (pe_callB (call_min2 rfl) (by rfl) B.min (by decide +kernel) (pa_cons (pv 2) (pa_cons (pe_callB call_len_seq (by rfl) B.len PySem.boot_len (pa_cons (pv 3) pa_nil)) pa_nil))) pa_nil)) (blkOk_by (own := [("_law_k", 4)]) (N := ["_law_pool_here", "_law_some", "_law_many", "_law_left", "_law_k"]) (sc := defScope sPicked) (by decide +kernel)) (fun _ _ _ _ _ => (pg_name (i := 4) scPicked.nd rfl (Or.inl rfl))) (fun _ _ _ _ _ => pts_nil) (fun _ _ _ _ _ => (pe_bm PySem.F.plainAttrs_list PySem.F.slot_list_pop PySem.F.type_list_pop mt_popAt (pv 3) (pa_cons (pe_own c_take hr (by decide) (by rfl) (pa_cons (pv 0) (pa_cons (pe_callB call_len_seq (by rfl) B.len PySem.boot_len (pa_cons (pv 3) pa_nil)) pa_nil))) pa_nil)))) pa_nil))))), ?_⟩
    refine ⟨_, rfl, b, _, rfl, .inl hS, fun l nl => ?_⟩
    have elp : l ≠ p := pool_ne hp nl
    have hl0 : (if ((ns.map V.int).length : Int) < many then ((ns.map V.int).length : Int) else many) = ((min many.toNat ns.length : Nat) : Int) := by
      rw [List.length_map]
      split <;> omega
    refine ⟨_, rfl, _, rfl, l, _, rfl, .inl (SqL.of upd_same), _, _, rfl, _, rfl, (by omega), (by omega), fun D nD => ?_⟩
    rw [hl0]
    refine lc_range (lo := 0) (n := min many.toNat ns.length) (fun i H2 => ∃ lf acc : List Int, H2 l = some (.lst (lf.map V.int)) ∧ H2 D = some (.lst (acc.map V.int)) ∧ acc.length = i ∧ (acc ++ lf).Perm ns ∧ PoolAt H2 p ∧ Kept p H H2) ?_ ?_ ?_
    · obtain ⟨eDl, nD0⟩ := free_upd nD
      refine ⟨ns, [], (by rw [upd_ne eDl.symm, upd_same]), upd_same, rfl, List.Perm.refl _, (hp.upd elp.symm).upd (pool_ne hp nD0).symm, ((Kept.refl p H).set nl).set nD0⟩
    · rintro i H2 hi ⟨lf, acc, h1, h2, hlen, hpm, hpo, hk⟩
      obtain ⟨eDl, nD0⟩ := free_upd nD
      have eDp : D ≠ p := pool_ne hp nD0
      have hll : acc.length + lf.length = ns.length := by
        have := hpm.length_eq
        rw [List.length_append] at this
        exact this
      refine ⟨rfl, tyes ?_⟩
      refine ⟨_, rfl, .inl ⟨rfl, _, SqL.of h1⟩, _, rfl, _, rfl, l, _, rfl, .inl (SqL.of h1), p, _, rfl, hpo, ?_, ?_, fun r o r0 r1 po => ?_⟩
      · rw [List.length_map]
        omega
      · rw [List.length_map]
        omega
      · rw [List.length_map] at r1
        have hr1 : r.toNat < lf.length := by omega
        refine ⟨l, lf.map V.int, r, r.toNat, V.int lf[r.toNat], rfl, rfl, (by rw [upd_ne elp]; exact h1), by omega, by omega, seqIx r0 (by rw [List.length_map]; exact r1), (by rw [List.getElem?_map, List.getElem?_eq_getElem hr1]; rfl), ?_⟩
        have hg : lf[r.toNat]? = some lf[r.toNat] := List.getElem?_eq_getElem hr1
        generalize lf[r.toNat] = y at *
        refine ⟨acc.map V.int, (by rw [upd_ne eDl, upd_ne eDp]; exact h2), ?_, lf.eraseIdx r.toNat, acc ++ [y], ?_, ?_, ?_, ?_, ?_, ?_⟩
        · rw [List.length_map]
          exact small1000 (by omega)
        · rw [upd_ne eDl.symm, upd_same, erase_map]
        · rw [upd_same, List.map_append]
          rfl
        · rw [List.length_append, hlen]
          rfl
        · rw [List.append_assoc]
          exact ((erase_perm lf r.toNat y hg).append_left acc).trans hpm
        · refine PoolAt.upd (PoolAt.upd ⟨o, upd_same, po⟩ elp.symm) eDp.symm
        · exact (((hk.trans (Kept.upd p H2 o)).set nl).set nD0)
    · rintro H2 ⟨lf, acc, h1, h2, hlen, hpm, hpo, hk⟩
      obtain ⟨eDl, nD0⟩ := free_upd nD
      refine ⟨D, acc, rfl, SqL.of h2, fun ms c pm so nc => ?_⟩
      have ecp : c ≠ p := pool_ne hpo nc
      have hsub : ∀ x ∈ ms, x ∈ ns := fun x hx => hpm.subset (List.mem_append_left _ (pm.subset hx))
      have hnd : (acc ++ lf).Nodup := hpm.nodup_iff.mpr nd
      exact q c _ ms (hk.free ecp nc) (hk.trans (Kept.same (same_upd nc))) (hpo.upd ecp.symm) upd_same (pm.nodup_iff.mpr (List.nodup_append.mp hnd).1) hsub (by rw [pm.length_eq, hlen]) so
end
end Su
/-! ### E0: terms of programs, and sorted(set(l)) -/
namespace Su
open PySem PySem.Spec PyProof.Rows L2
inductive Tm where
  | ask (rs : List Int)
  | rest
  | thn (ts : List Tm)
  | frk (ts : List Tm)
  | rnd (least : Int) (most : Option Int) (t : Tm)
  | call (nm : Str)
def mostV : Option Int → V
  | none => .non
  | some k => .int k
mutual
inductive TmAt (H : Hp) : V → Tm → Prop
  | ask {a b : Addr} {rs : List Int} (e : PTup H a [.str "ask", .ref b]) (r : PTup H b (rs.map V.int)) : TmAt H (.ref a) (.ask rs)
  | rest {a : Addr} (e : PTup H a [.str "rest"]) : TmAt H (.ref a) .rest
  | thn {a b : Addr} {vs : List V} {ts : List Tm} (e : PTup H a [.str "then", .ref b]) (r : PTup H b vs) (t : TmL H vs ts) : TmAt H (.ref a) (.thn ts)
  | frk {a b : Addr} {vs : List V} {ts : List Tm} (e : PTup H a [.str "fork", .ref b]) (r : PTup H b vs) (t : TmL H vs ts) : TmAt H (.ref a) (.frk ts)
  | rnd {a : Addr} {v : V} {l : Int} {m : Option Int} {t : Tm} (e : PTup H a [.str "round", .int l, mostV m, v]) (r : TmAt H v t) : TmAt H (.ref a) (.rnd l m t)
  | call {a : Addr} {nm : Str} (e : PTup H a [.str "call", .str nm]) : TmAt H (.ref a) (.call nm)
inductive TmL (H : Hp) : List V → List Tm → Prop
  | nil : TmL H [] []
  | cons {v : V} {vs : List V} {t : Tm} {ts : List Tm} (h : TmAt H v t) (r : TmL H vs ts) : TmL H (v :: vs) (t :: ts)
end
/-- tuples are kept -/
def KT (H H' : Hp) : Prop := ∀ a vs, PTup H a vs → PTup H' a vs
theorem KT.same {H H' : Hp} (s : Same H H') : KT H H' := fun _ _ h => h.same s
theorem KT.of {p : Addr} {H H' : Hp} (k : Kept p H H') (hp : PoolAt H p) : KT H H' := fun _ _ h => h.kept k hp
theorem KT.trans {H H1 H2 : Hp} (a : KT H H1) (b : KT H1 H2) : KT H H2 := fun x vs h => b x vs (a x vs h)
mutual
theorem TmAt.keep {H H' : Hp} (k : KT H H') : ∀ {v : V} {t : Tm}, TmAt H v t → TmAt H' v t
  | _, _, .ask e r => .ask (k _ _ e) (k _ _ r)
  | _, _, .rest e => .rest (k _ _ e)
  | _, _, .thn e r t => .thn (k _ _ e) (k _ _ r) (TmL.keep k t)
  | _, _, .frk e r t => .frk (k _ _ e) (k _ _ r) (TmL.keep k t)
  | _, _, .rnd e r => .rnd (k _ _ e) (TmAt.keep k r)
  | _, _, .call e => .call (k _ _ e)
theorem TmL.keep {H H' : Hp} (k : KT H H') : ∀ {vs : List V} {ts : List Tm}, TmL H vs ts → TmL H' vs ts
  | _, _, .nil => .nil
  | _, _, .cons h t => .cons (TmAt.keep k h) (TmL.keep k t)
end
theorem TmL.len {H : Hp} : ∀ {vs : List V} {ts : List Tm}, TmL H vs ts → vs.length = ts.length
  | _, _, .nil => rfl
  | _, _, .cons _ t => by
    rw [List.length_cons, List.length_cons, TmL.len t]
theorem TmL.get {H : Hp} : ∀ {vs : List V} {ts : List Tm}, TmL H vs ts → ∀ {i : Nat} {v : V}, vs[i]? = some v → ∃ t, ts[i]? = some t ∧ TmAt H v t
  | _, _, .nil, i, v, e => by simp at e
  | _, _, .cons h t, 0, v, e => by
    obtain rfl := (by simpa using e : _ = v)
    exact ⟨_, rfl, h⟩
  | _, _, .cons h t, i + 1, v, e => TmL.get t (i := i) (by simpa using e)
theorem TmL.app {H : Hp} : ∀ {vs ws : List V} {ts us : List Tm}, TmL H vs ts → TmL H ws us → TmL H (vs ++ ws) (ts ++ us)
  | _, _, _, _, .nil, h => h
  | _, _, _, _, .cons x t, h => .cons x (TmL.app t h)
/-- at most so deep; what holds of every call, of every ask -/
def Lv (C : Str → Prop) (R : List Int → Prop) : Nat → Tm → Prop
  | 0, _ => False
  | _ + 1, .ask rs => R rs
  | _ + 1, .rest => True
  | d + 1, .thn ts => ts.length ≤ 3 ∧ ∀ t ∈ ts, Lv C R d t
  | d + 1, .frk ts => ts.length ≤ 3 ∧ ∀ t ∈ ts, Lv C R d t
  | d + 1, .rnd l m t => (0 ≤ l ∧ l ≤ 100 ∧ ∀ k, m = some k → 0 ≤ k ∧ k ≤ 100) ∧ Lv C R d t
  | _ + 1, .call nm => C nm
theorem Lv.imp {C C' : Str → Prop} {R R' : List Int → Prop} (hc : ∀ n, C n → C' n) (hR : ∀ r, R r → R' r) : ∀ {d : Nat} {t : Tm}, Lv C R d t → Lv C' R' d t
  | 0, _, h => h.elim
  | d + 1, .ask rs, h => hR rs h
  | d + 1, .rest, _ => trivial
  | d + 1, .thn ts, h => ⟨h.1, fun t ht => Lv.imp hc hR (h.2 t ht)⟩
  | d + 1, .frk ts, h => ⟨h.1, fun t ht => Lv.imp hc hR (h.2 t ht)⟩
  | d + 1, .rnd l m t, h => ⟨h.1, Lv.imp hc hR h.2⟩
  | d + 1, .call nm, h => hc nm h
theorem Lv.up {C : Str → Prop} {R : List Int → Prop} : ∀ {d : Nat} {t : Tm}, Lv C R d t → Lv C R (d + 1) t
  | 0, _, h => h.elim
  | d + 1, .ask rs, h => h
  | d + 1, .rest, _ => trivial
  | d + 1, .thn ts, h => ⟨h.1, fun t ht => Lv.up (h.2 t ht)⟩
  | d + 1, .frk ts, h => ⟨h.1, fun t ht => Lv.up (h.2 t ht)⟩
  | d + 1, .rnd l m t, h => ⟨h.1, Lv.up h.2⟩
  | d + 1, .call nm, h => h
/-! the reach and the rooms, in numbers -/
def reachF (env : Str → Int) : Nat → Tm → Int
  | 0, _ => 0
  | _ + 1, .ask _ => 1
  | _ + 1, .rest => 1
  | d + 1, .thn ts => (ts.map (reachF env d)).sum
  | d + 1, .frk ts => (ts.map (reachF env d)).sum + 1
  | d + 1, .rnd l none t => reachF env d t * (l + 1) + 1
  | d + 1, .rnd l (some k) t => reachF env d t * k + k - l
  | _ + 1, .call nm => env nm
def roomsF : Nat → Tm → List Int
  | 0, _ => []
  | _ + 1, .ask rs => rs
  | _ + 1, .rest => []
  | d + 1, .thn ts => (ts.map (roomsF d)).flatten
  | d + 1, .frk ts => (ts.map (roomsF d)).flatten
  | d + 1, .rnd _ _ t => roomsF d t
  | _ + 1, .call _ => []
/-! sorted(set(l)) -/
section
variable {X : Cx}
def tSortSet (K : PySem.W.Frag) (ta : TE) : TE := fun σ H Q => ta σ H fun x H1 => ∃ (l : Addr) (ns S : List Int), x = .ref l ∧ SqL K H1 l (ns.map V.int) ∧ ns.length ≤ 4000 ∧ (∀ k ∈ ns, k ∈ S) ∧ S.length < 64 ∧
  ∀ (ms : List Int) (p : Addr) (H2 : Hp), ms.Pairwise (· < ·) → (∀ k : Int, k ∈ ms ↔ k ∈ ns) → Same H1 H2 → H1 p = none → H2 p = some (.lst (ms.map V.int)) → Q (.ref p) H2
end
end Su
/-! ### E1: set(l) of a list of ints, sorted -/
namespace Su
open PySem PySem.Spec PyProof.Rows L2
/-- the set that set(..) begins with -/
abbrev set0 (w : World) : Obj := { cls := .type "set", dict := none, data := .set #[] 0 (.fresh 0 0 (!w.params.followText "set-order")) }
section
variable {P : Program} {w : World} {A : Around} {E : Value → Shared → Prop} {s : Shared}
theorem set_of_list {l : Addr} {its : Array Value} (ns : List Int) {Q : Value → Shared → Prop} (hh : A.handled = none) (hl : s.heap.IsList l its) (ia : IntsAre its.toList ns) (few : ns.length + 1 < scanBound)
    (q : ∀ (h' : Heap) (tk c : Nat), SetR w h' s.heap.objs.size (fun j => decide (j ∈ ns)) c → c ≤ ns.length → (∀ b o, s.heap.get? b = some o → h'.get? b = some o) → Q (.ref s.heap.objs.size) { s with heap := h', toks := tk }) :
    wpAny (model P w) A (call (.type "set") [.ref l]) Q E s := by
  have sz : its.size = ns.length := by
    have z := IntsAre.length ia
    rwa [Array.length_toList] at z
  obtain ⟨c0, tl0, m0⟩ := F.called_set.mro
  have m1 := F.called_set.made
  have m2 := F.called_set.sub
  have m3 := F.called_set.notType
  have m4 := F.called_set.canCreate
  have m5 := F.typeCall_set_1 (.ref l)
  refine wpAny_call (codeAny_of_tree ?_)
  show wpAny _ _ (callAny (.type "set") _) _ _ _
  refine wpAny_pure ⟨Code.quiet_builtin _ (by decide +kernel), codeAny_builtin F.entry_type_call ?_⟩
  rw [Around.under_plain (weight_type_call_type "set" [.ref l] []) rfl]
  repeat (any_goals (first | assumption | wp_step))
  refine codeAny_mono (code_set_led1 (.ref l) (E := E) (Q₁ := fun x t => x = .ref s.heap.objs.size ∧ t = { s with heap := s.heap.push (set0 w) }) ⟨rfl, rfl⟩) fun r t hr => ?_
  match r, hr with
  | .error e, hr => exact hr
  | .ok .next, hr => exact hr.elim
  | .ok .brk, hr => exact hr.elim
  | .ok .cont, hr => exact hr.elim
  | .ok (.ret x), hr =>
    obtain ⟨rfl, rfl⟩ := hr
    have at0 : (s.heap.push (set0 w)).get? s.heap.objs.size = some (set0 w) := Heap.get?_push_size _ rfl
    have ty0 : Shared.TypeIs { s with heap := s.heap.push (set0 w) } (.ref s.heap.objs.size) "set" := ⟨_, at0, rfl⟩
    have n1 := F.called_set.init.lookup
    have n2 := F.called_set.init.bind (.ref s.heap.objs.size)
    repeat (any_goals (first | assumption | wp_step))
    refine codeAny_mono (codeAny_call_builtin (R := wants (fun r t => r = .none ∧ ∃ h' tk c, t = { s with heap := h', toks := tk } ∧ SetR w h' s.heap.objs.size (fun j => decide (j ∈ ns)) c ∧ c ≤ ns.length ∧ ∀ b o, s.heap.get? b = some o → h'.get? b = some o) E)
      F.called_set.init.plain F.entry_set_init (check_set_init_1 ty0 ?_)) fun r2 t2 hr2 => ?_
    · obtain ⟨⟨oc, od, odt, os⟩, ho, hc, nl, hd⟩ := hl
      simp only at hc hd
      subst hc hd
      have lt : l < s.heap.objs.size := Heap.lt_size ho
      have ho1 : (s.heap.push (set0 w)).get? l = some { cls := .type "list", dict := od, data := .seq its nl, slots := os } := Heap.get?_push_of_some _ ho
      have isl : (s.heap.push (set0 w)).IsList l its := ⟨_, ho1, rfl, nl, rfl⟩
      have p1 := F.sub_list_set
      have p2 := F.sub_list_frozenset
      have p3 : (Value.type "list" == Value.type "dict") = false := by decide
      unfold Builtin.«set.__init__» noKeywords Builtin.Frozenset.updateFrom
      generalize hPI : pyIter = PI
      wp_walk
      subst hPI
      refine wpAny_pyIter_list isl (wpAny_bind (wpAny_runValue ?_))
      have size1 : (s.heap.push (set0 w)).objs.size = s.heap.objs.size + 1 := Heap.size_push ..
      have ap : l ≠ (s.heap.push (set0 w)).objs.size := by
        rw [size1]
        exact Nat.ne_of_lt (Nat.lt_succ_of_lt lt)
      have ap2 : s.heap.objs.size ∉ [(s.heap.push (set0 w)).objs.size, l] := by
        rw [size1]
        simp only [List.mem_cons, List.not_mem_nil, or_false, not_or]
        exact ⟨Nat.ne_of_lt (Nat.lt_succ_self _), Nat.ne_of_gt lt⟩
      refine set_update_ints ((Walks.list (by simp [hh]) _ l ap its).toS) s.heap.objs.size ap2 ns sz few (fun i v hv => ?_) (its.size - 0) 0 _ (by omega) (Nat.zero_le _) ⟨⟨_, Heap.get?_push_size _ rfl, rfl, rfl⟩, isl.push _⟩ ⟨0, Nat.le_refl 0, setR_new_at (Heap.get?_push_of_some _ at0)⟩ fun t3 c3 mv hc3 hS3 => ?_
      · have hi : i < ns.length := by
          rw [← sz]
          exact (Array.getElem?_eq_some_iff.mp hv).1
        obtain ⟨tk, e⟩ := PyProof.Rows.IntsAre.int_at ia i v (by rw [Array.getElem?_toList]; exact hv)
        refine ⟨ns[i], tk, List.getElem?_eq_getElem hi, ?_⟩
        rw [e, List.getD_eq_getElem?_getD, List.getElem?_eq_getElem hi] <;> rfl
      · obtain ⟨h3, g3, d3, tk3, os3⟩ := t3
        obtain rfl : g3 = s.gens := mv.gens
        obtain rfl : d3 = s.drawn := mv.drawn
        obtain rfl : os3 = s.os := mv.os
        show wpAny _ _ _ _ _ _
        refine wpAny_pure ?_
        show wpAny _ _ (ret Value.none) _ _ _
        refine wpAny_pure ⟨rfl, h3, tk3, c3, rfl, hS3, by omega, fun b o e => ?_⟩
        have bl : b < s.heap.objs.size := Heap.lt_size e
        refine mv.heap b o ?_ (Heap.get?_push_of_some _ (Heap.get?_push_of_some _ e))
        rw [size1]
        simp only [List.mem_cons, List.not_mem_nil, or_false, not_or]
        exact ⟨Nat.ne_of_lt bl, Nat.ne_of_lt (Nat.lt_succ_of_lt bl)⟩
    · match r2, hr2 with
      | .error e, hr2 => exact hr2
      | .ok .next, hr2 => exact hr2.elim
      | .ok .brk, hr2 => exact hr2.elim
      | .ok .cont, hr2 => exact hr2.elim
      | .ok (.ret y), hr2 =>
        obtain ⟨rfl, h', tk, c, rfl, hS, hc, hk⟩ := hr2
        repeat (any_goals (first | assumption | wp_step))
        exact q _ _ _ hS hc hk
end
end Su
namespace Su
open PySem PySem.Spec PyProof.Rows L2
theorem nodup_few {S : List Int} : ∀ {ms : List Int}, ms.Nodup → (∀ k ∈ ms, k ∈ S) → ms.length ≤ S.length := by
  induction S with
  | nil =>
    intro ms _ h
    cases ms with
    | nil => exact Nat.le_refl _
    | cons x l => exact (List.not_mem_nil (h x List.mem_cons_self)).elim
  | cons y S ih =>
    intro ms nd h
    have z := ih (ms := ms.erase y) (nd.erase y) fun k hk => by
      have h1 := (nd.mem_erase_iff.mp hk)
      rcases List.mem_cons.mp (h k h1.2) with e | e
      · exact absurd e h1.1
      · exact e
    rw [List.length_cons]
    by_cases hy : y ∈ ms
    · rw [List.length_erase_of_mem hy] at z
      omega
    · rw [List.erase_of_not_mem hy] at z
      omega
section
variable {X : Cx}
theorem pe_sortSet {a : Expr} {ta : TE} {p p2 q pos : Pos} (hg : Gl X "sorted") (hm : X.mg "sorted" = none) (hg2 : Gl X "set") (hm2 : X.mg "set" = none) (ha : PE X a ta) (hc : X.calm = true := by rfl)
    (na : starEach [a] X.env = (false, eval a X.env) :: starEach [] X.env := by rfl) : PE X (.Call (.Name "sorted" p) [.Call (.Name "set" p2) [a] [] q] [] pos) (tSortSet X.K ta) := by
  refine ⟨fun pins s σ H Q I h => ?_⟩
  refine Call_ (ld_blt I hg hm (show bootBuiltins "sorted" = some (.builtin "sorted") by decide +kernel) ?_)
  refine PyProof.Rows.callWith_builtin1 (PyProof.Rows.args_cons ?_ rfl) rfl rfl
  refine Call_ (ld_blt I hg2 hm2 boot_set ?_)
  refine PyProof.Rows.callWith_type1 (PyProof.Rows.args_cons (thn (ha.run pins s σ H _ I h) fun v s1 ⟨x, H1, I1, r1, q1⟩ => PyProof.Rows.args_nil ?_) na) na rfl
  obtain ⟨l, ns, S, rfl, hq, hl, hS, hS64, q1⟩ := q1
  cases r1
  obtain ⟨its, r, pl, hz⟩ := I1.list hq
  refine set_of_list ns (I1.ok.hd hc) pl.isList (by simpa using ints_of r) (by unfold scanBound; omega) fun h' tk c hR hc' hk => ?_
  refine PyProof.Rows.args_nil ?_
  have I2 : L2.Inv X pins σ H1 { s1 with heap := h', toks := tk } := I1.kept hk
  have c64 : c < 64 := by
    obtain ⟨o, es, ep, t, ho, hex, hd, g, nd, hm', hb, hf, hn, _⟩ := hR
    have z := nodup_few (S := S) nd fun k hk => hS k (of_decide_eq_true ((hm' k).mpr hk))
    rw [List.length_map, Array.length_toList, hn] at z
    omega
  refine sorted_set hR (I2.ok.hd hc) c64 fun t pl' out c2 ms kp gp op ge hat ia pw mem lm => ?_
  have new : H1 pl' = none := I2.hok.fresh ge
  have small : (ms.map V.int).length ≤ sizeLine := by
    rw [List.length_map, lm]
    exact Nat.le_of_lt (small1000 (by omega))
  have J := I2.call (h' := t.heap) (g' := t.gens) (d' := t.drawn) (t' := t.toks) (ch := []) (H' := upd H1 pl' (.lst (ms.map V.int))) (Un.laid kp ge new) (I2.hok.laid kp ge ⟨small, out.toList, c2, vals_of_ints ia, hat⟩) (by rw [gp]; exact I2.bare) (fun _ z => nomatch z)
  have et : t = { s1 with heap := t.heap, gens := t.gens, drawn := t.drawn, toks := t.toks } := by
    cases t
    cases s1
    cases op
    rfl
  rw [et]
  exact ⟨.ref pl', _, J, rfl, q1 ms pl' _ pw (fun k => (mem k).trans decide_eq_true_iff) (same_upd new) new upd_same⟩
end
end Su
namespace Su
open PySem PySem.Spec PyProof.Rows L2
def subs : Tm → List Tm
  | .thn ts => ts
  | .frk ts => ts
  | .rnd _ _ t => [t]
  | _ => []
def spWithin : Sp := fun vs H Q _ => ∃ (v : V) (t : Tm), vs = [v] ∧ TmAt H v t ∧ ∀ (u : Addr) (ws : List V) (H' : Hp), Same H H' → PTup H' u ws → TmL H' ws (subs t) → Q (.ref u) H'
def envOf (kvs : List (Key × V)) (n : Str) : Int := match valV kvs (Sum.inr n) with
  | some (.int i) => i
  | _ => 0
def HasC (kvs : List (Key × V)) (n : Str) : Prop := ∃ i, valV kvs (Sum.inr n) = some (.int i)
def spReach (d : Nat) : Sp := fun vs H Q _ => ∃ (v : V) (t : Tm) (e : Addr) (kvs : List (Key × V)), vs = [v, .ref e] ∧ TmAt H v t ∧ H e = some (.dK kvs) ∧ Lv (HasC kvs) (fun _ => True) d t ∧ ∀ H', Same H H' → Q (.int (reachF (envOf kvs) d t)) H'
theorem iteB {c : Bool} {A B : Prop} (h1 : c = true → A) (h2 : c = false → B) : if c = true then A else B := by
  cases c
  · exact iteF (h2 rfl)
  · exact iteT (h1 rfl)
theorem subs_lv {C : Str → Prop} {R : List Int → Prop} {d : Nat} {t : Tm} (h : Lv C R (d + 1) t) : (subs t).length ≤ 3 ∧ ∀ x ∈ subs t, Lv C R d x := by
  cases t with
  | thn ts => exact h
  | frk ts => exact h
  | rnd l m t =>
    refine ⟨by show 1 ≤ 3; decide, fun x hx => ?_⟩
    rw [List.mem_singleton.mp hx]
    exact h.2
  | _ => exact ⟨Nat.zero_le _, fun x hx => (List.not_mem_nil hx).elim⟩
theorem scWithin : FnScope ["term"] ["term"] (defScope sWithin) := ⟨rfl, rfl, rfl, by decide +kernel, rfl, by decide +kernel, by decide +kernel⟩
theorem scReachOf : FnScope ["term", "reaches", "word", "within", "one"] ["term", "reaches"] (defScope sReachOf) := ⟨rfl, rfl, rfl, by decide +kernel, rfl, by decide +kernel, by decide +kernel⟩
section
variable {P : Program} {w : World} {K : PySem.W.Frag} {mg : Str → Option Value} {base : Heap}
theorem ok_within (T : At K mg "terms_within" sWithin ["term"]) : Cal P w K mg base 1 "terms_within" ["term"] spWithin := by
  refine cal_of T scWithin (fun vs H Q E h => ?_) (fun f cdv A outer s H vs Q E hr h => ?_)
  · obtain ⟨v, t, rfl, _⟩ := h
    rfl
  · obtain ⟨v, t, rfl, hv, q⟩ := h
    refine ⟨_, (pss_cons (ps_if (pt_cmpR op_in_seq (pe_ix ix_tup (pv 0) pe_int (fun _ _ => rfl)) (pe_tupF (pa_cons pe_str (pa_cons pe_str pa_nil))) (by rfl)) (pss_one (ps_ret (pe_ix ix_tup (pv 0) pe_int (fun _ _ => rfl)))) pss_nil)
      (pss_cons (ps_if (pt_cmpR op_eq (pe_ix ix_tup (pv 0) pe_int (fun _ _ => rfl)) pe_str (nomark _)) (pss_one (ps_ret (pe_tupF (pa_cons (pe_ix ix_tup (pv 0) pe_int (fun _ _ => rfl)) pa_nil)))) pss_nil)
      (pss_one (ps_ret (pe_tupF pa_nil))))), ?_⟩
    cases hv with
    | ask e r =>
      refine ⟨_, rfl, _, _, _, _, rfl, rfl, e.sq, atI_nat (j := 0) rfl, (by show 2 ≤ sizeLine; decide), fun t1 H1 s1 n1 p1 => ?_⟩
      refine ⟨t1, _, rfl, .inr p1.sq, rfl, rfl, _, rfl, iteB (fun z => absurd z (by decide +kernel)) (fun _ => ?_)⟩
      refine ⟨_, rfl, _, _, _, _, rfl, rfl, (e.same s1).sq, atI_nat (j := 0) rfl, rfl, _, rfl, iteB (fun z => absurd z (by decide +kernel)) (fun _ => ?_)⟩
      exact ⟨Nat.zero_le _, fun u H2 s2 n2 p2 => q u _ H2 (s1.trans s2) p2 .nil⟩
    | rest e =>
      refine ⟨_, rfl, _, _, _, _, rfl, rfl, e.sq, atI_nat (j := 0) rfl, (by show 2 ≤ sizeLine; decide), fun t1 H1 s1 n1 p1 => ?_⟩
      refine ⟨t1, _, rfl, .inr p1.sq, rfl, rfl, _, rfl, iteB (fun z => absurd z (by decide +kernel)) (fun _ => ?_)⟩
      refine ⟨_, rfl, _, _, _, _, rfl, rfl, (e.same s1).sq, atI_nat (j := 0) rfl, rfl, _, rfl, iteB (fun z => absurd z (by decide +kernel)) (fun _ => ?_)⟩
      exact ⟨Nat.zero_le _, fun u H2 s2 n2 p2 => q u _ H2 (s1.trans s2) p2 .nil⟩
    | call e =>
      refine ⟨_, rfl, _, _, _, _, rfl, rfl, e.sq, atI_nat (j := 0) rfl, (by show 2 ≤ sizeLine; decide), fun t1 H1 s1 n1 p1 => ?_⟩
      refine ⟨t1, _, rfl, .inr p1.sq, rfl, rfl, _, rfl, iteB (fun z => absurd z (by decide +kernel)) (fun _ => ?_)⟩
      refine ⟨_, rfl, _, _, _, _, rfl, rfl, (e.same s1).sq, atI_nat (j := 0) rfl, rfl, _, rfl, iteB (fun z => absurd z (by decide +kernel)) (fun _ => ?_)⟩
      exact ⟨Nat.zero_le _, fun u H2 s2 n2 p2 => q u _ H2 (s1.trans s2) p2 .nil⟩
    | thn e r t =>
      refine ⟨_, rfl, _, _, _, _, rfl, rfl, e.sq, atI_nat (j := 0) rfl, (by show 2 ≤ sizeLine; decide), fun t1 H1 s1 n1 p1 => ?_⟩
      refine ⟨t1, _, rfl, .inr p1.sq, rfl, rfl, _, rfl, iteB (fun _ => ?_) (fun z => absurd z (by decide +kernel))⟩
      exact ⟨_, rfl, _, _, _, _, rfl, rfl, (e.same s1).sq, atI_nat (j := 1) rfl, q _ _ H1 s1 (r.same s1) (t.keep (KT.same s1))⟩
    | frk e r t =>
      refine ⟨_, rfl, _, _, _, _, rfl, rfl, e.sq, atI_nat (j := 0) rfl, (by show 2 ≤ sizeLine; decide), fun t1 H1 s1 n1 p1 => ?_⟩
      refine ⟨t1, _, rfl, .inr p1.sq, rfl, rfl, _, rfl, iteB (fun _ => ?_) (fun z => absurd z (by decide +kernel))⟩
      exact ⟨_, rfl, _, _, _, _, rfl, rfl, (e.same s1).sq, atI_nat (j := 1) rfl, q _ _ H1 s1 (r.same s1) (t.keep (KT.same s1))⟩
    | rnd e r =>
      refine ⟨_, rfl, _, _, _, _, rfl, rfl, e.sq, atI_nat (j := 0) rfl, (by show 2 ≤ sizeLine; decide), fun t1 H1 s1 n1 p1 => ?_⟩
      refine ⟨t1, _, rfl, .inr p1.sq, rfl, rfl, _, rfl, iteB (fun z => absurd z (by decide +kernel)) (fun _ => ?_)⟩
      refine ⟨_, rfl, _, _, _, _, rfl, rfl, (e.same s1).sq, atI_nat (j := 0) rfl, rfl, _, rfl, iteB (fun _ => ?_) (fun z => absurd z (by decide +kernel))⟩
      refine ⟨_, rfl, _, _, _, _, rfl, rfl, (e.same s1).sq, atI_nat (j := 3) rfl, (by show 1 ≤ sizeLine; decide), fun u H2 s2 n2 p2 => ?_⟩
      exact q u _ H2 (s1.trans s2) p2 (.cons (r.keep (KT.same (s1.trans s2))) .nil)
theorem ok_reach_of (T : At K mg "reach_of" sReachOf ["term", "reaches"]) (B : Bt mg) (c_terms_within : Cal P w K mg base 1 "terms_within" ["term"] spWithin) : ∀ d : Nat, Cal P w K mg base (d + 2) "reach_of" ["term", "reaches"] (spReach d)
  | 0 => by
    refine cal_of T scReachOf (fun vs H Q E h => ?_) (fun f cdv A outer s H vs Q E hr h => ?_)
    · obtain ⟨v, t, e, kvs, rfl, _⟩ := h
      rfl
    · obtain ⟨v, t, e, kvs, rfl, hv, he, hl, q⟩ := h
      exact hl.elim
  | d + 1 => by
    have c_reach_of := ok_reach_of T B c_terms_within d
    refine cal_of T scReachOf (fun vs H Q E h => ?_) (fun f cdv A outer s H vs Q E hr h => ?_)
    · obtain ⟨v, t, e, kvs, rfl, _⟩ := h
      rfl
    · obtain ⟨v, t, e, kvs, rfl, hv, he, hl, q⟩ := h
      refine ⟨_, (pss_cons (ps_set (i := 2) scReachOf.nd rfl (Or.inl rfl) (pe_ix ix_tup (pv 0) pe_int (fun _ _ => rfl)))
      (pss_cons (ps_if (PW.pt (pw_or (pt_cmpR op_eq (pv 2) pe_str (nomark _)) (pw_or1 (pt_cmpR op_eq (pv 2) pe_str (nomark _))))) (pss_one (ps_ret pe_int)) pss_nil)
      (pss_cons (ps_if (pt_cmpR op_eq (pv 2) pe_str (nomark _)) (pss_one (ps_ret (pe_dget (hu_of hr) (pv 1) (pe_ix ix_tup (pv 0) pe_int (fun _ _ => rfl)) (fun _ _ => rfl)))) pss_nil)
      (pss_cons (ps_set (i := 3) scReachOf.nd rfl (Or.inl rfl) (pe_callB (cr_sum rfl) (by rfl) B.sum (by decide +kernel) (pa_cons (pe_lc (own := [("one", 4)]) (g := gName 4) (tt := tYes) (te := (tCall (spReach d) [] E0 (tCons (tVar 4) (tCons (tVar 1) tNil)))) (by rfl) scReachOf.nd (pi_tup (pe_own c_terms_within hr (by omega) (by rfl) (pa_cons (pv 0) pa_nil))) (blkOk_by (own := [("one", 4)]) (N := ["term", "reaches", "word", "within", "one"]) (sc := defScope sReachOf) (by decide +kernel)) (fun _ _ _ _ _ => (pg_name (i := 4) scReachOf.nd rfl (Or.inl rfl))) (fun _ _ _ _ _ => pts_nil) (fun _ _ _ _ _ => (pe_own c_reach_of hr (by omega) (by rfl) (pa_cons (pv 4) (pa_cons (pv 1) pa_nil))))) pa_nil)))
      (pss_cons (ps_if (pt_cmpR op_eq (pv 2) pe_str (nomark _)) (pss_one (ps_ret (pe_op op_add (pv 3) pe_int))) pss_nil)
      (pss_cons (ps_if (PW.pt (pw_and (pt_cmpR op_eq (pv 2) pe_str (nomark _)) (pw_and1 (pt_cmpR op_isN (pe_ix ix_tup (pv 0) pe_int (fun _ _ => rfl)) pe_non (nomark _))))) (pss_one (ps_ret (pe_op op_add (pe_op op_mul (pv 3) (pe_op op_add (pe_ix ix_tup (pv 0) pe_int (fun _ _ => rfl)) pe_int)) pe_int))) pss_nil)
      (pss_cons (ps_if (pt_cmpR op_eq (pv 2) pe_str (nomark _)) (pss_one (ps_ret (pe_op op_sub (pe_op op_add (pe_op op_mul (pv 3) (pe_ix ix_tup (pv 0) pe_int (fun _ _ => rfl))) (pe_ix ix_tup (pv 0) pe_int (fun _ _ => rfl))) (pe_ix ix_tup (pv 0) pe_int (fun _ _ => rfl))))) pss_nil)
      (pss_one (ps_ret (pv 3)))))))))), ?_⟩
      cases hv with
      | ask e1 r =>
        refine ⟨_, rfl, _, _, _, _, rfl, rfl, e1.sq, atI_nat (j := 0) rfl, ?_⟩
        exact ⟨_, rfl, rfl, _, rfl, iteB (fun _ => q H (Same.refl H)) (fun z => absurd z (by decide +kernel))⟩
      | rest e1 =>
        refine ⟨_, rfl, _, _, _, _, rfl, rfl, e1.sq, atI_nat (j := 0) rfl, ?_⟩
        refine ⟨_, rfl, rfl, _, rfl, iteB (fun z => absurd z (by decide +kernel)) (fun _ => ?_)⟩
        exact ⟨_, rfl, rfl, _, rfl, iteB (fun _ => q H (Same.refl H)) (fun z => absurd z (by decide +kernel))⟩
      | @call a1 nm e1 =>
        refine ⟨_, rfl, _, _, _, _, rfl, rfl, e1.sq, atI_nat (j := 0) rfl, ?_⟩
        refine ⟨_, rfl, rfl, _, rfl, iteB (fun z => absurd z (by decide +kernel)) (fun _ => ?_)⟩
        refine ⟨_, rfl, rfl, _, rfl, iteB (fun z => absurd z (by decide +kernel)) (fun _ => ?_)⟩
        refine ⟨_, rfl, rfl, _, rfl, iteB (fun _ => ?_) (fun z => absurd z (by decide +kernel))⟩
        obtain ⟨i, hi⟩ : HasC kvs nm := hl
        refine ⟨_, rfl, _, rfl, _, _, _, _, rfl, rfl, e1.sq, atI_nat (j := 1) rfl, e, .int i, rfl, (by rw [← hi]; exact DGet.k (k := Sum.inr nm) he), ?_⟩
        have z := q H (Same.refl H)
        have e2 : reachF (envOf kvs) (d + 1) (.call nm) = i := by
          show envOf kvs nm = i
          unfold envOf
          rw [hi]
        rw [e2] at z
        exact z
      | @thn a1 b1 vs1 ts e1 r1 t1 =>
        have hv' : TmAt H (.ref a1) (.thn ts) := .thn e1 r1 t1
        refine ⟨_, rfl, _, _, _, _, rfl, rfl, e1.sq, atI_nat (j := 0) rfl, ?_⟩
        refine ⟨_, rfl, rfl, _, rfl, iteB (fun z => absurd z (by decide +kernel)) (fun _ => ?_)⟩
        refine ⟨_, rfl, rfl, _, rfl, iteB (fun z => absurd z (by decide +kernel)) (fun _ => ?_)⟩
        refine ⟨_, rfl, rfl, _, rfl, iteB (fun z => absurd z (by decide +kernel)) (fun _ => ?_)⟩
        obtain ⟨hsl, hsv⟩ := subs_lv hl
        refine ⟨_, rfl, _, (.thn ts), rfl, hv', fun u ws H1 s1 pu tl => ?_⟩
        have hwl : ws.length = (subs (.thn ts)).length := tl.len
        refine ⟨u, rfl, ⟨_, pu.sq⟩, fun D nD => ?_⟩
        refine lc_tup (K := K) (a := u) (xs := ws) (fun i H2 => Same H1 H2 ∧ H2 D = some (.lst ((((subs (.thn ts)).take i).map (reachF (envOf kvs) d)).map V.int))) ?_ ?_ ?_ ?_
        · exact ⟨same_upd nD, upd_same⟩
        · rintro i H2 _ ⟨s2, _⟩
          exact (pu.same s2).sq
        · rintro i x H2 hx ⟨s2, hD⟩
          obtain ⟨t0, et, ht0⟩ := tl.get hx
          refine ⟨rfl, tyes ?_⟩
          refine ⟨_, rfl, _, rfl, x, t0, e, kvs, rfl, ht0.keep (KT.same s2), s2 _ _ (s1 _ _ he), hsv t0 (List.mem_of_getElem? et), fun H3 s3 => ?_⟩
          refine ⟨_, s3 _ _ hD, ?_, ?_, ?_⟩
          · rw [List.length_map, List.length_map, List.length_take]
            exact small1000 (by omega)
          · intro c o ec
            rw [upd_ne (ne_of_none ec nD)]
            exact s3 _ _ (s2 _ _ ec)
          · rw [upd_same, List.take_add_one, et, List.map_append, List.map_append]
            rfl
        · rintro H2 ⟨s2, hD⟩
          rw [hwl, List.take_length] at hD
          have s12 : Same H H2 := s1.trans s2
          refine ⟨D, _, rfl, SqL.of hD, ?_⟩
          refine ⟨_, rfl, rfl, _, rfl, iteB (fun z => absurd z (by decide +kernel)) (fun _ => ?_)⟩
          refine ⟨_, rfl, rfl, _, rfl, iteB (fun z => absurd z (by decide +kernel)) (fun _ => ?_)⟩
          refine ⟨_, rfl, rfl, _, rfl, iteB (fun z => absurd z (by decide +kernel)) (fun _ => ?_)⟩
          exact ⟨_, rfl, q H2 s12⟩
      | @frk a1 b1 vs1 ts e1 r1 t1 =>
        have hv' : TmAt H (.ref a1) (.frk ts) := .frk e1 r1 t1
        refine ⟨_, rfl, _, _, _, _, rfl, rfl, e1.sq, atI_nat (j := 0) rfl, ?_⟩
        refine ⟨_, rfl, rfl, _, rfl, iteB (fun z => absurd z (by decide +kernel)) (fun _ => ?_)⟩
        refine ⟨_, rfl, rfl, _, rfl, iteB (fun z => absurd z (by decide +kernel)) (fun _ => ?_)⟩
        refine ⟨_, rfl, rfl, _, rfl, iteB (fun z => absurd z (by decide +kernel)) (fun _ => ?_)⟩
        obtain ⟨hsl, hsv⟩ := subs_lv hl
        refine ⟨_, rfl, _, (.frk ts), rfl, hv', fun u ws H1 s1 pu tl => ?_⟩
        have hwl : ws.length = (subs (.frk ts)).length := tl.len
        refine ⟨u, rfl, ⟨_, pu.sq⟩, fun D nD => ?_⟩
        refine lc_tup (K := K) (a := u) (xs := ws) (fun i H2 => Same H1 H2 ∧ H2 D = some (.lst ((((subs (.frk ts)).take i).map (reachF (envOf kvs) d)).map V.int))) ?_ ?_ ?_ ?_
        · exact ⟨same_upd nD, upd_same⟩
        · rintro i H2 _ ⟨s2, _⟩
          exact (pu.same s2).sq
        · rintro i x H2 hx ⟨s2, hD⟩
          obtain ⟨t0, et, ht0⟩ := tl.get hx
          refine ⟨rfl, tyes ?_⟩
          refine ⟨_, rfl, _, rfl, x, t0, e, kvs, rfl, ht0.keep (KT.same s2), s2 _ _ (s1 _ _ he), hsv t0 (List.mem_of_getElem? et), fun H3 s3 => ?_⟩
          refine ⟨_, s3 _ _ hD, ?_, ?_, ?_⟩
          · rw [List.length_map, List.length_map, List.length_take]
            exact small1000 (by omega)
          · intro c o ec
            rw [upd_ne (ne_of_none ec nD)]
            exact s3 _ _ (s2 _ _ ec)
          · rw [upd_same, List.take_add_one, et, List.map_append, List.map_append]
            rfl
        · rintro H2 ⟨s2, hD⟩
          rw [hwl, List.take_length] at hD
          have s12 : Same H H2 := s1.trans s2
          refine ⟨D, _, rfl, SqL.of hD, ?_⟩
          refine ⟨_, rfl, rfl, _, rfl, iteB (fun _ => ?_) (fun z => absurd z (by decide +kernel))⟩
          exact ⟨_, rfl, _, _, rfl, rfl, q H2 s12⟩
      | @rnd a1 v1 l m t0 e1 r1 =>
        have hv' : TmAt H (.ref a1) (.rnd l m t0) := .rnd e1 r1
        have hlm := hl.1
        refine ⟨_, rfl, _, _, _, _, rfl, rfl, e1.sq, atI_nat (j := 0) rfl, ?_⟩
        refine ⟨_, rfl, rfl, _, rfl, iteB (fun z => absurd z (by decide +kernel)) (fun _ => ?_)⟩
        refine ⟨_, rfl, rfl, _, rfl, iteB (fun z => absurd z (by decide +kernel)) (fun _ => ?_)⟩
        refine ⟨_, rfl, rfl, _, rfl, iteB (fun z => absurd z (by decide +kernel)) (fun _ => ?_)⟩
        obtain ⟨hsl, hsv⟩ := subs_lv hl
        refine ⟨_, rfl, _, (.rnd l m t0), rfl, hv', fun u ws H1 s1 pu tl => ?_⟩
        have hwl : ws.length = (subs (.rnd l m t0)).length := tl.len
        refine ⟨u, rfl, ⟨_, pu.sq⟩, fun D nD => ?_⟩
        refine lc_tup (K := K) (a := u) (xs := ws) (fun i H2 => Same H1 H2 ∧ H2 D = some (.lst ((((subs (.rnd l m t0)).take i).map (reachF (envOf kvs) d)).map V.int))) ?_ ?_ ?_ ?_
        · exact ⟨same_upd nD, upd_same⟩
        · rintro i H2 _ ⟨s2, _⟩
          exact (pu.same s2).sq
        · rintro i x H2 hx ⟨s2, hD⟩
          obtain ⟨t0, et, ht0⟩ := tl.get hx
          refine ⟨rfl, tyes ?_⟩
          refine ⟨_, rfl, _, rfl, x, t0, e, kvs, rfl, ht0.keep (KT.same s2), s2 _ _ (s1 _ _ he), hsv t0 (List.mem_of_getElem? et), fun H3 s3 => ?_⟩
          refine ⟨_, s3 _ _ hD, ?_, ?_, ?_⟩
          · rw [List.length_map, List.length_map, List.length_take]
            exact small1000 (by omega)
          · intro c o ec
            rw [upd_ne (ne_of_none ec nD)]
            exact s3 _ _ (s2 _ _ ec)
          · rw [upd_same, List.take_add_one, et, List.map_append, List.map_append]
            rfl
        · rintro H2 ⟨s2, hD⟩
          rw [hwl, List.take_length] at hD
          have s12 : Same H H2 := s1.trans s2
          refine ⟨D, _, rfl, SqL.of hD, ?_⟩
          have e2 := e1.same s12
          have hsum : (((subs (.rnd l m t0)).map (reachF (envOf kvs) d)).sum) = reachF (envOf kvs) d t0 := by
            show reachF (envOf kvs) d t0 + 0 = _
            omega
          rw [hsum]
          refine ⟨_, rfl, rfl, _, rfl, iteB (fun z => absurd z (by decide +kernel)) (fun _ => ?_)⟩
          refine ⟨_, rfl, rfl, _, rfl, iteB (fun _ => ?_) (fun z => absurd z (by decide +kernel))⟩
          refine ⟨_, rfl, _, _, _, _, rfl, rfl, e2.sq, atI_nat (j := 2) rfl, rfl, _, rfl, ?_⟩
          cases m with
          | none =>
            refine iteB (fun _ => ?_) (fun z => absurd z (by decide +kernel))
            exact ⟨_, rfl, _, rfl, _, _, _, _, rfl, rfl, e2.sq, atI_nat (j := 1) rfl, _, _, rfl, rfl, _, _, rfl, rfl, .inr ⟨by omega, by omega⟩, _, _, rfl, rfl, q H2 s12⟩
          | some k =>
            have hk := hlm.2.2 k rfl
            refine iteB (fun z => absurd (of_decide_eq_true z) (by intro y; cases y)) (fun _ => ?_)
            refine ⟨_, rfl, rfl, _, rfl, iteB (fun _ => ?_) (fun z => absurd z (by decide +kernel))⟩
            exact ⟨_, rfl, _, rfl, _, _, _, _, rfl, rfl, e2.sq, atI_nat (j := 2) rfl, _, _, rfl, rfl, .inr ⟨by omega, by omega⟩, _, rfl, _, _, _, _, rfl, rfl, e2.sq, atI_nat (j := 2) rfl, _, _, rfl, rfl, _, rfl, _, _, _, _, rfl, rfl, e2.sq, atI_nat (j := 1) rfl, _, _, rfl, rfl, q H2 s12⟩
end
end Su
namespace Su
open PySem PySem.Spec PyProof.Rows L2
/-- the reaches of a program's names, from the last on -/
def rk (D : Nat) : List (Str × Tm) → List (Key × V)
  | [] => []
  | (n, t) :: r => putK (rk D r) (Sum.inr n) (.int (reachF (envOf (rk D r)) D t))
def PO (D : Nat) : List (Str × Tm) → Prop
  | [] => True
  | (_, t) :: r => Lv (HasC (rk D r)) (fun _ => True) D t ∧ PO D r
def PrL (H : Hp) : List V → List (Str × Tm) → Prop
  | [], [] => True
  | v :: vs, q :: qs => (∃ a u, v = .ref a ∧ PTup H a [.str q.1, u] ∧ TmAt H u q.2) ∧ PrL H vs qs
  | _, _ => False
theorem PrL.keep {H H' : Hp} (k : KT H H') : ∀ {vs : List V} {ps : List (Str × Tm)}, PrL H vs ps → PrL H' vs ps
  | [], [], _ => trivial
  | v :: vs, q :: qs, z => by
    obtain ⟨⟨a, u, e, p, t⟩, r⟩ := z
    exact ⟨⟨a, u, e, k _ _ p, t.keep k⟩, PrL.keep k r⟩
  | [], _ :: _, z => z.elim
  | _ :: _, [], z => z.elim
theorem PrL.len {H : Hp} : ∀ {vs : List V} {ps : List (Str × Tm)}, PrL H vs ps → vs.length = ps.length
  | [], [], _ => rfl
  | v :: vs, q :: qs, z => by
    rw [List.length_cons, List.length_cons, PrL.len z.2]
  | [], _ :: _, z => z.elim
  | _ :: _, [], z => z.elim
theorem PrL.get {H : Hp} : ∀ {vs : List V} {ps : List (Str × Tm)}, PrL H vs ps → ∀ {i : Nat} {v : V}, vs[i]? = some v → ∃ q a u, ps[i]? = some q ∧ v = .ref a ∧ PTup H a [.str q.1, u] ∧ TmAt H u q.2
  | [], [], _, i, v, e => by simp at e
  | v0 :: vs, q :: qs, z, 0, v, e => by
    obtain ⟨⟨a, u, e2, p, t⟩, _⟩ := z
    have e3 : v0 = v := by simpa using e
    subst e3
    exact ⟨q, a, u, rfl, e2, p, t⟩
  | v0 :: vs, q :: qs, z, i + 1, v, e => PrL.get z.2 (i := i) (by simpa using e)
  | [], _ :: _, z, _, _, _ => z.elim
  | _ :: _, [], z, _, _, _ => z.elim
theorem putK_few {kvs : List (Key × V)} {k : Key} {v : V} : (putK kvs k v).length ≤ kvs.length + 1 := by
  cases e : valV kvs k with
  | none =>
    rw [putK_new v e, List.length_append]
    exact Nat.le_refl _
  | some x =>
    first
      | (rw [putK_len_some e]; omega)
      | (unfold putK; split <;> simp)
theorem rk_len (D : Nat) : ∀ ps : List (Str × Tm), (rk D ps).length ≤ ps.length
  | [] => Nat.le_refl _
  | (n, t) :: r => by
    have h1 := rk_len D r
    have h2 := putK_few (kvs := rk D r) (k := Sum.inr n) (v := .int (reachF (envOf (rk D r)) D t))
    show (putK (rk D r) (Sum.inr n) (.int (reachF (envOf (rk D r)) D t))).length ≤ r.length + 1
    omega
theorem PO.drop {D : Nat} : ∀ {ps : List (Str × Tm)} (j : Nat), PO D ps → PO D (ps.drop j)
  | [], j, h => by
    rw [List.drop_nil]
    trivial
  | q :: ps, 0, h => h
  | (n, t) :: ps, j + 1, h => PO.drop (ps := ps) j h.2
def spReaches (D : Nat) : Sp := fun vs H Q _ => ∃ (p : Addr) (ws : List V) (ps : List (Str × Tm)), vs = [.ref p] ∧ H p = some (.lst ws) ∧ PrL H ws ps ∧ PO D ps ∧ ps.length ≤ 100 ∧ ∀ (e : Addr) (H' : Hp), Same H H' → H e = none → H' e = some (.dK (rk D ps)) → Q (.ref e) H'
def topReach (D : Nat) : List (Str × Tm) → Int
  | [] => 0
  | (_, t) :: r => reachF (envOf (rk D r)) D t
def spTopReach (D : Nat) : Sp := fun vs H Q _ => ∃ (p : Addr) (ws : List V) (ps : List (Str × Tm)), vs = [.ref p] ∧ H p = some (.lst ws) ∧ PrL H ws ps ∧ PO D ps ∧ ps ≠ [] ∧ ps.length ≤ 100 ∧ ∀ H', Same H H' → Q (.int (topReach D ps)) H'
theorem scReachesOf : FnScope ["program", "reaches", "name", "term"] ["program"] (defScope sReachesOf) := ⟨rfl, rfl, rfl, by decide +kernel, rfl, by decide +kernel, by decide +kernel⟩
theorem scReach : FnScope ["program"] ["program"] (defScope sReach) := ⟨rfl, rfl, rfl, by decide +kernel, rfl, by decide +kernel, by decide +kernel⟩
section
variable {P : Program} {w : World} {K : PySem.W.Frag} {mg : Str → Option Value} {base : Heap}
theorem ok_reaches_of (T : At K mg "reaches_of" sReachesOf ["program"]) (B : Bt mg) {D : Nat} {lv : Nat} (c_reach_of : Cal P w K mg base lv "reach_of" ["term", "reaches"] (spReach D)) : Cal P w K mg base (lv + 1) "reaches_of" ["program"] (spReaches D) := by
  refine cal_of T scReachesOf (fun vs H Q E h => ?_) (fun f cdv A outer s H vs Q E hr h => ?_)
  · obtain ⟨p, ws, ps, rfl, _⟩ := h
    rfl
  · obtain ⟨p, ws, ps, rfl, hp, pr, po, hl, q⟩ := h
    refine ⟨_, (pss_cons (ps_set (i := 1) scReachesOf.nd rfl (Or.inl rfl) pe_dnewK)
      (pss_cons (ps_for PassesOwn.never rfl (pi_reversed (by rfl) B.reversed (pa_cons (pv 0) pa_nil)) (pg_tup (by rfl) (pgs_cons (pg_name (i := 2) scReachesOf.nd rfl (Or.inl rfl)) (pgs_cons (pg_name (i := 3) scReachesOf.nd rfl (Or.inl rfl)) pgs_nil))) (pss_one (ps_dput (hu_of hr) (pv 1) (pv 2) (pe_own c_reach_of hr (Nat.le_refl _) (by rfl) (pa_cons (pv 3) (pa_cons (pv 1) pa_nil))) rfl)))
      (pss_one (ps_ret (pv 1))))), ?_⟩
    intro e ne
    have hwl : ws.length = ps.length := pr.len
    have s1 : Same H (upd H e (.dK [])) := same_upd ne
    refine ⟨_, rfl, p, ws, rfl, SqL.of (s1 _ _ hp), ?_⟩
    refine RT.for_Itv (K := K) (a := p) (xs := ws) (fun i σ H2 => ∃ y2 y3 : Option V, σ = [some (.ref p), some (.ref e), y2, y3] ∧ Same H H2 ∧ i ≤ ps.length ∧ H2 e = some (.dK (rk D (ps.drop (ps.length - i))))) ?_ ?_ ?_ ?_
    · refine ⟨none, none, rfl, s1, Nat.zero_le _, ?_⟩
      rw [upd_same, Nat.sub_zero, List.drop_length]
      rfl
    · rintro i σ H2 ⟨_, _, _, s2, _⟩
      exact SqL.of (s2 _ _ hp)
    · rintro i x σ H2 hi hx ⟨y2, y3, rfl, s2, hil, hd⟩
      obtain ⟨q0, a, u, eq, rfl, pa, tu⟩ := pr.get hx
      obtain ⟨n0, t0⟩ := q0
      have hj : ps.length - (i + 1) = ws.length - 1 - i := by omega
      have hdr : ps.drop (ps.length - (i + 1)) = (n0, t0) :: ps.drop (ps.length - i) := by
        rw [hj]
        rw [hwl] at eq ⊢
        have hlt : ps.length - 1 - i < ps.length := by omega
        rw [List.drop_eq_getElem_cons hlt]
        rw [List.getElem?_eq_getElem hlt] at eq
        injection eq with eq
        rw [eq, show ps.length - 1 - i + 1 = ps.length - i by omega]
      have hpo : PO D ((n0, t0) :: ps.drop (ps.length - i)) := by
        rw [← hdr]
        exact PO.drop _ po
      refine ⟨a, _, rfl, (pa.same s2).sq, rfl, _, _, rfl, _, _, rfl, rfl, ?_⟩
      refine ⟨_, rfl, _, rfl, u, t0, e, _, rfl, tu.keep (KT.same s2), hd, hpo.1, fun H3 s3 => ?_⟩
      refine ⟨_, rfl, _, rfl, e, _, rfl, DPut.k (k := Sum.inr n0) (s3 _ _ hd) ?_, ?_⟩
      · have h1 := rk_len D (ps.drop (ps.length - i))
        rw [List.length_drop] at h1
        exact small1000 (by omega)
      · refine ⟨_, _, rfl, ?_, by omega, ?_⟩
        · intro c o ec
          rw [upd_ne (ne_of_none ec ne)]
          exact s3 _ _ (s2 _ _ ec)
        · rw [upd_same, hdr]
          rfl
    · rintro σ H2 ⟨y2, y3, rfl, s2, _, hd⟩
      rw [hwl, Nat.sub_self, List.drop_zero] at hd
      exact ⟨_, rfl, q e H2 s2 ne hd⟩
theorem ok_reach (T : At K mg "reach" sReach ["program"]) (B : Bt mg) {D : Nat} {lv : Nat} (c_reaches_of : Cal P w K mg base lv "reaches_of" ["program"] (spReaches D)) : Cal P w K mg base (lv + 1) "reach" ["program"] (spTopReach D) := by
  refine cal_of T scReach (fun vs H Q E h => ?_) (fun f cdv A outer s H vs Q E hr h => ?_)
  · obtain ⟨p, ws, ps, rfl, _⟩ := h
    rfl
  · obtain ⟨p, ws, ps, rfl, hp, pr, po, hn, hl, q⟩ := h
    refine ⟨_, (pss_one (ps_ret (pe_dget (hu_of hr) (pe_own c_reaches_of hr (Nat.le_refl _) (by rfl) (pa_cons (pv 0) pa_nil)) (pe_ix ix_tup (pe_ix ix_list (pv 0) pe_int (fun _ _ => rfl)) pe_int (fun _ _ => rfl)) (fun _ _ => rfl)))), ?_⟩
    obtain ⟨v0, ws, rfl⟩ : ∃ v0 vs, ws = v0 :: vs := by
      cases ws with
      | nil => exact (hn (List.length_eq_zero_iff.mp pr.len.symm)).elim
      | cons v vs => exact ⟨v, vs, rfl⟩
    obtain ⟨q0, a, u, eq, rfl, pa, tu⟩ := pr.get (i := 0) rfl
    obtain ⟨n0, t0⟩ := q0
    cases ps with
    | nil => exact (hn rfl).elim
    | cons q1 r =>
    have e0 : q1 = (n0, t0) := by simpa using eq
    subst e0
    refine ⟨_, rfl, p, _, _, rfl, hp, pr, po, hl, fun e H1 s1 ne he => ?_⟩
    refine ⟨_, rfl, _, _, _, _, rfl, rfl, SqL.of (s1 _ _ hp), atI_nat (j := 0) rfl, _, _, _, _, rfl, rfl, (pa.same s1).sq, atI_nat (j := 0) rfl, ?_⟩
    refine ⟨e, .int (topReach D ((n0, t0) :: r)), rfl, ?_, q H1 s1⟩
    have z := DGet.k (k := Sum.inr n0) he
    have z2 : valV (rk D ((n0, t0) :: r)) (Sum.inr n0) = some (.int (topReach D ((n0, t0) :: r))) := by
      show valV (putK (rk D r) (Sum.inr n0) _) (Sum.inr n0) = _
      rw [valV_put, if_pos rfl]
      rfl
    rw [z2] at z
    exact z
end
end Su
namespace Su
open PySem PySem.Spec PyProof.Rows L2
def Few (S : List Int) (r : List Int) : Prop := r.length ≤ 3 ∧ ∀ k ∈ r, k ∈ S
theorem flat_len (f : Tm → List Int) (n : Nat) : ∀ (ts : List Tm), (∀ t ∈ ts, (f t).length ≤ n) → ((ts.map f).flatten).length ≤ ts.length * n
  | [], _ => Nat.zero_le _
  | t :: ts, h => by
    have h1 := h t (List.mem_cons_self ..)
    have h2 := flat_len f n ts fun x hx => h x (List.mem_cons_of_mem _ hx)
    rw [List.map_cons, List.flatten_cons, List.length_append, List.length_cons, Nat.succ_mul]
    omega
theorem rooms_few {C : Str → Prop} {S : List Int} : ∀ (d : Nat) (t : Tm), Lv C (Few S) d t → (roomsF d t).length ≤ 3 ^ d ∧ ∀ k ∈ roomsF d t, k ∈ S
  | 0, _, h => h.elim
  | d + 1, .ask rs, h => by
    have h1 : 3 ^ 1 ≤ 3 ^ (d + 1) := Nat.pow_le_pow_right (by decide) (by omega)
    exact ⟨Nat.le_trans h.1 h1, h.2⟩
  | d + 1, .rest, _ => ⟨Nat.zero_le _, fun _ hx => (List.not_mem_nil hx).elim⟩
  | d + 1, .call _, _ => ⟨Nat.zero_le _, fun _ hx => (List.not_mem_nil hx).elim⟩
  | d + 1, .thn ts, h => by
    have z := flat_len (roomsF d) (3 ^ d) ts fun t ht => (rooms_few d t (h.2 t ht)).1
    have z2 : ts.length * 3 ^ d ≤ 3 * 3 ^ d := Nat.mul_le_mul_right _ h.1
    refine ⟨?_, fun k hk => ?_⟩
    · rw [Nat.pow_succ, Nat.mul_comm]
      exact Nat.le_trans z z2
    · obtain ⟨l, hl, hk⟩ := List.mem_flatten.mp hk
      obtain ⟨t, ht, rfl⟩ := List.mem_map.mp hl
      exact (rooms_few d t (h.2 t ht)).2 k hk
  | d + 1, .frk ts, h => by
    have z := flat_len (roomsF d) (3 ^ d) ts fun t ht => (rooms_few d t (h.2 t ht)).1
    have z2 : ts.length * 3 ^ d ≤ 3 * 3 ^ d := Nat.mul_le_mul_right _ h.1
    refine ⟨?_, fun k hk => ?_⟩
    · rw [Nat.pow_succ, Nat.mul_comm]
      exact Nat.le_trans z z2
    · obtain ⟨l, hl, hk⟩ := List.mem_flatten.mp hk
      obtain ⟨t, ht, rfl⟩ := List.mem_map.mp hl
      exact (rooms_few d t (h.2 t ht)).2 k hk
  | d + 1, .rnd _ _ t, h => by
    have z := rooms_few d t h.2
    refine ⟨?_, z.2⟩
    have h1 : 3 ^ d ≤ 3 ^ (d + 1) := Nat.pow_le_pow_right (by decide) (by omega)
    exact Nat.le_trans z.1 h1
def spRooms (d : Nat) : Sp := fun vs H Q _ => ∃ (v : V) (t : Tm) (S : List Int), vs = [v] ∧ TmAt H v t ∧ Lv (fun _ => True) (Few S) d t ∧ ∀ (u : Addr) (H' : Hp), Same H H' → H u = none → H' u = some (.lst ((roomsF d t).map V.int)) → Q (.ref u) H'
theorem rooms_subs {d : Nat} {t : Tm} (h : ∀ rs, t ≠ .ask rs) : roomsF (d + 1) t = ((subs t).map (roomsF d)).flatten := by
  cases t with
  | ask rs => exact (h rs rfl).elim
  | rnd l m t =>
    show roomsF d t = roomsF d t ++ []
    rw [List.append_nil]
  | _ => rfl
theorem TmAt.head {H : Hp} {v : V} {t : Tm} (h : TmAt H v t) : ∃ (a : Addr), v = .ref a ∧ ((∃ (b : Addr) (rs : List Int), t = .ask rs ∧ PTup H a [.str "ask", .ref b] ∧ PTup H b (rs.map V.int)) ∨ ∃ (s : Str) (r : List V), s ≠ "ask" ∧ (∀ rs, t ≠ .ask rs) ∧ PTup H a (.str s :: r)) := by
  cases h with
  | ask e r => exact ⟨_, rfl, .inl ⟨_, _, rfl, e, r⟩⟩
  | rest e => exact ⟨_, rfl, .inr ⟨_, _, by decide +kernel, fun _ z => (nomatch z), e⟩⟩
  | call e => exact ⟨_, rfl, .inr ⟨_, _, by decide +kernel, fun _ z => (nomatch z), e⟩⟩
  | thn e r t => exact ⟨_, rfl, .inr ⟨_, _, by decide +kernel, fun _ z => (nomatch z), e⟩⟩
  | frk e r t => exact ⟨_, rfl, .inr ⟨_, _, by decide +kernel, fun _ z => (nomatch z), e⟩⟩
  | rnd e r => exact ⟨_, rfl, .inr ⟨_, _, by decide +kernel, fun _ z => (nomatch z), e⟩⟩
theorem KT.upd {H : Hp} {L : Addr} {xs ys : List V} (e : H L = some (.lst xs)) : KT H (upd H L (.lst ys)) := by
  rintro a vs ⟨o, h, hd⟩
  refine ⟨o, ?_, hd⟩
  rw [upd_ne]
  · exact h
  · rintro rfl
    rw [e] at h
    cases h
theorem scAskedRooms : FnScope ["term", "rooms", "one"] ["term"] (defScope sAskedRooms) := ⟨rfl, rfl, rfl, by decide +kernel, rfl, by decide +kernel, by decide +kernel⟩
theorem scRoomsOf : FnScope ["program", "rooms", "name", "term"] ["program"] (defScope sRoomsOf) := ⟨rfl, rfl, rfl, by decide +kernel, rfl, by decide +kernel, by decide +kernel⟩
section
variable {P : Program} {w : World} {K : PySem.W.Frag} {mg : Str → Option Value} {base : Heap}
theorem ok_asked_rooms (T : At K mg "asked_rooms" sAskedRooms ["term"]) (B : Bt mg) (c_terms_within : Cal P w K mg base 1 "terms_within" ["term"] spWithin) : ∀ d : Nat, d ≤ 8 → Cal P w K mg base (d + 2) "asked_rooms" ["term"] (spRooms d)
  | 0, _ => by
    refine cal_of T scAskedRooms (fun vs H Q E h => ?_) (fun f cdv A outer s H vs Q E hr h => ?_)
    · obtain ⟨v, t, S, rfl, _⟩ := h
      rfl
    · obtain ⟨v, t, S, rfl, hv, hl, q⟩ := h
      exact hl.elim
  | d + 1, hd8 => by
    have c_asked_rooms := ok_asked_rooms T B c_terms_within d (by omega)
    refine cal_of T scAskedRooms (fun vs H Q E h => ?_) (fun f cdv A outer s H vs Q E hr h => ?_)
    · obtain ⟨v, t, S, rfl, _⟩ := h
      rfl
    · obtain ⟨v, t, S, rfl, hv, hl, q⟩ := h
      refine ⟨_, (pss_cons (ps_if (pt_cmpR op_eq (pe_ix ix_tup (pv 0) pe_int (fun _ _ => rfl)) pe_str (nomark _)) (pss_one (ps_ret (pe_callTy call_list_of (by rfl) B.list (by decide +kernel) (pa_cons (pe_ix ix_tup (pv 0) pe_int (fun _ _ => rfl)) pa_nil)))) pss_nil)
      (pss_cons (ps_set (i := 1) scAskedRooms.nd rfl (Or.inl rfl) (pe_lst pa_nil))
      (pss_cons (ps_for PassesOwn.never rfl (pi_tup (pe_own c_terms_within hr (by omega) (by rfl) (pa_cons (pv 0) pa_nil))) (pg_name (i := 2) scAskedRooms.nd rfl (Or.inl rfl)) (pss_one (ps_expr (pe_bm PySem.F.plainAttrs_list PySem.F.slot_list_extend PySem.F.type_list_extend mt_extend (pv 1) (pa_cons (pe_own c_asked_rooms hr (by omega) (by rfl) (pa_cons (pv 2) pa_nil)) pa_nil)))))
      (pss_one (ps_ret (pv 1)))))), ?_⟩
      obtain ⟨a, rfl, hd⟩ := hv.head
      rcases hd with ⟨b, rs, rfl, e1, e2⟩ | ⟨w0, r0, hw, hna, e1⟩
      · refine ⟨_, rfl, _, _, _, _, rfl, rfl, e1.sq, atI_nat (j := 0) rfl, rfl, _, rfl, iteB (fun _ => ?_) (fun z => absurd z (by decide +kernel))⟩
        refine ⟨_, rfl, _, _, _, _, rfl, rfl, e1.sq, atI_nat (j := 1) rfl, b, _, rfl, .inr e2.sq, fun u nu => ?_⟩
        exact q u _ (same_upd nu) nu upd_same
      · refine ⟨_, rfl, _, _, _, _, rfl, rfl, e1.sq, atI_nat (j := 0) rfl, rfl, _, rfl, iteB (fun z => ?_) (fun _ => ?_)⟩
        · have z2 := of_decide_eq_true z
          injection z2 with z2
          exact (hw z2).elim
        · obtain ⟨hsl, hsv⟩ := subs_lv hl
          refine ⟨Nat.zero_le _, fun L nL => ?_⟩
          have s0 : Same H (upd H L (.lst [])) := same_upd nL
          have nLa : ∀ {c : Addr} {o : HO}, H c = some o → c ≠ L := fun ec => ne_of_none ec nL
          refine ⟨_, rfl, _, t, rfl, hv.keep (KT.same s0), fun u ws H1 s1 pu tl => ?_⟩
          have hwl : ws.length = (subs t).length := tl.len
          have s01 : Same H H1 := s0.trans s1
          refine ⟨u, rfl, ⟨_, pu.sq⟩, ?_⟩
          refine for_tup (K := K) (a := u) (xs := ws) (fun i σ H2 => ∃ y2 : Option V, σ = [some (.ref a), some (.ref L), y2] ∧ Same H H2 ∧ PTup H2 u ws ∧ TmL H2 ws (subs t) ∧ H2 L = some (.lst ((((subs t).take i).map (roomsF d)).flatten.map V.int))) ?_ ?_ ?_ ?_
          · exact ⟨none, rfl, s01, pu, tl, s1 _ _ upd_same⟩
          · rintro i σ H2 _ ⟨_, _, _, pu2, _⟩
            exact pu2.sq
          · rintro i x σ H2 hx ⟨y2, rfl, s2, pu2, tl2, hL⟩
            obtain ⟨t0, et, ht0⟩ := tl2.get hx
            have hm0 := List.mem_of_getElem? et
            have hfl := flat_len (roomsF d) (3 ^ d) ((subs t).take i) fun y hy => (rooms_few d y (hsv y (List.mem_of_mem_take hy))).1
            have hpw : 3 ^ d ≤ 3 ^ 7 := Nat.pow_le_pow_right (by decide) (by omega)
            have hp2 : 3 ^ 7 = 2187 := rfl
            have h3 : ((subs t).take i).length * 3 ^ d ≤ 3 * 3 ^ d := Nat.mul_le_mul_right _ (by rw [List.length_take]; omega)
            refine ⟨_, rfl, .inl ⟨rfl, _, SqL.of hL⟩, _, rfl, x, t0, S, rfl, ht0, hsv t0 hm0, fun u2 H3 s3 n2 e3 => ?_⟩
            have e4 := (rooms_few d t0 (hsv t0 hm0)).1
            refine ⟨L, u2, _, _, rfl, rfl, s3 _ _ hL, e3, ?_, ?_⟩
            · rw [List.length_map, List.length_map]
              have hb : sizeLine = 16777216 := rfl
              omega
            · refine ⟨_, rfl, ?_, ?_, ?_, ?_⟩
              · intro c o ec
                rw [upd_ne (nLa ec)]
                exact s3 _ _ (s2 _ _ ec)
              · exact KT.upd (s3 _ _ hL) _ _ (pu2.same s3)
              · exact tl2.keep ((KT.same s3).trans (KT.upd (s3 _ _ hL)))
              · rw [upd_same, List.take_add_one, et, List.map_append, List.flatten_append, List.map_append]
                show some (HO.lst (_ ++ _)) = some (HO.lst (_ ++ (roomsF d t0 ++ []).map V.int))
                rw [List.append_nil]
          · rintro σ H2 ⟨y2, rfl, s2, pu2, tl2, hL⟩
            rw [hwl, List.take_length, ← rooms_subs hna] at hL
            exact ⟨_, rfl, q L H2 s2 nL hL⟩
def roomsL (D : Nat) (ps : List (Str × Tm)) : List Int := (ps.map fun q => roomsF D q.2).flatten
theorem roomsL_few {D : Nat} {S : List Int} : ∀ {ps : List (Str × Tm)}, (∀ q ∈ ps, Lv (fun _ => True) (Few S) D q.2) → (roomsL D ps).length ≤ ps.length * 3 ^ D ∧ ∀ k ∈ roomsL D ps, k ∈ S
  | [], _ => ⟨Nat.zero_le _, fun _ hx => (List.not_mem_nil hx).elim⟩
  | q :: ps, h => by
    have h1 := rooms_few D q.2 (h q (List.mem_cons_self ..))
    have h2 := roomsL_few fun x hx => h x (List.mem_cons_of_mem _ hx)
    have e : roomsL D (q :: ps) = roomsF D q.2 ++ roomsL D ps := rfl
    rw [e, List.length_append, List.length_cons, Nat.succ_mul]
    refine ⟨by omega, fun k hk => ?_⟩
    rcases List.mem_append.mp hk with z | z
    · exact h1.2 k z
    · exact h2.2 k z
def spRoomsOf (D : Nat) : Sp := fun vs H Q _ => ∃ (p : Addr) (ws : List V) (ps : List (Str × Tm)) (S : List Int), vs = [.ref p] ∧ H p = some (.lst ws) ∧ PrL H ws ps ∧ (∀ q ∈ ps, Lv (fun _ => True) (Few S) D q.2) ∧ ps.length * 3 ^ D ≤ 4000 ∧ S.length < 64 ∧
  ∀ (ms : List Int) (u : Addr) (H' : Hp), ms.Pairwise (· < ·) → (∀ k : Int, k ∈ ms ↔ k ∈ roomsL D ps) → Same H H' → H u = none → H' u = some (.lst (ms.map V.int)) → Q (.ref u) H'
theorem ok_rooms_of (T : At K mg "rooms_of" sRoomsOf ["program"]) (B : Bt mg) {D : Nat} {lv : Nat} (c_asked_rooms : Cal P w K mg base lv "asked_rooms" ["term"] (spRooms D)) : Cal P w K mg base (lv + 1) "rooms_of" ["program"] (spRoomsOf D) := by
  refine cal_of T scRoomsOf (fun vs H Q E h => ?_) (fun f cdv A outer s H vs Q E hr h => ?_)
  · obtain ⟨p, ws, ps, S, rfl, _⟩ := h
    rfl
  · obtain ⟨p, ws, ps, S, rfl, hp, pr, po, hl, hS, q⟩ := h
    refine ⟨_, (pss_cons (ps_set (i := 1) scRoomsOf.nd rfl (Or.inl rfl) (pe_lst pa_nil))
      (pss_cons (ps_for PassesOwn.never rfl (pi_list (pv 0)) (pg_tup (by rfl) (pgs_cons (pg_name (i := 2) scRoomsOf.nd rfl (Or.inl rfl)) (pgs_cons (pg_name (i := 3) scRoomsOf.nd rfl (Or.inl rfl)) pgs_nil))) (pss_one (ps_expr (pe_bm PySem.F.plainAttrs_list PySem.F.slot_list_extend PySem.F.type_list_extend mt_extend (pv 1) (pa_cons (pe_own c_asked_rooms hr (Nat.le_refl _) (by rfl) (pa_cons (pv 3) pa_nil)) pa_nil)))))
      (pss_one (ps_ret (pe_sortSet (by rfl) B.sorted (by rfl) B.set (pv 1)))))), ?_⟩
    refine ⟨Nat.zero_le _, fun L nL => ?_⟩
    have hwl : ws.length = ps.length := pr.len
    have s0 : Same H (upd H L (.lst [])) := same_upd nL
    have nLa : ∀ {c : Addr} {o : HO}, H c = some o → c ≠ L := fun ec => ne_of_none ec nL
    refine ⟨_, rfl, p, rfl, ⟨_, SqL.of (s0 _ _ hp)⟩, ?_⟩
    refine for_list (K := K) (a := p) (xs := ws) (fun i σ H2 => ∃ y2 y3 : Option V, σ = [some (.ref p), some (.ref L), y2, y3] ∧ Same H H2 ∧ H2 L = some (.lst ((roomsL D (ps.take i)).map V.int))) ?_ ?_ ?_ ?_
    · exact ⟨none, none, rfl, s0, upd_same⟩
    · rintro i σ H2 _ ⟨_, _, _, s2, _⟩
      exact SqL.of (s2 _ _ hp)
    · rintro i x σ H2 hx ⟨y2, y3, rfl, s2, hL⟩
      obtain ⟨q0, a, u, eq, rfl, pa, tu⟩ := pr.get hx
      have hm0 := List.mem_of_getElem? eq
      have hfl := (roomsL_few (D := D) (S := S) (ps := ps.take i) fun y hy => po y (List.mem_of_mem_take hy)).1
      have h3 : (ps.take i).length * 3 ^ D ≤ ps.length * 3 ^ D := Nat.mul_le_mul_right _ (by rw [List.length_take]; omega)
      refine ⟨a, _, rfl, (pa.same s2).sq, rfl, _, _, rfl, _, _, rfl, rfl, ?_⟩
      refine ⟨_, rfl, .inl ⟨rfl, _, SqL.of hL⟩, _, rfl, u, q0.2, S, rfl, tu.keep (KT.same s2), po q0 hm0, fun u2 H3 s3 n2 e3 => ?_⟩
      have e4 := (rooms_few D q0.2 (po q0 hm0)).1
      have h5 : 1 * 3 ^ D ≤ ps.length * 3 ^ D := Nat.mul_le_mul_right _ (List.length_pos_of_mem hm0)
      refine ⟨L, u2, _, _, rfl, rfl, s3 _ _ hL, e3, ?_, ?_⟩
      · rw [List.length_map, List.length_map]
        have hb : sizeLine = 16777216 := rfl
        omega
      · refine ⟨_, _, rfl, ?_, ?_⟩
        · intro c o ec
          rw [upd_ne (nLa ec)]
          exact s3 _ _ (s2 _ _ ec)
        · rw [upd_same, List.take_add_one, eq]
          unfold roomsL
          rw [List.map_append, List.flatten_append, List.map_append]
          show some (HO.lst (_ ++ _)) = some (HO.lst (_ ++ (roomsF D q0.2 ++ []).map V.int))
          rw [List.append_nil]
    · rintro σ H2 ⟨y2, y3, rfl, s2, hL⟩
      rw [hwl, List.take_length] at hL
      have hf := roomsL_few po
      refine ⟨_, rfl, L, roomsL D ps, S, rfl, SqL.of hL, by omega, hf.2, hS, fun ms u H3 pw mem s3 n3 e3 => ?_⟩
      refine q ms u H3 pw mem (s2.trans s3) ?_ e3
      cases hu : H u with
      | none => rfl
      | some o =>
        rw [s2 _ _ hu] at n3
        cases n3
end
end Su
namespace Su
open PySem PySem.Spec PyProof.Rows L2
theorem scLReach : FnScope ["_law_term_here", "_law_reaches_here", "_law_inner", "_law_part"] ["_law_term_here", "_law_reaches_here"] (defScope sLReach) := ⟨rfl, rfl, rfl, by decide +kernel, rfl, by decide +kernel, by decide +kernel⟩
section
variable {P : Program} {w : World} {K : PySem.W.Frag} {mg : Str → Option Value} {base : Heap}
theorem ok_lreach (T : At K mg "_law_reach" sLReach ["_law_term_here", "_law_reaches_here"]) (B : Bt mg) : ∀ d : Nat, Cal P w K mg base (d + 1) "_law_reach" ["_law_term_here", "_law_reaches_here"] (spReach d)
  | 0 => by
    refine cal_of T scLReach (fun vs H Q E h => ?_) (fun f cdv A outer s H vs Q E hr h => ?_)
    · obtain ⟨v, t, e, kvs, rfl, _⟩ := h
      rfl
    · obtain ⟨v, t, e, kvs, rfl, hv, he, hl, q⟩ := h
      exact hl.elim
  | d + 1 => by
    have c_reach := ok_lreach T B d
    refine cal_of T scLReach (fun vs H Q E h => ?_) (fun f cdv A outer s H vs Q E hr h => ?_)
    · obtain ⟨v, t, e, kvs, rfl, _⟩ := h
      rfl
    · obtain ⟨v, t, e, kvs, rfl, hv, he, hl, q⟩ := h
      refine ⟨_, (pss_cons (ps_if (pt_cmpR op_eq (pe_ix ix_tup (pv 0) pe_int (fun _ _ => rfl)) pe_str (nomark _)) (pss_one (ps_ret (pe_dget (hu_of hr) (pv 1) (pe_ix ix_tup (pv 0) pe_int (fun _ _ => rfl)) (fun _ _ => rfl)))) pss_nil)
      (pss_cons (ps_if (pt_cmpR op_in_seq (pe_ix ix_tup (pv 0) pe_int (fun _ _ => rfl)) (pe_tupF (pa_cons pe_str (pa_cons pe_str pa_nil))) (by rfl)) (pss_one (ps_ret pe_int)) pss_nil)
      (pss_cons (ps_if (pt_cmpR op_eq (pe_ix ix_tup (pv 0) pe_int (fun _ _ => rfl)) pe_str (nomark _)) (pss_cons (ps_set (i := 2) scLReach.nd rfl (Or.inl rfl) (pe_own c_reach hr (Nat.le_refl _) (by rfl) (pa_cons (pe_ix ix_tup (pv 0) pe_int (fun _ _ => rfl)) (pa_cons (pv 1) pa_nil))))
      (pss_cons (ps_if (pt_cmpR op_isN (pe_ix ix_tup (pv 0) pe_int (fun _ _ => rfl)) pe_non (nomark _)) (pss_one (ps_ret (pe_op op_add (pe_op op_add (pe_op op_mul (pe_ix ix_tup (pv 0) pe_int (fun _ _ => rfl)) (pv 2)) (pv 2)) pe_int))) pss_nil)
      (pss_one (ps_ret (pe_op op_add (pe_op op_mul (pe_ix ix_tup (pv 0) pe_int (fun _ _ => rfl)) (pv 2)) (pe_op op_sub (pe_ix ix_tup (pv 0) pe_int (fun _ _ => rfl)) (pe_ix ix_tup (pv 0) pe_int (fun _ _ => rfl)))))))) pss_nil)
      (pss_one (ps_ret (pe_op op_add (pe_callTy call_int1 (by rfl) B.int (by decide +kernel) (pa_cons (pe_cmpR op_eq (pe_ix ix_tup (pv 0) pe_int (fun _ _ => rfl)) pe_str (nomark _)) pa_nil)) (pe_callB (cr_sum rfl) (by rfl) B.sum (by decide +kernel) (pa_cons (pe_lc (own := [("_law_part", 3)]) (g := gName 3) (tt := tYes) (te := (tCall (spReach d) [] E0 (tCons (tVar 3) (tCons (tVar 1) tNil)))) (by rfl) scLReach.nd (pi_tup (pe_ix ix_tup (pv 0) pe_int (fun _ _ => rfl))) (blkOk_by (own := [("_law_part", 3)]) (N := ["_law_term_here", "_law_reaches_here", "_law_inner", "_law_part"]) (sc := defScope sLReach) (by decide +kernel)) (fun _ _ _ _ _ => (pg_name (i := 3) scLReach.nd rfl (Or.inl rfl))) (fun _ _ _ _ _ => pts_nil) (fun _ _ _ _ _ => (pe_own c_reach hr (Nat.le_refl _) (by rfl) (pa_cons (pv 3) (pa_cons (pv 1) pa_nil))))) pa_nil)))))))), ?_⟩
      cases hv with
      | ask e1 r =>
        refine ⟨_, rfl, _, _, _, _, rfl, rfl, e1.sq, atI_nat (j := 0) rfl, rfl, _, rfl, iteB (fun z => absurd z (by decide +kernel)) (fun _ => ?_)⟩
        refine ⟨_, rfl, _, _, _, _, rfl, rfl, e1.sq, atI_nat (j := 0) rfl, (by show 2 ≤ sizeLine; decide), fun b1 H1 s1 n1 p1 => ⟨b1, _, rfl, .inr p1.sq, rfl, rfl, _, rfl, iteB (fun _ => ?_) (fun z => absurd z (by decide +kernel))⟩⟩
        exact q H1 s1
      | rest e1 =>
        refine ⟨_, rfl, _, _, _, _, rfl, rfl, e1.sq, atI_nat (j := 0) rfl, rfl, _, rfl, iteB (fun z => absurd z (by decide +kernel)) (fun _ => ?_)⟩
        refine ⟨_, rfl, _, _, _, _, rfl, rfl, e1.sq, atI_nat (j := 0) rfl, (by show 2 ≤ sizeLine; decide), fun b1 H1 s1 n1 p1 => ⟨b1, _, rfl, .inr p1.sq, rfl, rfl, _, rfl, iteB (fun _ => ?_) (fun z => absurd z (by decide +kernel))⟩⟩
        exact q H1 s1
      | @call a1 nm e1 =>
        refine ⟨_, rfl, _, _, _, _, rfl, rfl, e1.sq, atI_nat (j := 0) rfl, rfl, _, rfl, iteB (fun _ => ?_) (fun z => absurd z (by decide +kernel))⟩
        obtain ⟨i, hi⟩ : HasC kvs nm := hl
        refine ⟨_, rfl, _, rfl, _, _, _, _, rfl, rfl, e1.sq, atI_nat (j := 1) rfl, e, .int i, rfl, (by rw [← hi]; exact DGet.k (k := Sum.inr nm) he), ?_⟩
        have z := q H (Same.refl H)
        have e2 : reachF (envOf kvs) (d + 1) (.call nm) = i := by
          show envOf kvs nm = i
          unfold envOf
          rw [hi]
        rw [e2] at z
        exact z
      | @thn a1 b0 vs1 ts e1 r1 t1 =>
        refine ⟨_, rfl, _, _, _, _, rfl, rfl, e1.sq, atI_nat (j := 0) rfl, rfl, _, rfl, iteB (fun z => absurd z (by decide +kernel)) (fun _ => ?_)⟩
        refine ⟨_, rfl, _, _, _, _, rfl, rfl, e1.sq, atI_nat (j := 0) rfl, (by show 2 ≤ sizeLine; decide), fun b1 H1 s1 n1 p1 => ⟨b1, _, rfl, .inr p1.sq, rfl, rfl, _, rfl, iteB (fun z => absurd z (by decide +kernel)) (fun _ => ?_)⟩⟩
        have e2 := e1.same s1
        refine ⟨_, rfl, _, _, _, _, rfl, rfl, e2.sq, atI_nat (j := 0) rfl, rfl, _, rfl, iteB (fun z => absurd z (by decide +kernel)) (fun _ => ?_)⟩
        obtain ⟨hsl, hsv⟩ : ts.length ≤ 3 ∧ ∀ x ∈ ts, Lv (HasC kvs) (fun _ => True) d x := hl
        have hwl : vs1.length = ts.length := t1.len
        refine ⟨_, rfl, _, _, _, _, rfl, rfl, e2.sq, atI_nat (j := 0) rfl, rfl, ?_⟩
        refine .inr ⟨_, rfl, ?_⟩
        refine ⟨_, rfl, _, _, _, _, rfl, rfl, e2.sq, atI_nat (j := 1) rfl, b0, rfl, ⟨_, (r1.same s1).sq⟩, fun D nD => ?_⟩
        have pu := r1.same s1
        have tl := t1.keep (KT.same s1)
        refine lc_tup (K := K) (a := b0) (xs := vs1) (fun i H2 => Same H1 H2 ∧ H2 D = some (.lst (((ts.take i).map (reachF (envOf kvs) d)).map V.int))) ?_ ?_ ?_ ?_
        · exact ⟨same_upd nD, upd_same⟩
        · rintro i H2 _ ⟨s2, _⟩
          exact (pu.same s2).sq
        · rintro i x H2 hx ⟨s2, hD⟩
          obtain ⟨t0, et, ht0⟩ := tl.get hx
          refine ⟨rfl, tyes ?_⟩
          refine ⟨_, rfl, _, rfl, x, t0, e, kvs, rfl, ht0.keep (KT.same s2), s2 _ _ (s1 _ _ he), hsv t0 (List.mem_of_getElem? et), fun H3 s3 => ?_⟩
          refine ⟨_, s3 _ _ hD, ?_, ?_, ?_⟩
          · rw [List.length_map, List.length_map, List.length_take]
            exact small1000 (by omega)
          · intro c o ec
            rw [upd_ne (ne_of_none ec nD)]
            exact s3 _ _ (s2 _ _ ec)
          · rw [upd_same, List.take_add_one, et, List.map_append, List.map_append]
            rfl
        · rintro H2 ⟨s2, hD⟩
          rw [hwl, List.take_length] at hD
          have s12 : Same H H2 := s1.trans s2
          refine ⟨D, _, rfl, SqL.of hD, _, _, rfl, rfl, ?_⟩
          have z := q H2 s12
          have ez : reachF (envOf kvs) (d + 1) (.thn ts) = (if decide (V.str "then" = V.str "fork") = true then 1 else 0) + (ts.map (reachF (envOf kvs) d)).sum := by
            rw [if_neg (by decide +kernel)]
            show (ts.map (reachF (envOf kvs) d)).sum = _
            omega
          rw [ez] at z
          exact z
      | @frk a1 b0 vs1 ts e1 r1 t1 =>
        refine ⟨_, rfl, _, _, _, _, rfl, rfl, e1.sq, atI_nat (j := 0) rfl, rfl, _, rfl, iteB (fun z => absurd z (by decide +kernel)) (fun _ => ?_)⟩
        refine ⟨_, rfl, _, _, _, _, rfl, rfl, e1.sq, atI_nat (j := 0) rfl, (by show 2 ≤ sizeLine; decide), fun b1 H1 s1 n1 p1 => ⟨b1, _, rfl, .inr p1.sq, rfl, rfl, _, rfl, iteB (fun z => absurd z (by decide +kernel)) (fun _ => ?_)⟩⟩
        have e2 := e1.same s1
        refine ⟨_, rfl, _, _, _, _, rfl, rfl, e2.sq, atI_nat (j := 0) rfl, rfl, _, rfl, iteB (fun z => absurd z (by decide +kernel)) (fun _ => ?_)⟩
        obtain ⟨hsl, hsv⟩ : ts.length ≤ 3 ∧ ∀ x ∈ ts, Lv (HasC kvs) (fun _ => True) d x := hl
        have hwl : vs1.length = ts.length := t1.len
        refine ⟨_, rfl, _, _, _, _, rfl, rfl, e2.sq, atI_nat (j := 0) rfl, rfl, ?_⟩
        refine .inr ⟨_, rfl, ?_⟩
        refine ⟨_, rfl, _, _, _, _, rfl, rfl, e2.sq, atI_nat (j := 1) rfl, b0, rfl, ⟨_, (r1.same s1).sq⟩, fun D nD => ?_⟩
        have pu := r1.same s1
        have tl := t1.keep (KT.same s1)
        refine lc_tup (K := K) (a := b0) (xs := vs1) (fun i H2 => Same H1 H2 ∧ H2 D = some (.lst (((ts.take i).map (reachF (envOf kvs) d)).map V.int))) ?_ ?_ ?_ ?_
        · exact ⟨same_upd nD, upd_same⟩
        · rintro i H2 _ ⟨s2, _⟩
          exact (pu.same s2).sq
        · rintro i x H2 hx ⟨s2, hD⟩
          obtain ⟨t0, et, ht0⟩ := tl.get hx
          refine ⟨rfl, tyes ?_⟩
          refine ⟨_, rfl, _, rfl, x, t0, e, kvs, rfl, ht0.keep (KT.same s2), s2 _ _ (s1 _ _ he), hsv t0 (List.mem_of_getElem? et), fun H3 s3 => ?_⟩
          refine ⟨_, s3 _ _ hD, ?_, ?_, ?_⟩
          · rw [List.length_map, List.length_map, List.length_take]
            exact small1000 (by omega)
          · intro c o ec
            rw [upd_ne (ne_of_none ec nD)]
            exact s3 _ _ (s2 _ _ ec)
          · rw [upd_same, List.take_add_one, et, List.map_append, List.map_append]
            rfl
        · rintro H2 ⟨s2, hD⟩
          rw [hwl, List.take_length] at hD
          have s12 : Same H H2 := s1.trans s2
          refine ⟨D, _, rfl, SqL.of hD, _, _, rfl, rfl, ?_⟩
          have z := q H2 s12
          have ez : reachF (envOf kvs) (d + 1) (.frk ts) = (if decide (V.str "fork" = V.str "fork") = true then 1 else 0) + (ts.map (reachF (envOf kvs) d)).sum := by
            rw [if_pos (by decide +kernel)]
            show (ts.map (reachF (envOf kvs) d)).sum + 1 = _
            omega
          rw [ez] at z
          exact z
      | @rnd a1 v1 l m t0 e1 r1 =>
        have hlm := hl.1
        refine ⟨_, rfl, _, _, _, _, rfl, rfl, e1.sq, atI_nat (j := 0) rfl, rfl, _, rfl, iteB (fun z => absurd z (by decide +kernel)) (fun _ => ?_)⟩
        refine ⟨_, rfl, _, _, _, _, rfl, rfl, e1.sq, atI_nat (j := 0) rfl, (by show 2 ≤ sizeLine; decide), fun b1 H1 s1 n1 p1 => ⟨b1, _, rfl, .inr p1.sq, rfl, rfl, _, rfl, iteB (fun z => absurd z (by decide +kernel)) (fun _ => ?_)⟩⟩
        have e2 := e1.same s1
        refine ⟨_, rfl, _, _, _, _, rfl, rfl, e2.sq, atI_nat (j := 0) rfl, rfl, _, rfl, iteB (fun _ => ?_) (fun z => absurd z (by decide +kernel))⟩
        refine ⟨_, rfl, _, _, _, _, rfl, rfl, e2.sq, atI_nat (j := 3) rfl, _, rfl, _, t0, e, kvs, rfl, r1.keep (KT.same s1), s1 _ _ he, hl.2, fun H2 s2 => ?_⟩
        have s12 := s1.trans s2
        have e3 := e1.same s12
        refine ⟨_, rfl, _, _, _, _, rfl, rfl, e3.sq, atI_nat (j := 2) rfl, rfl, _, rfl, ?_⟩
        have z := q H2 s12
        cases m with
        | none =>
          refine iteB (fun _ => ?_) (fun z => absurd z (by decide +kernel))
          have ez : reachF (envOf kvs) (d + 1) (.rnd l none t0) = l * reachF (envOf kvs) d t0 + reachF (envOf kvs) d t0 + 1 := by
            show reachF (envOf kvs) d t0 * (l + 1) + 1 = _
            rw [Int.mul_add, Int.mul_one, Int.mul_comm]
          rw [ez] at z
          exact ⟨_, rfl, _, _, _, _, rfl, rfl, e3.sq, atI_nat (j := 1) rfl, _, rfl, _, _, rfl, rfl, .inl ⟨by omega, by omega⟩, _, rfl, _, _, rfl, rfl, _, _, rfl, rfl, z⟩
        | some k =>
          have hk := hlm.2.2 k rfl
          refine iteB (fun z => absurd (of_decide_eq_true z) (by intro y; cases y)) (fun _ => ?_)
          have ez : reachF (envOf kvs) (d + 1) (.rnd l (some k) t0) = k * reachF (envOf kvs) d t0 + (k - l) := by
            show reachF (envOf kvs) d t0 * k + k - l = _
            rw [Int.mul_comm]
            omega
          rw [ez] at z
          exact ⟨_, rfl, _, _, _, _, rfl, rfl, e3.sq, atI_nat (j := 2) rfl, _, rfl, _, _, rfl, rfl, .inl ⟨by omega, by omega⟩, _, rfl, _, _, _, _, rfl, rfl, e3.sq, atI_nat (j := 2) rfl, _, rfl, _, _, _, _, rfl, rfl, e3.sq, atI_nat (j := 1) rfl, _, _, rfl, rfl, _, _, rfl, rfl, z⟩
end
end Su
namespace Su
open PySem PySem.Spec PyProof.Rows L2
theorem scLReaches : FnScope ["_law_program_here", "_law_found", "_law_name", "_law_term_here"] ["_law_program_here"] (defScope sLReaches) := ⟨rfl, rfl, rfl, by decide +kernel, rfl, by decide +kernel, by decide +kernel⟩
theorem scLRoomsIn : FnScope ["_law_term_here", "_law_parts", "_law_found", "_law_part"] ["_law_term_here"] (defScope sLRoomsIn) := ⟨rfl, rfl, rfl, by decide +kernel, rfl, by decide +kernel, by decide +kernel⟩
theorem scLAll : FnScope ["_law_program_here", "_law_found", "_law_name", "_law_term_here"] ["_law_program_here"] (defScope sLAll) := ⟨rfl, rfl, rfl, by decide +kernel, rfl, by decide +kernel, by decide +kernel⟩
section
variable {P : Program} {w : World} {K : PySem.W.Frag} {mg : Str → Option Value} {base : Heap}
theorem ok_lreaches (T : At K mg "_law_reaches" sLReaches ["_law_program_here"]) (B : Bt mg) {D : Nat} {lv : Nat} (c_reach : Cal P w K mg base lv "_law_reach" ["_law_term_here", "_law_reaches_here"] (spReach D)) : Cal P w K mg base (lv + 1) "_law_reaches" ["_law_program_here"] (spReaches D) := by
  refine cal_of T scLReaches (fun vs H Q E h => ?_) (fun f cdv A outer s H vs Q E hr h => ?_)
  · obtain ⟨p, ws, ps, rfl, _⟩ := h
    rfl
  · obtain ⟨p, ws, ps, rfl, hp, pr, po, hl, q⟩ := h
    refine ⟨_, (pss_cons (ps_set (i := 1) scLReaches.nd rfl (Or.inl rfl) pe_dnewK)
      (pss_cons (ps_for PassesOwn.never rfl (pi_list (pe_revL (pv 0))) (pg_tup (by rfl) (pgs_cons (pg_name (i := 2) scLReaches.nd rfl (Or.inl rfl)) (pgs_cons (pg_name (i := 3) scLReaches.nd rfl (Or.inl rfl)) pgs_nil))) (pss_one (ps_dput (hu_of hr) (pv 1) (pv 2) (pe_own c_reach hr (Nat.le_refl _) (by rfl) (pa_cons (pv 3) (pa_cons (pv 1) pa_nil))) rfl)))
      (pss_one (ps_ret (pv 1))))), ?_⟩
    intro e ne
    have hwl : ws.length = ps.length := pr.len
    have s1 : Same H (upd H e (.dK [])) := same_upd ne
    refine ⟨_, rfl, p, ws, rfl, SqL.of (s1 _ _ hp), fun R nR => ?_⟩
    have s1b : Same (upd H e (.dK [])) (upd (upd H e (.dK [])) R (.lst ws.reverse)) := same_upd nR
    have neR : e ≠ R := by
      rintro rfl
      rw [upd_same] at nR
      cases nR
    refine ⟨R, rfl, ⟨_, SqL.of upd_same⟩, ?_⟩
    refine for_list (K := K) (a := R) (xs := ws.reverse) (fun i σ H2 => ∃ y2 y3 : Option V, σ = [some (.ref p), some (.ref e), y2, y3] ∧ Same H H2 ∧ H2 R = some (.lst ws.reverse) ∧ H2 e = some (.dK (rk D (ps.drop (ps.length - i))))) ?_ ?_ ?_ ?_
    · refine ⟨none, none, rfl, s1.trans s1b, upd_same, ?_⟩
      rw [upd_ne neR, upd_same, Nat.sub_zero, List.drop_length]
      rfl
    · rintro i σ H2 _ ⟨_, _, _, s2, hR, _⟩
      exact SqL.of hR
    · rintro i x σ H2 hx ⟨y2, y3, rfl, s2, hR, hd⟩
      have hi : i < ws.length := by
        have z := (List.getElem?_eq_some_iff.mp hx).1
        rwa [List.length_reverse] at z
      rw [List.getElem?_reverse hi] at hx
      obtain ⟨q0, a, u, eq, rfl, pa, tu⟩ := pr.get hx
      obtain ⟨n0, t0⟩ := q0
      have hj : ps.length - (i + 1) = ws.length - 1 - i := by omega
      have hdr : ps.drop (ps.length - (i + 1)) = (n0, t0) :: ps.drop (ps.length - i) := by
        rw [hj]
        rw [hwl] at eq ⊢
        have hlt : ps.length - 1 - i < ps.length := by omega
        rw [List.drop_eq_getElem_cons hlt]
        rw [List.getElem?_eq_getElem hlt] at eq
        injection eq with eq
        rw [eq, show ps.length - 1 - i + 1 = ps.length - i by omega]
      have hpo : PO D ((n0, t0) :: ps.drop (ps.length - i)) := by
        rw [← hdr]
        exact PO.drop _ po
      refine ⟨a, _, rfl, (pa.same s2).sq, rfl, _, _, rfl, _, _, rfl, rfl, ?_⟩
      refine ⟨_, rfl, _, rfl, u, t0, e, _, rfl, tu.keep (KT.same s2), hd, hpo.1, fun H3 s3 => ?_⟩
      refine ⟨_, rfl, _, rfl, e, _, rfl, DPut.k (k := Sum.inr n0) (s3 _ _ hd) ?_, ?_⟩
      · have h1 := rk_len D (ps.drop (ps.length - i))
        rw [List.length_drop] at h1
        exact small1000 (by omega)
      · refine ⟨_, _, rfl, ?_, ?_, ?_⟩
        · intro c o ec
          rw [upd_ne (ne_of_none ec ne)]
          exact s3 _ _ (s2 _ _ ec)
        · rw [upd_ne neR.symm]
          exact s3 _ _ hR
        · rw [upd_same, hdr]
          rfl
    · rintro σ H2 ⟨y2, y3, rfl, s2, _, hd⟩
      rw [List.length_reverse, hwl, Nat.sub_self, List.drop_zero] at hd
      exact ⟨_, rfl, q e H2 s2 ne hd⟩
theorem ok_lrooms_in (T : At K mg "_law_rooms_in" sLRoomsIn ["_law_term_here"]) (B : Bt mg) : ∀ d : Nat, d ≤ 8 → Cal P w K mg base (d + 1) "_law_rooms_in" ["_law_term_here"] (spRooms d)
  | 0, _ => by
    refine cal_of T scLRoomsIn (fun vs H Q E h => ?_) (fun f cdv A outer s H vs Q E hr h => ?_)
    · obtain ⟨v, t, S, rfl, _⟩ := h
      rfl
    · obtain ⟨v, t, S, rfl, hv, hl, q⟩ := h
      exact hl.elim
  | d + 1, hd8 => by
    have c_rooms_in := ok_lrooms_in T B d (by omega)
    refine cal_of T scLRoomsIn (fun vs H Q E h => ?_) (fun f cdv A outer s H vs Q E hr h => ?_)
    · obtain ⟨v, t, S, rfl, _⟩ := h
      rfl
    · obtain ⟨v, t, S, rfl, hv, hl, q⟩ := h
      refine ⟨_, (pss_cons (ps_if (pt_cmpR op_eq (pe_ix ix_tup (pv 0) pe_int (fun _ _ => rfl)) pe_str (nomark _)) (pss_one (ps_ret (pe_callTy call_list_of (by rfl) B.list (by decide +kernel) (pa_cons (pe_ix ix_tup (pv 0) pe_int (fun _ _ => rfl)) pa_nil)))) pss_nil)
      (pss_cons (ps_set (i := 1) scLRoomsIn.nd rfl (Or.inl rfl) (pe_ix ix_list (pe_lst (pa_cons (pe_lst pa_nil) (pa_cons (pe_callTy call_list_of (by rfl) B.list (by decide +kernel) (pa_cons (pe_slice sl_tupF (pv 0) (po_some (pe_un un_neg pe_int)) po_none) pa_nil)) pa_nil))) (pe_callTy call_int1 (by rfl) B.int (by decide +kernel) (pa_cons (pe_cmpR op_eq (pe_ix ix_tup (pv 0) pe_int (fun _ _ => rfl)) pe_str (nomark _)) pa_nil)) (fun _ _ => rfl)))
      (pss_cons (ps_if (pt_cmpR op_in_seq (pe_ix ix_tup (pv 0) pe_int (fun _ _ => rfl)) (pe_tupF (pa_cons pe_str (pa_cons pe_str pa_nil))) (by rfl)) (pss_one (ps_set (i := 1) scLRoomsIn.nd rfl (Or.inl rfl) (pe_callTy call_list_of (by rfl) B.list (by decide +kernel) (pa_cons (pe_ix ix_tup (pv 0) pe_int (fun _ _ => rfl)) pa_nil)))) pss_nil)
      (pss_cons (ps_set (i := 2) scLRoomsIn.nd rfl (Or.inl rfl) (pe_lst pa_nil))
      (pss_cons (ps_for PassesOwn.never rfl (pi_list (pv 1)) (pg_name (i := 3) scLRoomsIn.nd rfl (Or.inl rfl)) (pss_one (ps_expr (pe_bm PySem.F.plainAttrs_list PySem.F.slot_list_extend PySem.F.type_list_extend mt_extend (pv 2) (pa_cons (pe_own c_rooms_in hr (Nat.le_refl _) (by rfl) (pa_cons (pv 3) pa_nil)) pa_nil)))))
      (pss_one (ps_ret (pv 2)))))))), ?_⟩
      have tail : ∀ (a L1 : Addr) (H3 : Hp) (ws : List V), (∀ rs, t ≠ .ask rs) → Same H H3 → H3 L1 = some (.lst ws) → TmL H3 ws (subs t) → tSeq (tAsg (tLst tNil) (gName 2)) (tSeq (tFor (iList K (tVar 1)) (gName 3) (tDrop (tBM K "list" rExtend (tVar 2) (tCons (tCall (spRooms d) [] E0 (tCons (tVar 3) tNil)) tNil)))) (tRet (tVar 2))) { nx := fun _ H' => Q V.non H', rt := Q } [some (.ref a), some (.ref L1), none, none] H3 := by
        intro a L1 H3 ws hna s3 h1 tl
        obtain ⟨hsl, hsv⟩ := subs_lv hl
        have hwl : ws.length = (subs t).length := tl.len
        refine ⟨Nat.zero_le _, fun L nL => ?_⟩
        have s0 : Same H3 (upd H3 L (.lst [])) := same_upd nL
        have nLa : ∀ {c : Addr} {o : HO}, H3 c = some o → c ≠ L := fun ec => ne_of_none ec nL
        refine ⟨_, rfl, L1, rfl, ⟨_, SqL.of (s0 _ _ h1)⟩, ?_⟩
        refine for_list (K := K) (a := L1) (xs := ws) (fun i σ H2 => ∃ y2 : Option V, σ = [some (.ref a), some (.ref L1), some (.ref L), y2] ∧ Same H3 H2 ∧ TmL H2 ws (subs t) ∧ H2 L = some (.lst ((((subs t).take i).map (roomsF d)).flatten.map V.int))) ?_ ?_ ?_ ?_
        · exact ⟨none, rfl, s0, tl.keep (KT.same s0), upd_same⟩
        · rintro i σ H2 _ ⟨_, _, s2, _⟩
          exact SqL.of (s2 _ _ h1)
        · rintro i x σ H2 hx ⟨y2, rfl, s2, tl2, hL⟩
          obtain ⟨t0, et, ht0⟩ := tl2.get hx
          have hm0 := List.mem_of_getElem? et
          have hfl := flat_len (roomsF d) (3 ^ d) ((subs t).take i) fun y hy => (rooms_few d y (hsv y (List.mem_of_mem_take hy))).1
          have hpw : 3 ^ d ≤ 3 ^ 7 := Nat.pow_le_pow_right (by decide) (by omega)
          have hp2 : 3 ^ 7 = 2187 := rfl
          have h3 : ((subs t).take i).length * 3 ^ d ≤ 3 * 3 ^ d := Nat.mul_le_mul_right _ (by rw [List.length_take]; omega)
          refine ⟨_, rfl, .inl ⟨rfl, _, SqL.of hL⟩, _, rfl, x, t0, S, rfl, ht0, hsv t0 hm0, fun u2 H4 s4 n2 e3 => ?_⟩
          have e4 := (rooms_few d t0 (hsv t0 hm0)).1
          refine ⟨L, u2, _, _, rfl, rfl, s4 _ _ hL, e3, ?_, ?_⟩
          · rw [List.length_map, List.length_map]
            have hb : sizeLine = 16777216 := rfl
            omega
          · refine ⟨_, rfl, ?_, ?_, ?_⟩
            · intro c o ec
              rw [upd_ne (nLa ec)]
              exact s4 _ _ (s2 _ _ ec)
            · exact tl2.keep ((KT.same s4).trans (KT.upd (s4 _ _ hL)))
            · rw [upd_same, List.take_add_one, et, List.map_append, List.flatten_append, List.map_append]
              show some (HO.lst (_ ++ _)) = some (HO.lst (_ ++ (roomsF d t0 ++ []).map V.int))
              rw [List.append_nil]
        · rintro σ H2 ⟨y2, rfl, s2, tl2, hL⟩
          rw [hwl, List.take_length, ← rooms_subs hna] at hL
          refine ⟨_, rfl, q L H2 (s3.trans s2) ?_ hL⟩
          cases hu : H L with
          | none => rfl
          | some o =>
            rw [s3 _ _ hu] at nL
            cases nL
      cases hv with
      | @ask a b rs e1 e2 =>
        refine ⟨_, rfl, _, _, _, _, rfl, rfl, e1.sq, atI_nat (j := 0) rfl, rfl, _, rfl, iteB (fun _ => ?_) (fun z => absurd z (by decide +kernel))⟩
        refine ⟨_, rfl, _, _, _, _, rfl, rfl, e1.sq, atI_nat (j := 1) rfl, b, _, rfl, .inr e2.sq, fun u nu => ?_⟩
        exact q u _ (same_upd nu) nu upd_same
      | @rest a e1 =>
        refine ⟨_, rfl, _, _, _, _, rfl, rfl, e1.sq, atI_nat (j := 0) rfl, rfl, _, rfl, iteB (fun z => absurd z (by decide +kernel)) (fun _ => ?_)⟩
        refine ⟨Nat.zero_le _, fun La nLa => ?_⟩
        have sa : Same H (upd H La (.lst [])) := same_upd nLa
        refine ⟨_, rfl, 1, rfl, (-1), rfl, a, _, rfl, e1.same sa, fun v Hb sb pb => ?_⟩
        have pb2 : PTup Hb v [.str "rest"] := pb
        refine ⟨v, [.str "rest"], rfl, .inr pb2.sq, fun Lc nLc => ?_⟩
        have sab : Same H Hb := sa.trans sb
        have hLa : Hb La = some (.lst []) := sb _ _ upd_same
        have sc : Same Hb (upd Hb Lc (.lst [.str "rest"])) := same_upd nLc
        refine ⟨(by show 2 ≤ sizeLine; decide), fun Ld nLd => ?_⟩
        have sd : Same _ (upd (upd Hb Lc (.lst [.str "rest"])) Ld (.lst [.ref La, .ref Lc])) := same_upd nLd
        have sH := (sab.trans sc).trans sd
        have ed := e1.same sH
        refine ⟨_, rfl, _, _, _, _, rfl, rfl, ed.sq, atI_nat (j := 0) rfl, rfl, .inr ⟨_, rfl, ?_⟩⟩
        refine ⟨_, _, _, _, rfl, rfl, SqL.of upd_same, atI_nat (j := 0) rfl, ?_⟩
        refine ⟨_, rfl, _, _, _, _, rfl, rfl, ed.sq, atI_nat (j := 0) rfl, (by show 2 ≤ sizeLine; decide), fun b1 H1 s1 n1 p1 => ⟨b1, _, rfl, .inr p1.sq, rfl, rfl, _, rfl, iteB (fun z => absurd z (by decide +kernel)) (fun _ => ?_)⟩⟩
        exact tail a La H1 [] (fun _ z => (nomatch z)) (sH.trans s1) (s1 _ _ (sd _ _ (sc _ _ hLa))) .nil
      | @call a nm e1 =>
        refine ⟨_, rfl, _, _, _, _, rfl, rfl, e1.sq, atI_nat (j := 0) rfl, rfl, _, rfl, iteB (fun z => absurd z (by decide +kernel)) (fun _ => ?_)⟩
        refine ⟨Nat.zero_le _, fun La nLa => ?_⟩
        have sa : Same H (upd H La (.lst [])) := same_upd nLa
        refine ⟨_, rfl, 1, rfl, (-1), rfl, a, _, rfl, e1.same sa, fun v Hb sb pb => ?_⟩
        have pb2 : PTup Hb v [.str nm] := pb
        refine ⟨v, [.str nm], rfl, .inr pb2.sq, fun Lc nLc => ?_⟩
        have sab : Same H Hb := sa.trans sb
        have hLa : Hb La = some (.lst []) := sb _ _ upd_same
        have sc : Same Hb (upd Hb Lc (.lst [.str nm])) := same_upd nLc
        refine ⟨(by show 2 ≤ sizeLine; decide), fun Ld nLd => ?_⟩
        have sd : Same _ (upd (upd Hb Lc (.lst [.str nm])) Ld (.lst [.ref La, .ref Lc])) := same_upd nLd
        have sH := (sab.trans sc).trans sd
        have ed := e1.same sH
        refine ⟨_, rfl, _, _, _, _, rfl, rfl, ed.sq, atI_nat (j := 0) rfl, rfl, .inr ⟨_, rfl, ?_⟩⟩
        refine ⟨_, _, _, _, rfl, rfl, SqL.of upd_same, atI_nat (j := 0) rfl, ?_⟩
        refine ⟨_, rfl, _, _, _, _, rfl, rfl, ed.sq, atI_nat (j := 0) rfl, (by show 2 ≤ sizeLine; decide), fun b1 H1 s1 n1 p1 => ⟨b1, _, rfl, .inr p1.sq, rfl, rfl, _, rfl, iteB (fun z => absurd z (by decide +kernel)) (fun _ => ?_)⟩⟩
        exact tail a La H1 [] (fun _ z => (nomatch z)) (sH.trans s1) (s1 _ _ (sd _ _ (sc _ _ hLa))) .nil
      | @thn a b vs1 ts e1 r1 t1 =>
        refine ⟨_, rfl, _, _, _, _, rfl, rfl, e1.sq, atI_nat (j := 0) rfl, rfl, _, rfl, iteB (fun z => absurd z (by decide +kernel)) (fun _ => ?_)⟩
        refine ⟨Nat.zero_le _, fun La nLa => ?_⟩
        have sa : Same H (upd H La (.lst [])) := same_upd nLa
        refine ⟨_, rfl, 1, rfl, (-1), rfl, a, _, rfl, e1.same sa, fun v Hb sb pb => ?_⟩
        have pb2 : PTup Hb v [.ref b] := pb
        refine ⟨v, [.ref b], rfl, .inr pb2.sq, fun Lc nLc => ?_⟩
        have sab : Same H Hb := sa.trans sb
        have hLa : Hb La = some (.lst []) := sb _ _ upd_same
        have sc : Same Hb (upd Hb Lc (.lst [.ref b])) := same_upd nLc
        refine ⟨(by show 2 ≤ sizeLine; decide), fun Ld nLd => ?_⟩
        have sd : Same _ (upd (upd Hb Lc (.lst [.ref b])) Ld (.lst [.ref La, .ref Lc])) := same_upd nLd
        have sH := (sab.trans sc).trans sd
        have ed := e1.same sH
        refine ⟨_, rfl, _, _, _, _, rfl, rfl, ed.sq, atI_nat (j := 0) rfl, rfl, .inr ⟨_, rfl, ?_⟩⟩
        refine ⟨_, _, _, _, rfl, rfl, SqL.of upd_same, atI_nat (j := 0) rfl, ?_⟩
        refine ⟨_, rfl, _, _, _, _, rfl, rfl, ed.sq, atI_nat (j := 0) rfl, (by show 2 ≤ sizeLine; decide), fun b1 H1 s1 n1 p1 => ⟨b1, _, rfl, .inr p1.sq, rfl, rfl, _, rfl, iteB (fun _ => ?_) (fun z => absurd z (by decide +kernel))⟩⟩
        refine ⟨_, rfl, _, _, _, _, rfl, rfl, (ed.same s1).sq, atI_nat (j := 1) rfl, b, _, rfl, .inr (r1.same (sH.trans s1)).sq, fun Le nLe => ?_⟩
        have se := same_upd (o := .lst vs1) nLe
        have sA := (sH.trans s1).trans se
        exact tail a Le _ vs1 (fun _ z => (nomatch z)) sA upd_same (t1.keep (KT.same sA))
      | @frk a b vs1 ts e1 r1 t1 =>
        refine ⟨_, rfl, _, _, _, _, rfl, rfl, e1.sq, atI_nat (j := 0) rfl, rfl, _, rfl, iteB (fun z => absurd z (by decide +kernel)) (fun _ => ?_)⟩
        refine ⟨Nat.zero_le _, fun La nLa => ?_⟩
        have sa : Same H (upd H La (.lst [])) := same_upd nLa
        refine ⟨_, rfl, 1, rfl, (-1), rfl, a, _, rfl, e1.same sa, fun v Hb sb pb => ?_⟩
        have pb2 : PTup Hb v [.ref b] := pb
        refine ⟨v, [.ref b], rfl, .inr pb2.sq, fun Lc nLc => ?_⟩
        have sab : Same H Hb := sa.trans sb
        have hLa : Hb La = some (.lst []) := sb _ _ upd_same
        have sc : Same Hb (upd Hb Lc (.lst [.ref b])) := same_upd nLc
        refine ⟨(by show 2 ≤ sizeLine; decide), fun Ld nLd => ?_⟩
        have sd : Same _ (upd (upd Hb Lc (.lst [.ref b])) Ld (.lst [.ref La, .ref Lc])) := same_upd nLd
        have sH := (sab.trans sc).trans sd
        have ed := e1.same sH
        refine ⟨_, rfl, _, _, _, _, rfl, rfl, ed.sq, atI_nat (j := 0) rfl, rfl, .inr ⟨_, rfl, ?_⟩⟩
        refine ⟨_, _, _, _, rfl, rfl, SqL.of upd_same, atI_nat (j := 0) rfl, ?_⟩
        refine ⟨_, rfl, _, _, _, _, rfl, rfl, ed.sq, atI_nat (j := 0) rfl, (by show 2 ≤ sizeLine; decide), fun b1 H1 s1 n1 p1 => ⟨b1, _, rfl, .inr p1.sq, rfl, rfl, _, rfl, iteB (fun _ => ?_) (fun z => absurd z (by decide +kernel))⟩⟩
        refine ⟨_, rfl, _, _, _, _, rfl, rfl, (ed.same s1).sq, atI_nat (j := 1) rfl, b, _, rfl, .inr (r1.same (sH.trans s1)).sq, fun Le nLe => ?_⟩
        have se := same_upd (o := .lst vs1) nLe
        have sA := (sH.trans s1).trans se
        exact tail a Le _ vs1 (fun _ z => (nomatch z)) sA upd_same (t1.keep (KT.same sA))
      | @rnd a v1 l m t0 e1 r1 =>
        refine ⟨_, rfl, _, _, _, _, rfl, rfl, e1.sq, atI_nat (j := 0) rfl, rfl, _, rfl, iteB (fun z => absurd z (by decide +kernel)) (fun _ => ?_)⟩
        refine ⟨Nat.zero_le _, fun La nLa => ?_⟩
        have sa : Same H (upd H La (.lst [])) := same_upd nLa
        refine ⟨_, rfl, 1, rfl, (-1), rfl, a, _, rfl, e1.same sa, fun v Hb sb pb => ?_⟩
        have pb2 : PTup Hb v [v1] := pb
        refine ⟨v, [v1], rfl, .inr pb2.sq, fun Lc nLc => ?_⟩
        have sab : Same H Hb := sa.trans sb
        have hLa : Hb La = some (.lst []) := sb _ _ upd_same
        have sc : Same Hb (upd Hb Lc (.lst [v1])) := same_upd nLc
        refine ⟨(by show 2 ≤ sizeLine; decide), fun Ld nLd => ?_⟩
        have sd : Same _ (upd (upd Hb Lc (.lst [v1])) Ld (.lst [.ref La, .ref Lc])) := same_upd nLd
        have sH := (sab.trans sc).trans sd
        have ed := e1.same sH
        refine ⟨_, rfl, _, _, _, _, rfl, rfl, ed.sq, atI_nat (j := 0) rfl, rfl, .inr ⟨_, rfl, ?_⟩⟩
        refine ⟨_, _, _, _, rfl, rfl, SqL.of upd_same, atI_nat (j := 1) rfl, ?_⟩
        refine ⟨_, rfl, _, _, _, _, rfl, rfl, ed.sq, atI_nat (j := 0) rfl, (by show 2 ≤ sizeLine; decide), fun b1 H1 s1 n1 p1 => ⟨b1, _, rfl, .inr p1.sq, rfl, rfl, _, rfl, iteB (fun z => absurd z (by decide +kernel)) (fun _ => ?_)⟩⟩
        refine tail a Lc H1 [v1] (fun _ z => (nomatch z)) (sH.trans s1) ?_ (.cons (r1.keep (KT.same (sH.trans s1))) .nil)
        exact s1 _ _ (sd _ _ upd_same)
theorem ok_lall (T : At K mg "_law_all_rooms" sLAll ["_law_program_here"]) (B : Bt mg) {D : Nat} {lv : Nat} (c_rooms_in : Cal P w K mg base lv "_law_rooms_in" ["_law_term_here"] (spRooms D)) : Cal P w K mg base (lv + 1) "_law_all_rooms" ["_law_program_here"] (spRoomsOf D) := by
  refine cal_of T scLAll (fun vs H Q E h => ?_) (fun f cdv A outer s H vs Q E hr h => ?_)
  · obtain ⟨p, ws, ps, S, rfl, _⟩ := h
    rfl
  · obtain ⟨p, ws, ps, S, rfl, hp, pr, po, hl, hS, q⟩ := h
    refine ⟨_, (pss_cons (ps_set (i := 1) scLAll.nd rfl (Or.inl rfl) (pe_lst pa_nil))
      (pss_cons (ps_for PassesOwn.never rfl (pi_list (pv 0)) (pg_tup (by rfl) (pgs_cons (pg_name (i := 2) scLAll.nd rfl (Or.inl rfl)) (pgs_cons (pg_name (i := 3) scLAll.nd rfl (Or.inl rfl)) pgs_nil))) (pss_one (ps_expr (pe_bm PySem.F.plainAttrs_list PySem.F.slot_list_extend PySem.F.type_list_extend mt_extend (pv 1) (pa_cons (pe_own c_rooms_in hr (Nat.le_refl _) (by rfl) (pa_cons (pv 3) pa_nil)) pa_nil)))))
      (pss_one (ps_ret (pe_sortSet (by rfl) B.sorted (by rfl) B.set (pv 1)))))), ?_⟩
    refine ⟨Nat.zero_le _, fun L nL => ?_⟩
    have hwl : ws.length = ps.length := pr.len
    have s0 : Same H (upd H L (.lst [])) := same_upd nL
    have nLa : ∀ {c : Addr} {o : HO}, H c = some o → c ≠ L := fun ec => ne_of_none ec nL
    refine ⟨_, rfl, p, rfl, ⟨_, SqL.of (s0 _ _ hp)⟩, ?_⟩
    refine for_list (K := K) (a := p) (xs := ws) (fun i σ H2 => ∃ y2 y3 : Option V, σ = [some (.ref p), some (.ref L), y2, y3] ∧ Same H H2 ∧ H2 L = some (.lst ((roomsL D (ps.take i)).map V.int))) ?_ ?_ ?_ ?_
    · exact ⟨none, none, rfl, s0, upd_same⟩
    · rintro i σ H2 _ ⟨_, _, _, s2, _⟩
      exact SqL.of (s2 _ _ hp)
    · rintro i x σ H2 hx ⟨y2, y3, rfl, s2, hL⟩
      obtain ⟨q0, a, u, eq, rfl, pa, tu⟩ := pr.get hx
      have hm0 := List.mem_of_getElem? eq
      have hfl := (roomsL_few (D := D) (S := S) (ps := ps.take i) fun y hy => po y (List.mem_of_mem_take hy)).1
      have h3 : (ps.take i).length * 3 ^ D ≤ ps.length * 3 ^ D := Nat.mul_le_mul_right _ (by rw [List.length_take]; omega)
      refine ⟨a, _, rfl, (pa.same s2).sq, rfl, _, _, rfl, _, _, rfl, rfl, ?_⟩
      refine ⟨_, rfl, .inl ⟨rfl, _, SqL.of hL⟩, _, rfl, u, q0.2, S, rfl, tu.keep (KT.same s2), po q0 hm0, fun u2 H3 s3 n2 e3 => ?_⟩
      have e4 := (rooms_few D q0.2 (po q0 hm0)).1
      have h5 : 1 * 3 ^ D ≤ ps.length * 3 ^ D := Nat.mul_le_mul_right _ (List.length_pos_of_mem hm0)
      refine ⟨L, u2, _, _, rfl, rfl, s3 _ _ hL, e3, ?_, ?_⟩
      · rw [List.length_map, List.length_map]
        have hb : sizeLine = 16777216 := rfl
        omega
      · refine ⟨_, _, rfl, ?_, ?_⟩
        · intro c o ec
          rw [upd_ne (nLa ec)]
          exact s3 _ _ (s2 _ _ ec)
        · rw [upd_same, List.take_add_one, eq]
          unfold roomsL
          rw [List.map_append, List.flatten_append, List.map_append]
          show some (HO.lst (_ ++ _)) = some (HO.lst (_ ++ (roomsF D q0.2 ++ []).map V.int))
          rw [List.append_nil]
    · rintro σ H2 ⟨y2, y3, rfl, s2, hL⟩
      rw [hwl, List.take_length] at hL
      have hf := roomsL_few po
      refine ⟨_, rfl, L, roomsL D ps, S, rfl, SqL.of hL, by omega, hf.2, hS, fun ms u H3 pw mem s3 n3 e3 => ?_⟩
      refine q ms u H3 pw mem (s2.trans s3) ?_ e3
      cases hu : H u with
      | none => rfl
      | some o =>
        rw [s2 _ _ hu] at n3
        cases n3
end
end Su
namespace Su
open PySem PySem.Spec PyProof.Rows L2
def NameOk (s : Str) : Prop := s.cps.size ≤ 12 ∧ ∀ c ∈ s.cps.toList, c < 1000
def NamesOk (ns : List Str) : Prop := ∀ n ∈ ns, NameOk n
def spNames : Sp := fun vs H Q _ => ∃ (p : Addr) (many : Int), vs = [.ref p, .int many] ∧ PoolAt H p ∧ 0 ≤ many ∧ many ≤ 26 ∧
  ∀ (u : Addr) (H' : Hp) (ns : List Str), H u = none → Kept p H H' → PoolAt H' p → H' u = some (.lst (ns.map V.str)) → NamesOk ns → ns.length = many.toNat → Q (.ref u) H'
abbrev lett : Str := "abcdefghijklmnopqrstuvwxyz"
theorem lett_at {r : Int} (h0 : 0 ≤ r) (h1 : r < 26) : ∃ c, atI lett.cps.toList r = some c ∧ c < 1000 := by
  have hl : lett.cps.toList.length = 26 := by decide +kernel
  have ha : ∀ c ∈ lett.cps.toList, c < 1000 := by decide +kernel
  have hr : r.toNat < lett.cps.toList.length := by omega
  exact ⟨_, atI_int h0 (List.getElem?_eq_getElem hr), ha _ (List.getElem_mem hr)⟩
def one1 (c : Nat) : Str := ⟨#[c]⟩
theorem join_ones : ∀ cs : List Nat, TL.joinL [] (cs.map fun c => [c]) = cs
  | [] => rfl
  | [c] => rfl
  | c :: d :: r => by
    show c :: TL.joinL [] ((d :: r).map fun c => [c]) = c :: d :: r
    rw [join_ones (d :: r)]
theorem joinOnes (cs : List Nat) : Txt.join (Str.ofString "") (cs.map one1) = ⟨cs.toArray⟩ := by
  have z := SX.join_S [] (cs.map fun c => [c])
  rw [join_ones, List.map_map] at z
  exact z
theorem name_cat {s : Str} {c : Nat} (h : s.cps.size ≤ 5) (hs : ∀ c ∈ s.cps.toList, c < 1000) (hc : c < 1000) : NameOk (s ++ one1 c) := by
  have e : (s ++ one1 c).cps = s.cps ++ #[c] := rfl
  refine ⟨?_, ?_⟩
  · rw [e, Array.size_append]
    show s.cps.size + 1 ≤ 12
    omega
  · rw [e, Array.toList_append]
    intro x hx
    rcases List.mem_append.mp hx with z | z
    · exact hs x z
    · rw [List.mem_singleton.mp z]
      exact hc
theorem scNames : FnScope ["_law_pool_here", "_law_many", "_law_letters", "_law_stem", "_law_first", "_law_k"] ["_law_pool_here", "_law_many"] (defScope sNames) := ⟨rfl, rfl, rfl, by decide +kernel, rfl, by decide +kernel, by decide +kernel⟩
section
variable {P : Program} {w : World} {K : PySem.W.Frag} {mg : Str → Option Value} {base : Heap}
theorem ok_names (T : At K mg "_law_names" sNames ["_law_pool_here", "_law_many"]) (B : Bt mg) (c_take : Cal P w K mg base 1 "_law_take" ["_law_pool_here", "_law_many"] spTake) :
    Cal P w K mg base 2 "_law_names" ["_law_pool_here", "_law_many"] spNames := by
  refine cal_of T scNames (fun vs H Q E h => ?_) (fun f cdv A outer s H vs Q E hr h => ?_)
  · obtain ⟨p, many, rfl, _⟩ := h
    rfl
  · obtain ⟨p, many, rfl, hp, m0, m1, q⟩ := h
    refine ⟨_, (pss_cons (ps_set (i := 2) scNames.nd rfl (Or.inr rfl) pe_str)
      (pss_cons (ps_set (i := 3) scNames.nd rfl (Or.inr rfl) (pe_join pe_str (pe_lc (own := [("_law_k", 5)]) (g := gName 5) (tt := tYes) (te := (tOp rIxS (tVar 2) (tCall spTake [] E0 (tCons (tVar 0) (tCons (tC (.int 26)) tNil))))) (by rfl) scNames.nd (pi_range1 (by rfl) B.range (pa_cons (pe_own c_take hr (by decide) (by rfl) (pa_cons (pv 0) (pa_cons pe_int pa_nil))) pa_nil)) (blkOk_by (own := [("_law_k", 5)]) (N := ["_law_pool_here", "_law_many", "_law_letters", "_law_stem", "_law_first", "_law_k"]) (sc := defScope sNames) (by decide +kernel)) (fun _ _ _ _ _ => (pg_name (i := 5) scNames.nd rfl (Or.inl rfl))) (fun _ _ _ _ _ => pts_nil) (fun _ _ _ _ _ => (pe_ix ix_str (pv 2) (pe_own c_take hr (by decide) (by rfl) (pa_cons (pv 0) (pa_cons pe_int pa_nil))) (fun _ _ => rfl))))))
      (pss_cons (ps_set (i := 4) scNames.nd rfl (Or.inr rfl) (pe_own c_take hr (by decide) (by rfl) (pa_cons (pv 0) (pa_cons pe_int pa_nil))))
      (pss_one (ps_ret (pe_lc (own := [("_law_k", 5)]) (g := gName 5) (tt := tYes) (te := _) (by rfl) scNames.nd (pi_range1 (by rfl) B.range (pa_cons (pv 1) pa_nil)) (blkOk_by (own := [("_law_k", 5)]) (N := ["_law_pool_here", "_law_many", "_law_letters", "_law_stem", "_law_first", "_law_k"]) (sc := defScope sNames) (by decide +kernel)) (fun _ _ _ _ _ => (pg_name (i := 5) scNames.nd rfl (Or.inl rfl))) (fun _ _ _ _ _ => pts_nil) (fun _ _ _ _ _ => (pe_op op_add_str (pv 3) (pe_ix ix_str (pv 2) (pe_op op_mod (pe_op op_add (pv 4) (pv 5)) pe_int) (fun _ _ => rfl)))))))))), ?_⟩
    refine ⟨⟨_, rfl⟩, _, rfl, p, 6, rfl, hp, (by decide), (by decide), fun r o r0 r1 po => ?_⟩
    have hk1 : Kept p H (upd H p o) := Kept.upd p H o
    have hp1 : PoolAt (upd H p o) p := ⟨o, upd_same, po⟩
    refine ⟨r, rfl, by omega, by omega, fun D nD => ?_⟩
    obtain ⟨eDp, nD0⟩ := free_upd nD
    have hll : lett.length ≤ sizeLine := by decide +kernel
    refine lc_range (lo := 0) (n := r.toNat) (fun i H2 => ∃ cs : List Nat, cs.length = i ∧ (∀ c ∈ cs, c < 1000) ∧ H2 D = some (.lst ((cs.map one1).map V.str)) ∧ PoolAt H2 p ∧ Kept p H H2) ?_ ?_ ?_
    · exact ⟨[], rfl, fun _ hx => (List.not_mem_nil hx).elim, upd_same, hp1.upd eDp.symm, hk1.set nD0⟩
    · rintro i H2 hi ⟨cs, hcl, hcs, hD, hpo, hk⟩
      refine ⟨rfl, tyes ?_⟩
      refine ⟨_, rfl, _, rfl, p, 26, rfl, hpo, (by decide), (by decide), fun r2 o2 r20 r21 po2 => ?_⟩
      obtain ⟨c, ec, hc⟩ := lett_at r20 r21
      refine ⟨lett, r2, c, rfl, rfl, hll, ec, ?_⟩
      refine ⟨_, (by rw [upd_ne eDp]; exact hD), ?_, cs ++ [c], ?_, ?_, ?_, ?_, ?_⟩
      · rw [List.length_map, List.length_map]
        exact small1000 (by omega)
      · rw [List.length_append, hcl]
        rfl
      · intro x hx
        rcases List.mem_append.mp hx with z | z
        · exact hcs x z
        · rw [List.mem_singleton.mp z]
          exact hc
      · rw [upd_same, List.map_append, List.map_append]
        rfl
      · exact PoolAt.upd ⟨o2, upd_same, po2⟩ eDp.symm
      · exact (hk.trans (Kept.upd p H2 o2)).set nD0
    · rintro H2 ⟨cs, hcl, hcs, hD, hpo, hk⟩
      have hsum : ((cs.map one1).map (·.length)).sum = cs.length := by
        clear hD hcl hcs
        induction cs with
        | nil => rfl
        | cons c cs ih =>
          rw [List.map_cons, List.map_cons, List.sum_cons, ih, List.length_cons]
          show 1 + cs.length = _
          omega
      refine ⟨_, D, cs.map one1, rfl, rfl, .inl (SqL.of hD), ?_, ?_⟩
      · rw [hsum]
        show cs.length + (cs.map one1).length * 0 ≤ 16777216
        omega
      · rw [joinOnes]
        refine ⟨_, rfl, p, 26, rfl, hpo, (by decide), (by decide), fun r2 o2 r20 r21 po2 => ?_⟩
        refine ⟨_, rfl, many, rfl, by omega, by omega, fun L nL => ?_⟩
        obtain ⟨eLp, nL2⟩ := free_upd nL
        have nL0 : H L = none := hk.free eLp nL2
        have hkk := hk.trans (Kept.upd p H2 o2)
        refine lc_range (lo := 0) (n := many.toNat) (fun i H3 => ∃ ns : List Str, ns.length = i ∧ NamesOk ns ∧ H3 L = some (.lst (ns.map V.str)) ∧ PoolAt H3 p ∧ Kept p H H3) ?_ ?_ ?_
        · exact ⟨[], rfl, fun _ hx => (List.not_mem_nil hx).elim, upd_same, PoolAt.upd ⟨o2, upd_same, po2⟩ eLp.symm, hkk.set nL0⟩
        · rintro i H3 hi ⟨ns, hnl, hns, hL, hpo3, hk3⟩
          refine ⟨rfl, tyes ?_⟩
          have h26 : (0 : Int) ≤ (r2 + (0 + (i : Int))) % 26 := by omega
          have h27 : (r2 + (0 + (i : Int))) % 26 < 26 := by omega
          obtain ⟨c, ec, hc⟩ := lett_at h26 h27
          refine ⟨_, rfl, _, rfl, _, rfl, _, rfl, _, _, rfl, rfl, _, _, rfl, rfl, (show (0 : Int) < 26 by decide), lett, _, c, rfl, rfl, hll, ec, ?_⟩
          have hok : NameOk (⟨cs.toArray⟩ ++ one1 c) := name_cat (s := ⟨cs.toArray⟩) (by show cs.length ≤ 5; omega) (by rw [List.toList_toArray]; exact hcs) hc
          refine ⟨_, _, rfl, rfl, ?_, _, hL, ?_, ns ++ [⟨cs.toArray⟩ ++ one1 c], ?_, ?_, ?_, ?_, ?_⟩
          · show cs.length + 1 ≤ sizeLine
            have hb : sizeLine = 16777216 := rfl
            omega
          · rw [List.length_map]
            exact small1000 (by omega)
          · rw [List.length_append, hnl]
            rfl
          · intro x hx
            rcases List.mem_append.mp hx with z | z
            · exact hns x z
            · rw [List.mem_singleton.mp z]
              exact hok
          · rw [upd_same, List.map_append]
            rfl
          · exact hpo3.upd eLp.symm
          · exact hk3.set nL0
        · rintro H3 ⟨ns, hnl, hns, hL, hpo3, hk3⟩
          exact q L H3 ns nL0 hk3 hpo3 hL hns hnl
end
end Su
namespace Su
open PySem PySem.Spec PyProof.Rows L2
def spTerm (d : Nat) : Sp := fun vs H Q _ => ∃ (p n b : Addr) (ns : List Str) (rs : List Int), vs = [.ref p, .int d, .ref n, .ref b] ∧ PoolAt H p ∧ n ≠ p ∧ b ≠ p ∧ H n = some (.lst (ns.map V.str)) ∧ ns.length ≤ 100 ∧ NamesOk ns ∧ H b = some (.lst (rs.map V.int)) ∧ rs.Nodup ∧ rs.length ≤ 1000 ∧ 1 ≤ d ∧
  ∀ (v : V) (H' : Hp) (t : Tm), Kept p H H' → PoolAt H' p → TmAt H' v t → Lv (· ∈ ns) (Few rs) d t → Q v H'
theorem Fine.str {s : Str} (h : NameOk s) : Fine (.str s) 0 12 := by
  refine ⟨by simp [PyData.showable], by simp [PyData.hasDict], by simp [PyData.depth], ?_, ?_, ?_⟩
  · simp only [PyData.leavesShort, List.all_eq_true, decide_eq_true_eq]
    intro c hc
    exact Nat.lt_of_lt_of_le (h.2 c hc) (by decide)
  · simp only [PyData.weight]
    exact h.1
  · simp only [PyData.canLay0, PyData.strOk]
    rw [← Array.all_toList, List.all_eq_true]
    intro c hc
    have z := h.2 c hc
    rw [decide_eq_true_eq]
    omega
theorem FineL.strs : ∀ {ns : List Str}, NamesOk ns → FineL (ns.map PyData.str) 0 (13 * ns.length)
  | [], _ => FineL.nil
  | n :: ns, h => by
    have a := FineL.cons (Fine.str (h n List.mem_cons_self)) (FineL.strs fun y hy => h y (List.mem_cons_of_mem _ hy))
    have e : 13 * (n :: ns).length = 12 + 1 + 13 * ns.length := by
      rw [List.length_cons]
      omega
    rw [e]
    exact a
theorem dp_strs {K : PySem.W.Frag} {H : Hp} : ∀ ns : List Str, DpAll K H (ns.map V.str) (ns.map PyData.str)
  | [] => .nil
  | n :: ns => .cons (.str n) (dp_strs ns)
theorem TmL.snoc {H : Hp} {v : V} {t : Tm} (h : TmAt H v t) : ∀ {vs : List V} {ts : List Tm}, TmL H vs ts → TmL H (vs ++ [v]) (ts ++ [t])
  | _, _, .nil => .cons h .nil
  | _, _, .cons h1 r => .cons h1 (TmL.snoc h r)
theorem most_at {l e j : Int} (l0 : 0 ≤ l) (l1 : l < 13) (e0 : 0 ≤ e) (e1 : e < 3) (j0 : 0 ≤ j) (j1 : j < 4) : ∃ m : Option Int, atI [V.non, .int l, .int (l + 1), .int (l + e)] j = some (mostV m) ∧ ∀ k, m = some k → 0 ≤ k ∧ k ≤ 100 := by
  obtain h | h | h | h : j = 0 ∨ j = 1 ∨ j = 2 ∨ j = 3 := by omega
  · subst h
    exact ⟨none, rfl, fun k z => nomatch z⟩
  · subst h
    exact ⟨some l, rfl, fun k z => by cases z; omega⟩
  · subst h
    exact ⟨some (l + 1), rfl, fun k z => by cases z; omega⟩
  · subst h
    exact ⟨some (l + e), rfl, fun k z => by cases z; omega⟩
theorem few_at {j : Int} (j0 : 0 ≤ j) (j1 : j < 4) : ∃ m : Int, atI [V.int 1, .int 1, .int 2, .int 3] j = some (.int m) ∧ 0 ≤ m ∧ m ≤ 3 := by
  obtain h | h | h | h : j = 0 ∨ j = 1 ∨ j = 2 ∨ j = 3 := by omega
  · subst h
    exact ⟨1, rfl, by decide, by decide⟩
  · subst h
    exact ⟨1, rfl, by decide, by decide⟩
  · subst h
    exact ⟨2, rfl, by decide, by decide⟩
  · subst h
    exact ⟨3, rfl, by decide, by decide⟩
theorem scTerm : FnScope ["_law_pool_here", "_law_deep_here", "_law_names_here", "_law_some", "_law_way", "_law_least", "_law_most", "_law_k"] ["_law_pool_here", "_law_deep_here", "_law_names_here", "_law_some"] (defScope sTerm) := ⟨rfl, rfl, rfl, by decide +kernel, rfl, by decide +kernel, by decide +kernel⟩
section
variable {P : Program} {w : World} {K : PySem.W.Frag} {mg : Str → Option Value} {base : Heap}
theorem ok_term (T : At K mg "_law_term" sTerm ["_law_pool_here", "_law_deep_here", "_law_names_here", "_law_some"]) (B : Bt mg) (c_take : Cal P w K mg base 1 "_law_take" ["_law_pool_here", "_law_many"] spTake) (c_picked : Cal P w K mg base 2 "_law_picked" ["_law_pool_here", "_law_some", "_law_many"] (spPicked K)) :
    ∀ d : Nat, Cal P w K mg base (d + 3) "_law_term" ["_law_pool_here", "_law_deep_here", "_law_names_here", "_law_some"] (spTerm d)
  | 0 => by
    refine cal_of T scTerm (fun vs H Q E h => ?_) (fun f cdv A outer s H vs Q E hr h => ?_)
    · obtain ⟨p, n, b, ns, rs, rfl, _⟩ := h
      rfl
    · obtain ⟨p, n, b, ns, rs, rfl, hp, np, bp, hn, hnl, hno, hb, nd, hrl, d1, q⟩ := h
      exact absurd d1 (by decide)
  | d + 1 => by
    have c_term := ok_term T B c_take c_picked d
    refine cal_of T scTerm (fun vs H Q E h => ?_) (fun f cdv A outer s H vs Q E hr h => ?_)
    · obtain ⟨p, n, b, ns, rs, rfl, _⟩ := h
      rfl
    · obtain ⟨p, n, b, ns, rs, rfl, hp, np, bp, hn, hnl, hno, hb, nd, hrl, d1, q⟩ := h
      refine ⟨_, (pss_cons (ps_set (i := 4) scTerm.nd rfl (Or.inl rfl) (pe_own c_take hr (by omega) (by rfl) (pa_cons (pv 0) (pa_cons pe_int pa_nil))))
      (pss_cons (ps_if (pt_cmpR op_eq (pv 4) pe_int (nomark _)) (pss_one (ps_ret (pe_tupF (pa_cons pe_str pa_nil)))) pss_nil)
      (pss_cons (ps_if (PW.pt (pw_and (pt_cmpR op_eq (pv 4) pe_int (nomark _)) (pw_and1 (pt_cmpR (op_neD hr.units) (pv 2) (pe_lst pa_nil) (nomark _))))) (pss_one (ps_ret (pe_tupF (pa_cons pe_str (pa_cons (pe_ix ix_list (pv 2) (pe_own c_take hr (by omega) (by rfl) (pa_cons (pv 0) (pa_cons (pe_callB call_len_seq (by rfl) B.len PySem.boot_len (pa_cons (pv 2) pa_nil)) pa_nil))) (fun _ _ => rfl)) pa_nil))))) pss_nil)
      (pss_cons (ps_if (PW.pt (pw_and (pt_cmpR op_gt (pv 1) pe_int (nomark _)) (pw_and1 (pt_cmpR op_eq (pv 4) pe_int (nomark _))))) (pss_one (ps_ret (pe_tupF (pa_cons pe_str (pa_cons (pe_callTy call_tupleF (by rfl) B.tuple (by decide +kernel) (pa_cons (pe_lc (own := [("_law_k", 7)]) (g := gName 7) (tt := tYes) (te := (tCall (spTerm d) [] E0 (tCons (tVar 0) (tCons _ (tCons (tVar 2) (tCons (tVar 3) tNil)))))) (by rfl) scTerm.nd (pi_range1 (by rfl) B.range (pa_cons (pe_op op_add pe_int (pe_own c_take hr (by omega) (by rfl) (pa_cons (pv 0) (pa_cons pe_int pa_nil)))) pa_nil)) (blkOk_by (own := [("_law_k", 7)]) (N := ["_law_pool_here", "_law_deep_here", "_law_names_here", "_law_some", "_law_way", "_law_least", "_law_most", "_law_k"]) (sc := defScope sTerm) (by decide +kernel)) (fun _ _ _ _ _ => (pg_name (i := 7) scTerm.nd rfl (Or.inl rfl))) (fun _ _ _ _ _ => pts_nil) (fun _ _ _ _ _ => (pe_own c_term hr (by omega) (by rfl) (pa_cons (pv 0) (pa_cons (pe_op op_sub (pv 1) pe_int) (pa_cons (pv 2) (pa_cons (pv 3) pa_nil))))))) pa_nil)) pa_nil))))) pss_nil)
      (pss_cons (ps_if (PW.pt (pw_and (pt_cmpR op_gt (pv 1) pe_int (nomark _)) (pw_and1 (pt_cmpR op_eq (pv 4) pe_int (nomark _))))) (pss_one (ps_ret (pe_tupF (pa_cons pe_str (pa_cons (pe_callTy call_tupleF (by rfl) B.tuple (by decide +kernel) (pa_cons (pe_lc (own := [("_law_k", 7)]) (g := gName 7) (tt := tYes) (te := (tCall (spTerm d) [] E0 (tCons (tVar 0) (tCons _ (tCons (tVar 2) (tCons (tVar 3) tNil)))))) (by rfl) scTerm.nd (pi_range1 (by rfl) B.range (pa_cons (pe_op op_add pe_int (pe_own c_take hr (by omega) (by rfl) (pa_cons (pv 0) (pa_cons pe_int pa_nil)))) pa_nil)) (blkOk_by (own := [("_law_k", 7)]) (N := ["_law_pool_here", "_law_deep_here", "_law_names_here", "_law_some", "_law_way", "_law_least", "_law_most", "_law_k"]) (sc := defScope sTerm) (by decide +kernel)) (fun _ _ _ _ _ => (pg_name (i := 7) scTerm.nd rfl (Or.inl rfl))) (fun _ _ _ _ _ => pts_nil) (fun _ _ _ _ _ => (pe_own c_term hr (by omega) (by rfl) (pa_cons (pv 0) (pa_cons (pe_op op_sub (pv 1) pe_int) (pa_cons (pv 2) (pa_cons (pv 3) pa_nil))))))) pa_nil)) pa_nil))))) pss_nil)
      (pss_cons (ps_if (PW.pt (pw_and (pt_cmpR op_gt (pv 1) pe_int (nomark _)) (pw_and1 (pt_cmpR op_gt (pv 4) pe_int (nomark _))))) (pss_cons (ps_set (i := 5) scTerm.nd rfl (Or.inl rfl) (pe_own c_take hr (by omega) (by rfl) (pa_cons (pv 0) (pa_cons pe_int pa_nil))))
      (pss_cons (ps_set (i := 6) scTerm.nd rfl (Or.inl rfl) (pe_ix ix_list (pe_lst (pa_cons pe_non (pa_cons (pv 5) (pa_cons (pe_op op_add (pv 5) pe_int) (pa_cons (pe_op op_add (pv 5) (pe_own c_take hr (by omega) (by rfl) (pa_cons (pv 0) (pa_cons pe_int pa_nil)))) pa_nil))))) (pe_own c_take hr (by omega) (by rfl) (pa_cons (pv 0) (pa_cons pe_int pa_nil))) (fun _ _ => rfl)))
      (pss_one (ps_ret (pe_tupF (pa_cons pe_str (pa_cons (pv 5) (pa_cons (pv 6) (pa_cons (pe_own c_term hr (by omega) (by rfl) (pa_cons (pv 0) (pa_cons (pe_op op_sub (pv 1) pe_int) (pa_cons (pv 2) (pa_cons (pv 3) pa_nil))))) pa_nil))))))))) pss_nil)
      (pss_one (ps_ret (pe_tupF (pa_cons pe_str (pa_cons (pe_callTy call_tupleF (by rfl) B.tuple (by decide +kernel) (pa_cons (pe_own c_picked hr (by omega) (by rfl) (pa_cons (pv 0) (pa_cons (pv 3) (pa_cons (pe_ix ix_list (pe_lst (pa_cons pe_int (pa_cons pe_int (pa_cons pe_int (pa_cons pe_int pa_nil))))) (pe_own c_take hr (by omega) (by rfl) (pa_cons (pv 0) (pa_cons pe_int pa_nil))) (fun _ _ => rfl)) pa_nil)))) pa_nil)) pa_nil))))))))))), ?_⟩
      refine ⟨_, rfl, p, 9, rfl, hp, (by decide), (by decide), fun wy o w0 w1 po => ?_⟩
      have hk1 : Kept p H (upd H p o) := Kept.upd p H o
      have hp1 : PoolAt (upd H p o) p := ⟨o, upd_same, po⟩
      have ask : ∀ (H0 : Hp) (D : Ends) (y5 y6 y7 : Option V), D.rt = Q → Kept p H H0 → PoolAt H0 p → tRet (tTupF (tCons (tC (.str "ask")) (tCons (tCB (rTupL K) (tCons (tCall (spPicked K) [] E0 (tCons (tVar 0) (tCons (tVar 3) (tCons (tOp (rIxL K) (tLst (tCons (tC (.int 1)) (tCons (tC (.int 1)) (tCons (tC (.int 2)) (tCons (tC (.int 3)) tNil))))) (tCall spTake [] E0 (tCons (tVar 0) (tCons (tC (.int 4)) tNil)))) tNil)))) tNil)) tNil))) D [some (.ref p), some (.int ((d + 1 : Nat) : Int)), some (.ref n), some (.ref b), some (.int wy), y5, y6, y7] H0 := by
        intro H0 D y5 y6 y7 hD hk hpo
        refine ⟨_, rfl, _, rfl, (by show 4 ≤ sizeLine; decide), fun L nL => ?_⟩
        have eLp : L ≠ p := pool_ne hpo nL
        have hb0 : H0 b = some (.lst (rs.map V.int)) := hk _ _ hb bp
        have eLb : b ≠ L := ne_of_none hb0 nL
        refine ⟨_, rfl, p, 4, rfl, hpo.upd eLp.symm, (by decide), (by decide), fun j o2 j0 j1 po2 => ?_⟩
        obtain ⟨m, hm, m0, m3⟩ := few_at j0 j1
        refine ⟨_, _, _, _, rfl, rfl, SqL.of (by rw [upd_ne eLp, upd_same]), hm, ?_⟩
        refine ⟨p, b, rs, m, rfl, ⟨o2, upd_same, po2⟩, SqL.of (by rw [upd_ne bp, upd_ne eLb]; exact hb0), bp, nd, hrl, m0, fun q1 H5 ms n5 k5 hp5 h5 nd5 sub5 len5 pw5 => ?_⟩
        refine ⟨q1, _, rfl, SqL.of h5, fun u H6 s6 n6 pu => ?_⟩
        refine ⟨(by show 2 ≤ sizeLine; decide), fun a H7 s7 n7 pa => ?_⟩
        rw [hD]
        have kk : Kept p H H7 := ((((hk.trans (Kept.same (same_upd nL))).trans (Kept.upd p _ o2)).trans k5).trans (Kept.same (s6.trans s7)))
        exact q (.ref a) H7 (.ask ms) kk (hp5.same (s6.trans s7)) (.ask pa (pu.same s7)) ⟨by omega, sub5⟩
      obtain h | h | h | h | h | h | h | h | h : wy = 0 ∨ wy = 1 ∨ wy = 2 ∨ wy = 3 ∨ wy = 4 ∨ wy = 5 ∨ wy = 6 ∨ wy = 7 ∨ wy = 8 := by omega
      · subst h
        refine ⟨_, rfl, rfl, _, rfl, iteB (fun z => absurd z (by decide +kernel)) (fun _ => ?_)⟩
        refine ⟨_, rfl, rfl, _, rfl, iteB (fun z => absurd z (by decide +kernel)) (fun _ => iteF ?_)⟩
        by_cases hd1 : 1 ≤ d
        · refine ⟨_, rfl, _, _, rfl, rfl, _, rfl, iteB (fun _ => ?_) (fun z => absurd (of_decide_eq_false z) (by omega))⟩
          refine ⟨_, rfl, rfl, _, rfl, iteB (fun z => absurd z (by decide +kernel)) (fun _ => ?_)⟩
          refine ⟨_, rfl, _, _, rfl, rfl, _, rfl, iteB (fun _ => ?_) (fun z => absurd (of_decide_eq_false z) (by omega))⟩
          refine ⟨_, rfl, rfl, _, rfl, iteB (fun z => absurd z (by decide +kernel)) (fun _ => ?_)⟩
          refine ⟨_, rfl, _, _, rfl, rfl, _, rfl, iteB (fun _ => ?_) (fun z => absurd (of_decide_eq_false z) (by omega))⟩
          refine ⟨_, rfl, _, _, rfl, rfl, _, rfl, iteB (fun z => absurd z (by decide +kernel)) (fun _ => ?_)⟩
          exact ask _ _ none none none rfl hk1 hp1
        · refine ⟨_, rfl, _, _, rfl, rfl, _, rfl, iteB (fun z => absurd (of_decide_eq_true z) (by omega)) (fun _ => iteF ?_)⟩
          refine ⟨_, rfl, _, _, rfl, rfl, _, rfl, iteB (fun z => absurd (of_decide_eq_true z) (by omega)) (fun _ => iteF ?_)⟩
          refine ⟨_, rfl, _, _, rfl, rfl, _, rfl, iteB (fun z => absurd (of_decide_eq_true z) (by omega)) (fun _ => iteF ?_)⟩
          exact ask _ _ none none none rfl hk1 hp1
      · subst h
        refine ⟨_, rfl, rfl, _, rfl, iteB (fun z => absurd z (by decide +kernel)) (fun _ => ?_)⟩
        refine ⟨_, rfl, rfl, _, rfl, iteB (fun z => absurd z (by decide +kernel)) (fun _ => iteF ?_)⟩
        by_cases hd1 : 1 ≤ d
        · refine ⟨_, rfl, _, _, rfl, rfl, _, rfl, iteB (fun _ => ?_) (fun z => absurd (of_decide_eq_false z) (by omega))⟩
          refine ⟨_, rfl, rfl, _, rfl, iteB (fun z => absurd z (by decide +kernel)) (fun _ => ?_)⟩
          refine ⟨_, rfl, _, _, rfl, rfl, _, rfl, iteB (fun _ => ?_) (fun z => absurd (of_decide_eq_false z) (by omega))⟩
          refine ⟨_, rfl, rfl, _, rfl, iteB (fun z => absurd z (by decide +kernel)) (fun _ => ?_)⟩
          refine ⟨_, rfl, _, _, rfl, rfl, _, rfl, iteB (fun _ => ?_) (fun z => absurd (of_decide_eq_false z) (by omega))⟩
          refine ⟨_, rfl, _, _, rfl, rfl, _, rfl, iteB (fun z => absurd z (by decide +kernel)) (fun _ => ?_)⟩
          exact ask _ _ none none none rfl hk1 hp1
        · refine ⟨_, rfl, _, _, rfl, rfl, _, rfl, iteB (fun z => absurd (of_decide_eq_true z) (by omega)) (fun _ => iteF ?_)⟩
          refine ⟨_, rfl, _, _, rfl, rfl, _, rfl, iteB (fun z => absurd (of_decide_eq_true z) (by omega)) (fun _ => iteF ?_)⟩
          refine ⟨_, rfl, _, _, rfl, rfl, _, rfl, iteB (fun z => absurd (of_decide_eq_true z) (by omega)) (fun _ => iteF ?_)⟩
          exact ask _ _ none none none rfl hk1 hp1
      · subst h
        refine ⟨_, rfl, rfl, _, rfl, iteB (fun z => absurd z (by decide +kernel)) (fun _ => ?_)⟩
        refine ⟨_, rfl, rfl, _, rfl, iteB (fun z => absurd z (by decide +kernel)) (fun _ => iteF ?_)⟩
        by_cases hd1 : 1 ≤ d
        · refine ⟨_, rfl, _, _, rfl, rfl, _, rfl, iteB (fun _ => ?_) (fun z => absurd (of_decide_eq_false z) (by omega))⟩
          refine ⟨_, rfl, rfl, _, rfl, iteB (fun z => absurd z (by decide +kernel)) (fun _ => ?_)⟩
          refine ⟨_, rfl, _, _, rfl, rfl, _, rfl, iteB (fun _ => ?_) (fun z => absurd (of_decide_eq_false z) (by omega))⟩
          refine ⟨_, rfl, rfl, _, rfl, iteB (fun z => absurd z (by decide +kernel)) (fun _ => ?_)⟩
          refine ⟨_, rfl, _, _, rfl, rfl, _, rfl, iteB (fun _ => ?_) (fun z => absurd (of_decide_eq_false z) (by omega))⟩
          refine ⟨_, rfl, _, _, rfl, rfl, _, rfl, iteB (fun z => absurd z (by decide +kernel)) (fun _ => ?_)⟩
          exact ask _ _ none none none rfl hk1 hp1
        · refine ⟨_, rfl, _, _, rfl, rfl, _, rfl, iteB (fun z => absurd (of_decide_eq_true z) (by omega)) (fun _ => iteF ?_)⟩
          refine ⟨_, rfl, _, _, rfl, rfl, _, rfl, iteB (fun z => absurd (of_decide_eq_true z) (by omega)) (fun _ => iteF ?_)⟩
          refine ⟨_, rfl, _, _, rfl, rfl, _, rfl, iteB (fun z => absurd (of_decide_eq_true z) (by omega)) (fun _ => iteF ?_)⟩
          exact ask _ _ none none none rfl hk1 hp1
      · subst h
        refine ⟨_, rfl, rfl, _, rfl, iteB (fun _ => ?_) (fun z => absurd z (by decide +kernel))⟩
        refine ⟨(by show 1 ≤ sizeLine; decide), fun a H7 s7 n7 pa => ?_⟩
        exact q (.ref a) H7 .rest (hk1.trans (Kept.same s7)) (hp1.same s7) (.rest pa) trivial
      · subst h
        refine ⟨_, rfl, rfl, _, rfl, iteB (fun z => absurd z (by decide +kernel)) (fun _ => ?_)⟩
        refine ⟨_, rfl, rfl, _, rfl, iteB (fun _ => ?_) (fun z => absurd z (by decide +kernel))⟩
        refine ⟨_, rfl, Nat.zero_le _, fun c nc => ?_⟩
        have ecp : c ≠ p := pool_ne hp1 nc
        have hn1 : (upd H p o) n = some (.lst (ns.map V.str)) := hk1 _ _ hn np
        have ecn : n ≠ c := ne_of_none hn1 nc
        have hk2 : Kept p H (upd (upd H p o) c (.lst [])) := hk1.trans (Kept.same (same_upd nc))
        have hp2 : PoolAt (upd (upd H p o) c (.lst [])) p := hp1.upd ecp.symm
        have hn2 := hk2 _ _ hn np
        have f1 : Fine (.list (ns.map PyData.str)) 1 (13 * ns.length) := Fine.list (FineL.strs hno)
        have f2 : Fine (.list []) 1 0 := Fine.list FineL.nil
        refine ⟨_, _, .lst (SqL.of hn2) (dp_strs ns), .lst (SqL.of upd_same) .nil, f1.shaped (by decide), f2.shaped (by decide), _, rfl, ?_⟩
        cases ns with
        | nil =>
          refine iteF ?_
          by_cases hd1 : 1 ≤ d
          · refine ⟨_, rfl, _, _, rfl, rfl, _, rfl, iteB (fun _ => ?_) (fun z => absurd (of_decide_eq_false z) (by omega))⟩
            refine ⟨_, rfl, rfl, _, rfl, iteB (fun z => absurd z (by decide +kernel)) (fun _ => ?_)⟩
            refine ⟨_, rfl, _, _, rfl, rfl, _, rfl, iteB (fun _ => ?_) (fun z => absurd (of_decide_eq_false z) (by omega))⟩
            refine ⟨_, rfl, rfl, _, rfl, iteB (fun z => absurd z (by decide +kernel)) (fun _ => ?_)⟩
            refine ⟨_, rfl, _, _, rfl, rfl, _, rfl, iteB (fun _ => ?_) (fun z => absurd (of_decide_eq_false z) (by omega))⟩
            refine ⟨_, rfl, _, _, rfl, rfl, _, rfl, iteB (fun z => absurd z (by decide +kernel)) (fun _ => ?_)⟩
            exact ask _ _ none none none rfl hk2 hp2
          · refine ⟨_, rfl, _, _, rfl, rfl, _, rfl, iteB (fun z => absurd (of_decide_eq_true z) (by omega)) (fun _ => iteF ?_)⟩
            refine ⟨_, rfl, _, _, rfl, rfl, _, rfl, iteB (fun z => absurd (of_decide_eq_true z) (by omega)) (fun _ => iteF ?_)⟩
            refine ⟨_, rfl, _, _, rfl, rfl, _, rfl, iteB (fun z => absurd (of_decide_eq_true z) (by omega)) (fun _ => iteF ?_)⟩
            exact ask _ _ none none none rfl hk2 hp2
        | cons n0 nr =>
          refine iteT ?_
          refine ⟨_, rfl, _, rfl, _, rfl, n, _, rfl, .inl (SqL.of hn2), p, _, rfl, hp2, ?_, ?_, fun r o2 r0 r1 po2 => ?_⟩
          · rw [List.length_map, List.length_cons]
            omega
          · rw [List.length_map]
            omega
          · rw [List.length_map] at r1
            have hr1 : r.toNat < (n0 :: nr).length := by omega
            have hg : ((n0 :: nr).map V.str)[r.toNat]? = some (.str (n0 :: nr)[r.toNat]) := by
              rw [List.getElem?_map, List.getElem?_eq_getElem hr1]
              rfl
            have hmem : (n0 :: nr)[r.toNat] ∈ (n0 :: nr) := List.getElem_mem hr1
            generalize (n0 :: nr)[r.toNat] = nm at *
            refine ⟨_, _, _, _, rfl, rfl, SqL.of (by rw [upd_ne np]; exact hn2), atI_int r0 hg, ?_⟩
            refine ⟨(by show 2 ≤ sizeLine; decide), fun a H7 s7 n7 pa => ?_⟩
            exact q (.ref a) H7 (.call nm) ((hk2.trans (Kept.upd p _ o2)).trans (Kept.same s7)) (PoolAt.same ⟨o2, upd_same, po2⟩ s7) (.call pa) hmem
      · subst h
        refine ⟨_, rfl, rfl, _, rfl, iteB (fun z => absurd z (by decide +kernel)) (fun _ => ?_)⟩
        refine ⟨_, rfl, rfl, _, rfl, iteB (fun z => absurd z (by decide +kernel)) (fun _ => iteF ?_)⟩
        by_cases hd1 : 1 ≤ d
        · refine ⟨_, rfl, _, _, rfl, rfl, _, rfl, iteB (fun _ => ?_) (fun z => absurd (of_decide_eq_false z) (by omega))⟩
          refine ⟨_, rfl, rfl, _, rfl, iteB (fun _ => ?_) (fun z => absurd z (by decide +kernel))⟩
          refine ⟨_, rfl, p, 3, rfl, hp1, (by decide), (by decide), fun r2 o2 r20 r21 po2 => ?_⟩
          refine ⟨_, _, rfl, rfl, _, rfl, (by omega), (by omega), fun D nD => ?_⟩
          obtain ⟨eDp, nD1⟩ := free_upd nD
          have nD0 : H D = none := hk1.free eDp nD1
          have hk2 := hk1.trans (Kept.upd p _ o2)
          refine lc_range (lo := 0) (n := (1 + r2).toNat) (fun i H2 => ∃ (vs : List V) (ts : List Tm), H2 D = some (.lst vs) ∧ TmL H2 vs ts ∧ ts.length = i ∧ (∀ t ∈ ts, Lv (· ∈ ns) (Few rs) d t) ∧ PoolAt H2 p ∧ Kept p H H2) ?_ ?_ ?_
          · exact ⟨[], [], upd_same, .nil, rfl, fun _ hx => (List.not_mem_nil hx).elim, PoolAt.upd ⟨o2, upd_same, po2⟩ eDp.symm, hk2.set nD0⟩
          · rintro i H2 hi ⟨vs, ts, hD, tl, htl, hts, hpo, hk⟩
            refine ⟨rfl, tyes ?_⟩
            refine ⟨_, rfl, _, rfl, _, _, rfl, rfl, _, rfl, _, rfl, p, n, b, ns, rs, (by show [V.ref p, V.int (((d + 1 : Nat) : Int) - 1), .ref n, .ref b] = _; rw [show ((d + 1 : Nat) : Int) - 1 = (d : Int) by omega]), hpo, np, bp, hk _ _ hn np, hnl, hno, hk _ _ hb bp, nd, hrl, hd1, fun v H3 t k3 hp3 ht hlv => ?_⟩
            have h3 : H3 D = some (.lst vs) := k3 _ _ hD eDp
            have hvl : vs.length = ts.length := tl.len
            refine ⟨vs, h3, small1000 (by omega), vs ++ [v], ts ++ [t], upd_same, ?_, ?_, ?_, hp3.upd eDp.symm, (hk.trans k3).set nD0⟩
            · exact TmL.snoc (ht.keep (KT.upd h3)) (tl.keep ((KT.of k3 hpo).trans (KT.upd h3)))
            · rw [List.length_append, htl]
              rfl
            · intro x hx
              rcases List.mem_append.mp hx with z | z
              · exact hts x z
              · rw [List.mem_singleton.mp z]
                exact hlv
          · rintro H2 ⟨vs, ts, hD, tl, htl, hts, hpo, hk⟩
            refine ⟨D, _, rfl, SqL.of hD, fun u H6 s6 n6 pu => ?_⟩
            refine ⟨(by show 2 ≤ sizeLine; decide), fun a H7 s7 n7 pa => ?_⟩
            exact q (.ref a) H7 (.thn ts) (hk.trans (Kept.same (s6.trans s7))) (hpo.same (s6.trans s7)) (.thn pa (pu.same s7) (tl.keep (KT.same (s6.trans s7)))) ⟨by omega, hts⟩
        · refine ⟨_, rfl, _, _, rfl, rfl, _, rfl, iteB (fun z => absurd (of_decide_eq_true z) (by omega)) (fun _ => iteF ?_)⟩
          refine ⟨_, rfl, _, _, rfl, rfl, _, rfl, iteB (fun z => absurd (of_decide_eq_true z) (by omega)) (fun _ => iteF ?_)⟩
          refine ⟨_, rfl, _, _, rfl, rfl, _, rfl, iteB (fun z => absurd (of_decide_eq_true z) (by omega)) (fun _ => iteF ?_)⟩
          exact ask _ _ none none none rfl hk1 hp1
      · subst h
        refine ⟨_, rfl, rfl, _, rfl, iteB (fun z => absurd z (by decide +kernel)) (fun _ => ?_)⟩
        refine ⟨_, rfl, rfl, _, rfl, iteB (fun z => absurd z (by decide +kernel)) (fun _ => iteF ?_)⟩
        by_cases hd1 : 1 ≤ d
        · refine ⟨_, rfl, _, _, rfl, rfl, _, rfl, iteB (fun _ => ?_) (fun z => absurd (of_decide_eq_false z) (by omega))⟩
          refine ⟨_, rfl, rfl, _, rfl, iteB (fun z => absurd z (by decide +kernel)) (fun _ => ?_)⟩
          refine ⟨_, rfl, _, _, rfl, rfl, _, rfl, iteB (fun _ => ?_) (fun z => absurd (of_decide_eq_false z) (by omega))⟩
          refine ⟨_, rfl, rfl, _, rfl, iteB (fun _ => ?_) (fun z => absurd z (by decide +kernel))⟩
          refine ⟨_, rfl, p, 2, rfl, hp1, (by decide), (by decide), fun r2 o2 r20 r21 po2 => ?_⟩
          refine ⟨_, _, rfl, rfl, _, rfl, (by omega), (by omega), fun D nD => ?_⟩
          obtain ⟨eDp, nD1⟩ := free_upd nD
          have nD0 : H D = none := hk1.free eDp nD1
          have hk2 := hk1.trans (Kept.upd p _ o2)
          refine lc_range (lo := 0) (n := (2 + r2).toNat) (fun i H2 => ∃ (vs : List V) (ts : List Tm), H2 D = some (.lst vs) ∧ TmL H2 vs ts ∧ ts.length = i ∧ (∀ t ∈ ts, Lv (· ∈ ns) (Few rs) d t) ∧ PoolAt H2 p ∧ Kept p H H2) ?_ ?_ ?_
          · exact ⟨[], [], upd_same, .nil, rfl, fun _ hx => (List.not_mem_nil hx).elim, PoolAt.upd ⟨o2, upd_same, po2⟩ eDp.symm, hk2.set nD0⟩
          · rintro i H2 hi ⟨vs, ts, hD, tl, htl, hts, hpo, hk⟩
            refine ⟨rfl, tyes ?_⟩
            refine ⟨_, rfl, _, rfl, _, _, rfl, rfl, _, rfl, _, rfl, p, n, b, ns, rs, (by show [V.ref p, V.int (((d + 1 : Nat) : Int) - 1), .ref n, .ref b] = _; rw [show ((d + 1 : Nat) : Int) - 1 = (d : Int) by omega]), hpo, np, bp, hk _ _ hn np, hnl, hno, hk _ _ hb bp, nd, hrl, hd1, fun v H3 t k3 hp3 ht hlv => ?_⟩
            have h3 : H3 D = some (.lst vs) := k3 _ _ hD eDp
            have hvl : vs.length = ts.length := tl.len
            refine ⟨vs, h3, small1000 (by omega), vs ++ [v], ts ++ [t], upd_same, ?_, ?_, ?_, hp3.upd eDp.symm, (hk.trans k3).set nD0⟩
            · exact TmL.snoc (ht.keep (KT.upd h3)) (tl.keep ((KT.of k3 hpo).trans (KT.upd h3)))
            · rw [List.length_append, htl]
              rfl
            · intro x hx
              rcases List.mem_append.mp hx with z | z
              · exact hts x z
              · rw [List.mem_singleton.mp z]
                exact hlv
          · rintro H2 ⟨vs, ts, hD, tl, htl, hts, hpo, hk⟩
            refine ⟨D, _, rfl, SqL.of hD, fun u H6 s6 n6 pu => ?_⟩
            refine ⟨(by show 2 ≤ sizeLine; decide), fun a H7 s7 n7 pa => ?_⟩
            exact q (.ref a) H7 (.frk ts) (hk.trans (Kept.same (s6.trans s7))) (hpo.same (s6.trans s7)) (.frk pa (pu.same s7) (tl.keep (KT.same (s6.trans s7)))) ⟨by omega, hts⟩
        · refine ⟨_, rfl, _, _, rfl, rfl, _, rfl, iteB (fun z => absurd (of_decide_eq_true z) (by omega)) (fun _ => iteF ?_)⟩
          refine ⟨_, rfl, _, _, rfl, rfl, _, rfl, iteB (fun z => absurd (of_decide_eq_true z) (by omega)) (fun _ => iteF ?_)⟩
          refine ⟨_, rfl, _, _, rfl, rfl, _, rfl, iteB (fun z => absurd (of_decide_eq_true z) (by omega)) (fun _ => iteF ?_)⟩
          exact ask _ _ none none none rfl hk1 hp1
      · subst h
        refine ⟨_, rfl, rfl, _, rfl, iteB (fun z => absurd z (by decide +kernel)) (fun _ => ?_)⟩
        refine ⟨_, rfl, rfl, _, rfl, iteB (fun z => absurd z (by decide +kernel)) (fun _ => iteF ?_)⟩
        by_cases hd1 : 1 ≤ d
        · refine ⟨_, rfl, _, _, rfl, rfl, _, rfl, iteB (fun _ => ?_) (fun z => absurd (of_decide_eq_false z) (by omega))⟩
          refine ⟨_, rfl, rfl, _, rfl, iteB (fun z => absurd z (by decide +kernel)) (fun _ => ?_)⟩
          refine ⟨_, rfl, _, _, rfl, rfl, _, rfl, iteB (fun _ => ?_) (fun z => absurd (of_decide_eq_false z) (by omega))⟩
          refine ⟨_, rfl, rfl, _, rfl, iteB (fun z => absurd z (by decide +kernel)) (fun _ => ?_)⟩
          refine ⟨_, rfl, _, _, rfl, rfl, _, rfl, iteB (fun _ => ?_) (fun z => absurd (of_decide_eq_false z) (by omega))⟩
          refine ⟨_, rfl, _, _, rfl, rfl, _, rfl, iteB (fun _ => ?_) (fun z => absurd z (by decide +kernel))⟩
          refine ⟨_, rfl, p, 3, rfl, hp1, (by decide), (by decide), fun l o2 l0 l1 po2 => ?_⟩
          have hp2 : PoolAt (upd (upd H p o) p o2) p := ⟨o2, upd_same, po2⟩
          refine ⟨_, rfl, _, rfl, _, _, rfl, rfl, _, rfl, _, rfl, p, 3, rfl, hp2, (by decide), (by decide), fun e o3 e0 e1 po3 => ?_⟩
          refine ⟨_, _, rfl, rfl, (by show 4 ≤ sizeLine; decide), fun L nL => ?_⟩
          have hp3 : PoolAt (upd (upd (upd H p o) p o2) p o3) p := ⟨o3, upd_same, po3⟩
          have eLp : L ≠ p := pool_ne hp3 nL
          refine ⟨_, rfl, p, 4, rfl, hp3.upd eLp.symm, (by decide), (by decide), fun j o4 j0 j1 po4 => ?_⟩
          obtain ⟨m, hm, hmk⟩ := most_at (e := e) l0 (by omega) e0 e1 j0 j1
          refine ⟨_, _, _, _, rfl, rfl, SqL.of (by rw [upd_ne eLp, upd_same]), hm, ?_⟩
          have hk3 : Kept p H (upd (upd (upd H p o) p o2) p o3) := (hk1.trans (Kept.upd p _ o2)).trans (Kept.upd p _ o3)
          have hk4 : Kept p H (upd (upd (upd (upd (upd H p o) p o2) p o3) L (.lst [V.non, .int l, .int (l + 1), .int (l + e)])) p o4) := (hk3.trans (Kept.same (same_upd nL))).trans (Kept.upd p _ o4)
          refine ⟨_, rfl, _, rfl, _, rfl, _, rfl, _, _, rfl, rfl, _, rfl, _, rfl, p, n, b, ns, rs, (by show [V.ref p, V.int (((d + 1 : Nat) : Int) - 1), .ref n, .ref b] = _; rw [show ((d + 1 : Nat) : Int) - 1 = (d : Int) by omega]), ⟨o4, upd_same, po4⟩, np, bp, hk4 _ _ hn np, hnl, hno, hk4 _ _ hb bp, nd, hrl, hd1, fun v H6 t k6 hp6 ht hlv => ?_⟩
          refine ⟨(by show 4 ≤ sizeLine; decide), fun a H7 s7 n7 pa => ?_⟩
          exact q (.ref a) H7 (.rnd l m t) ((hk4.trans k6).trans (Kept.same s7)) (hp6.same s7) (.rnd pa (ht.keep (KT.same s7))) ⟨⟨l0, by omega, hmk⟩, hlv⟩
        · refine ⟨_, rfl, _, _, rfl, rfl, _, rfl, iteB (fun z => absurd (of_decide_eq_true z) (by omega)) (fun _ => iteF ?_)⟩
          refine ⟨_, rfl, _, _, rfl, rfl, _, rfl, iteB (fun z => absurd (of_decide_eq_true z) (by omega)) (fun _ => iteF ?_)⟩
          refine ⟨_, rfl, _, _, rfl, rfl, _, rfl, iteB (fun z => absurd (of_decide_eq_true z) (by omega)) (fun _ => iteF ?_)⟩
          exact ask _ _ none none none rfl hk1 hp1
      · subst h
        refine ⟨_, rfl, rfl, _, rfl, iteB (fun z => absurd z (by decide +kernel)) (fun _ => ?_)⟩
        refine ⟨_, rfl, rfl, _, rfl, iteB (fun z => absurd z (by decide +kernel)) (fun _ => iteF ?_)⟩
        by_cases hd1 : 1 ≤ d
        · refine ⟨_, rfl, _, _, rfl, rfl, _, rfl, iteB (fun _ => ?_) (fun z => absurd (of_decide_eq_false z) (by omega))⟩
          refine ⟨_, rfl, rfl, _, rfl, iteB (fun z => absurd z (by decide +kernel)) (fun _ => ?_)⟩
          refine ⟨_, rfl, _, _, rfl, rfl, _, rfl, iteB (fun _ => ?_) (fun z => absurd (of_decide_eq_false z) (by omega))⟩
          refine ⟨_, rfl, rfl, _, rfl, iteB (fun z => absurd z (by decide +kernel)) (fun _ => ?_)⟩
          refine ⟨_, rfl, _, _, rfl, rfl, _, rfl, iteB (fun _ => ?_) (fun z => absurd (of_decide_eq_false z) (by omega))⟩
          refine ⟨_, rfl, _, _, rfl, rfl, _, rfl, iteB (fun _ => ?_) (fun z => absurd z (by decide +kernel))⟩
          refine ⟨_, rfl, p, 3, rfl, hp1, (by decide), (by decide), fun l o2 l0 l1 po2 => ?_⟩
          have hp2 : PoolAt (upd (upd H p o) p o2) p := ⟨o2, upd_same, po2⟩
          refine ⟨_, rfl, _, rfl, _, _, rfl, rfl, _, rfl, _, rfl, p, 3, rfl, hp2, (by decide), (by decide), fun e o3 e0 e1 po3 => ?_⟩
          refine ⟨_, _, rfl, rfl, (by show 4 ≤ sizeLine; decide), fun L nL => ?_⟩
          have hp3 : PoolAt (upd (upd (upd H p o) p o2) p o3) p := ⟨o3, upd_same, po3⟩
          have eLp : L ≠ p := pool_ne hp3 nL
          refine ⟨_, rfl, p, 4, rfl, hp3.upd eLp.symm, (by decide), (by decide), fun j o4 j0 j1 po4 => ?_⟩
          obtain ⟨m, hm, hmk⟩ := most_at (e := e) l0 (by omega) e0 e1 j0 j1
          refine ⟨_, _, _, _, rfl, rfl, SqL.of (by rw [upd_ne eLp, upd_same]), hm, ?_⟩
          have hk3 : Kept p H (upd (upd (upd H p o) p o2) p o3) := (hk1.trans (Kept.upd p _ o2)).trans (Kept.upd p _ o3)
          have hk4 : Kept p H (upd (upd (upd (upd (upd H p o) p o2) p o3) L (.lst [V.non, .int l, .int (l + 1), .int (l + e)])) p o4) := (hk3.trans (Kept.same (same_upd nL))).trans (Kept.upd p _ o4)
          refine ⟨_, rfl, _, rfl, _, rfl, _, rfl, _, _, rfl, rfl, _, rfl, _, rfl, p, n, b, ns, rs, (by show [V.ref p, V.int (((d + 1 : Nat) : Int) - 1), .ref n, .ref b] = _; rw [show ((d + 1 : Nat) : Int) - 1 = (d : Int) by omega]), ⟨o4, upd_same, po4⟩, np, bp, hk4 _ _ hn np, hnl, hno, hk4 _ _ hb bp, nd, hrl, hd1, fun v H6 t k6 hp6 ht hlv => ?_⟩
          refine ⟨(by show 4 ≤ sizeLine; decide), fun a H7 s7 n7 pa => ?_⟩
          exact q (.ref a) H7 (.rnd l m t) ((hk4.trans k6).trans (Kept.same s7)) (hp6.same s7) (.rnd pa (ht.keep (KT.same s7))) ⟨⟨l0, by omega, hmk⟩, hlv⟩
        · refine ⟨_, rfl, _, _, rfl, rfl, _, rfl, iteB (fun z => absurd (of_decide_eq_true z) (by omega)) (fun _ => iteF ?_)⟩
          refine ⟨_, rfl, _, _, rfl, rfl, _, rfl, iteB (fun z => absurd (of_decide_eq_true z) (by omega)) (fun _ => iteF ?_)⟩
          refine ⟨_, rfl, _, _, rfl, rfl, _, rfl, iteB (fun z => absurd (of_decide_eq_true z) (by omega)) (fun _ => iteF ?_)⟩
          exact ask _ _ none none none rfl hk1 hp1
end
end Su
namespace Su
open PySem PySem.Spec PyProof.Rows L2
section
variable {K : PySem.W.Frag} {a : Addr} {xs : List V}
theorem lc_enumS {g : TG} {tt : TT} {te : TE} {vs : List Nat} {σ : L2.St} {H1 : Hp} {D : Addr} {Qd : Hp → Prop} (Pv : Nat → Hp → Prop) (h0 : Pv 0 (upd H1 D (.lst []))) (hl : ∀ i H, i ≤ xs.length → Pv i H → SqL K H a xs)
    (hs : ∀ i x H T, xs[i]? = some x → Pv i H → H T = none → g (.ref T) (wipe σ vs) (upd H T (.tup [.int (i : Nat), x])) fun σ2 H2 => wipe σ2 vs = wipe σ vs ∧ tt σ2 H2 fun b H3 =>
      if b = true then te σ2 H3 fun y H4 => ∃ acc, H4 D = some (.lst acc) ∧ acc.length < sizeLine ∧ Pv (i + 1) (upd H4 D (.lst (acc ++ [y]))) else Pv (i + 1) H3) (hd : ∀ H, Pv xs.length H → Qd H) :
    ∃ W : Nat → Nat → Hp → Prop, (∃ m, W 0 m (upd H1 D (.lst []))) ∧ ∀ i m H, W i m H →
      ((Ite K a).stop i H ∧ Qd H) ∨ ((Ite K a).go i H ∧ ∃ Nx : Hp → Prop, (∀ H', Nx H' → ∃ m', m' < m ∧ W (i + 1) m' H') ∧ ∀ x H', (Ite K a).yld i H x H' → g x (wipe σ vs) H' fun σ2 H2 => wipe σ2 vs = wipe σ vs ∧ tt σ2 H2 fun b H3 =>
        if b = true then te σ2 H3 fun y H4 => ∃ acc, H4 D = some (.lst acc) ∧ acc.length < sizeLine ∧ Nx (upd H4 D (.lst (acc ++ [y]))) else Nx H3) := by
  refine ⟨fun i m H => m = xs.length - i ∧ i ≤ xs.length ∧ Pv i H, ⟨xs.length, (Nat.sub_zero _).symm, Nat.zero_le _, h0⟩, ?_⟩
  rintro i m H ⟨rfl, hi, p⟩
  have q := hl i H hi p
  by_cases hlt : i < xs.length
  · refine .inr ⟨⟨xs, xs[i], q, List.getElem?_eq_getElem hlt⟩, Pv (i + 1), fun H' p' => ⟨xs.length - (i + 1), by omega, rfl, hlt, p'⟩, fun v H' y => ?_⟩
    obtain ⟨T, x, rfl, nT, rfl, y⟩ := y
    exact hs i x H T (y xs q) p nT
  · have e : i = xs.length := by omega
    subst e
    exact .inl ⟨⟨xs, q, Nat.le_refl _⟩, hd H p⟩
theorem for_enumS {g : TG} {tb : TS} {D : Ends} {σ : L2.St} {H : Hp} (Pv : Nat → L2.St → Hp → Prop) (h0 : Pv 0 σ H) (hl : ∀ i σ H, i ≤ xs.length → Pv i σ H → SqL K H a xs)
    (hs : ∀ i x σ H T, xs[i]? = some x → Pv i σ H → H T = none → g (.ref T) σ (upd H T (.tup [.int (i : Nat), x])) fun σ2 H2 => tb { D with nx := Pv (i + 1), ct := Pv (i + 1), bk := D.nx } σ2 H2) (hd : ∀ σ H, Pv xs.length σ H → D.nx σ H) :
    ∃ W : Nat → Nat → L2.St → Hp → Prop, (∃ m, W 0 m σ H) ∧ ∀ i m σ H, W i m σ H →
      ((Ite K a).stop i H ∧ D.nx σ H) ∨ ((Ite K a).go i H ∧ ∃ N : L2.St → Hp → Prop, (∀ σ' H', N σ' H' → ∃ m', m' < m ∧ W (i + 1) m' σ' H') ∧ ∀ v H', (Ite K a).yld i H v H' → g v σ H' fun σ2 H2 => tb { D with nx := N, ct := N, bk := D.nx } σ2 H2) := by
  refine ⟨fun i m σ H => m = xs.length - i ∧ i ≤ xs.length ∧ Pv i σ H, ⟨xs.length, (Nat.sub_zero _).symm, Nat.zero_le _, h0⟩, ?_⟩
  rintro i m σ H ⟨rfl, hi, p⟩
  have q := hl i σ H hi p
  by_cases hlt : i < xs.length
  · refine .inr ⟨⟨xs, xs[i], q, List.getElem?_eq_getElem hlt⟩, Pv (i + 1), fun σ' H' p' => ⟨xs.length - (i + 1), by omega, rfl, hlt, p'⟩, fun v H' y => ?_⟩
    obtain ⟨T, x, rfl, nT, rfl, y⟩ := y
    exact hs i x σ H T (y xs q) p nT
  · have e : i = xs.length := by omega
    subst e
    exact .inl ⟨⟨xs, q, Nat.le_refl _⟩, hd σ H p⟩
end
/-- a program: each name calls only names behind it -/
def PN (S : List Int) (d : Nat) : List (Str × Tm) → Prop
  | [] => True
  | (_, t) :: r => Lv (· ∈ r.map Prod.fst) (Few S) d t ∧ PN S d r
theorem rk_has {D : Nat} {n : Str} : ∀ {ps : List (Str × Tm)}, n ∈ ps.map Prod.fst → HasC (rk D ps) n
  | [], h => (List.not_mem_nil h).elim
  | (m, t) :: r, h => by
    unfold HasC
    show ∃ i, valV (putK (rk D r) (Sum.inr m) _) (Sum.inr n) = some (.int i)
    rw [valV_put]
    by_cases e : (Sum.inr n : Key) = Sum.inr m
    · rw [if_pos e]
      exact ⟨_, rfl⟩
    · rw [if_neg e]
      rcases List.mem_cons.mp h with z | z
      · exact (e (by rw [z])).elim
      · exact rk_has z
theorem PN.po {S : List Int} {d : Nat} : ∀ {ps : List (Str × Tm)}, PN S d ps → PO d ps
  | [], _ => trivial
  | (_, _) :: _, h => ⟨h.1.imp (fun _ z => rk_has z) (fun _ _ => trivial), PN.po h.2⟩
theorem PN.all {S : List Int} {d : Nat} : ∀ {ps : List (Str × Tm)}, PN S d ps → ∀ q ∈ ps, Lv (fun _ => True) (Few S) d q.2
  | (n, t) :: r, h, q, hq => by
    rcases List.mem_cons.mp hq with z | z
    · rw [z]
      exact h.1.imp (fun _ _ => trivial) (fun _ z => z)
    · exact PN.all h.2 q z
theorem PN.of {S : List Int} {d : Nat} : ∀ {ps : List (Str × Tm)}, (∀ k q, ps[k]? = some q → Lv (· ∈ (ps.map Prod.fst).drop (k + 1)) (Few S) d q.2) → PN S d ps
  | [], _ => trivial
  | (n, t) :: r, h => ⟨h 0 (n, t) rfl, PN.of fun k q e => h (k + 1) q e⟩
theorem PrL.snoc {H : Hp} {a : Addr} {u : V} {q : Str × Tm} (p : PTup H a [.str q.1, u]) (t : TmAt H u q.2) : ∀ {vs : List V} {ps : List (Str × Tm)}, PrL H vs ps → PrL H (vs ++ [.ref a]) (ps ++ [q])
  | [], [], _ => ⟨⟨a, u, rfl, p, t⟩, trivial⟩
  | _ :: _, _ :: _, z => ⟨z.1, PrL.snoc p t z.2⟩
  | [], _ :: _, z => z.elim
  | _ :: _, [], z => z.elim
theorem cut_drop {xs : List V} {i : Nat} (h : i + 1 ≤ xs.length) : cutV xs (some ((i : Int) + 1)) none = xs.drop (i + 1) := by
  have e1 : HT.sIx xs.length 0 (some ((i : Int) + 1)) = i + 1 := by
    have z := HT.sIx_nat xs.length 0 (i + 1)
    rw [Int.natCast_add] at z
    have z2 : HT.sIx xs.length 0 (some ((i : Int) + 1)) = min (i + 1) xs.length := z
    rw [z2]
    omega
  unfold cutV
  rw [e1, HT.sIx_none, List.take_of_length_le]
  rw [List.length_drop]
  exact Nat.le_refl _
def spProgram : Sp := fun vs H Q _ => ∃ (p b : Addr) (most : Int) (d : Nat) (rs : List Int), vs = [.ref p, .int most, .int d, .ref b] ∧ PoolAt H p ∧ b ≠ p ∧ H b = some (.lst (rs.map V.int)) ∧ rs.Nodup ∧ rs.length ≤ 1000 ∧ 1 ≤ d ∧ d ≤ 5 ∧ 1 ≤ most ∧ most ≤ 6 ∧
  ∀ (u : Addr) (H' : Hp) (ws : List V) (ps : List (Str × Tm)), H u = none → Kept p H H' → PoolAt H' p → H' u = some (.lst ws) → PrL H' ws ps → PN rs d ps → NamesOk (ps.map Prod.fst) → 1 ≤ ps.length → ps.length ≤ 6 → Q (.ref u) H'
theorem scProgram : FnScope ["_law_pool_here", "_law_most", "_law_deep_here", "_law_some", "_law_names_here", "_law_k", "_law_name"] ["_law_pool_here", "_law_most", "_law_deep_here", "_law_some"] (defScope sProgram) := ⟨rfl, rfl, rfl, by decide +kernel, rfl, by decide +kernel, by decide +kernel⟩
section
variable {P : Program} {w : World} {K : PySem.W.Frag} {mg : Str → Option Value} {base : Heap}
theorem ok_program (T : At K mg "_law_program" sProgram ["_law_pool_here", "_law_most", "_law_deep_here", "_law_some"]) (B : Bt mg) (c_take : Cal P w K mg base 1 "_law_take" ["_law_pool_here", "_law_many"] spTake) (c_names : Cal P w K mg base 2 "_law_names" ["_law_pool_here", "_law_many"] spNames)
    (c_term : ∀ d, Cal P w K mg base (d + 3) "_law_term" ["_law_pool_here", "_law_deep_here", "_law_names_here", "_law_some"] (spTerm d)) : Cal P w K mg base 9 "_law_program" ["_law_pool_here", "_law_most", "_law_deep_here", "_law_some"] spProgram := by
  refine cal_of T scProgram (fun vs H Q E h => ?_) (fun f cdv A outer s H vs Q E hr h => ?_)
  · obtain ⟨p, b, most, d, rs, rfl, _⟩ := h
    rfl
  · obtain ⟨p, b, most, d, rs, rfl, hp, bp, hb, nd, hrl, d1, d5, mo1, mo6, q⟩ := h
    have c_term := c_term d
    refine ⟨_, (pss_cons (ps_set (i := 4) scProgram.nd rfl (Or.inr rfl) (pe_own c_names hr (by omega) (by rfl) (pa_cons (pv 0) (pa_cons (pe_op op_add pe_int (pe_own c_take hr (by omega) (by rfl) (pa_cons (pv 0) (pa_cons (pv 1) pa_nil)))) pa_nil))))
      (pss_one (ps_ret (pe_lc (own := [("_law_k", 5), ("_law_name", 6)]) (g := gTup K 2 (gCons (gName 5) (gCons (gName 6) gNil))) (tt := tYes) (te := (tTupF (tCons (tVar 6) (tCons (tCall (spTerm d) [] E0 (tCons (tVar 0) (tCons (tVar 2) (tCons (tSl (rSlL K) (tVar 4) (tPart _) tNoPart) (tCons (tVar 3) tNil))))) tNil)))) (by rfl) scProgram.nd (pi_enum (by rfl) B.enumerate (pa_cons (pv 4) pa_nil)) (blkOk_by (own := [("_law_k", 5), ("_law_name", 6)]) (N := ["_law_pool_here", "_law_most", "_law_deep_here", "_law_some", "_law_names_here", "_law_k", "_law_name"]) (sc := defScope sProgram) (by decide +kernel)) (fun _ _ _ _ _ => (pg_tup (by rfl) (pgs_cons (pg_name (i := 5) scProgram.nd rfl (Or.inl rfl)) (pgs_cons (pg_name (i := 6) scProgram.nd rfl (Or.inl rfl)) pgs_nil)))) (fun _ _ _ _ _ => pts_nil) (fun _ _ _ _ _ => (pe_tupF (pa_cons (pv 6) (pa_cons (pe_own c_term hr (by omega) (by rfl) (pa_cons (pv 0) (pa_cons (pv 2) (pa_cons (pe_slice sl_list (pv 4) (po_some (pe_op op_add (pv 5) pe_int)) po_none) (pa_cons (pv 3) pa_nil))))) pa_nil)))))))), ?_⟩
    refine ⟨_, rfl, _, rfl, _, rfl, p, most, rfl, hp, mo1, (by omega), fun r o r0 r1 po => ?_⟩
    have hk1 : Kept p H (upd H p o) := Kept.upd p H o
    refine ⟨_, _, rfl, rfl, p, _, rfl, ⟨o, upd_same, po⟩, (by omega), (by omega), fun N H1 ns nN k1 hp1 hN hno hnl => ?_⟩
    have eNp : N ≠ p := (free_upd nN).1
    have nN0 : H N = none := (free_upd nN).2
    have hk2 := hk1.trans k1
    have hb1 : H1 b = some (.lst (rs.map V.int)) := hk2 _ _ hb bp
    refine ⟨_, rfl, N, _, rfl, SqL.of hN, fun D nD => ?_⟩
    have eDp : D ≠ p := pool_ne hp1 nD
    have eDN : N ≠ D := ne_of_none hN nD
    have nD0 : H D = none := hk2.free eDp nD
    refine lc_enumS (K := K) (a := N) (xs := ns.map V.str) (fun i H2 => ∃ (ws : List V) (ps : List (Str × Tm)), H2 D = some (.lst ws) ∧ PrL H2 ws ps ∧ ps.map Prod.fst = ns.take i ∧ (∀ k q, ps[k]? = some q → Lv (· ∈ ns.drop (k + 1)) (Few rs) d q.2) ∧ H2 N = some (.lst (ns.map V.str)) ∧ PoolAt H2 p ∧ Kept p H H2) ?_ ?_ ?_ ?_
    · exact ⟨[], [], upd_same, trivial, rfl, fun k q e => by simp at e, (by rw [upd_ne eDN]; exact hN), hp1.upd eDp.symm, hk2.set nD0⟩
    · rintro i H2 _ ⟨_, _, _, _, _, _, h, _, _⟩
      exact SqL.of h
    · rintro i x H2 T hx ⟨ws, ps, hD, pr, hpf, hps, hN2, hpo, hk⟩ nT
      have hil : i < ns.length := by
        have z := (List.getElem?_eq_some_iff.mp hx).1
        rwa [List.length_map] at z
      obtain ⟨nm, hnm, rfl⟩ : ∃ nm, ns[i]? = some nm ∧ x = .str nm := by
        rw [List.getElem?_map, List.getElem?_eq_getElem hil] at hx
        exact ⟨_, List.getElem?_eq_getElem hil, by injection hx with hx; exact hx.symm⟩
      have sT : Same H2 (upd H2 T (.tup [.int (i : Nat), .str nm])) := same_upd nT
      refine ⟨T, _, rfl, SqT.of upd_same, rfl, _, _, rfl, _, _, rfl, rfl, rfl, tyes ?_⟩
      refine ⟨_, rfl, _, rfl, _, rfl, _, rfl, _, rfl, _, _, rfl, rfl, _, rfl, N, _, rfl, SqL.of (sT _ _ hN2), fun L nL => ?_⟩
      rw [cut_drop (by rw [List.length_map]; omega), ← List.map_drop]
      generalize hH3 : upd H2 T (.tup [.int (i : Nat), .str nm]) = H3 at *
      have hpo3 : PoolAt H3 p := hpo.same sT
      have eLp : L ≠ p := pool_ne hpo3 nL
      have sL : Same H3 (upd H3 L (.lst ((ns.drop (i + 1)).map V.str))) := same_upd nL
      have hk4 : Kept p H (upd H3 L (.lst ((ns.drop (i + 1)).map V.str))) := hk.trans (Kept.same (sT.trans sL))
      refine ⟨_, rfl, p, L, b, ns.drop (i + 1), rs, rfl, hpo3.upd eLp.symm, eLp, bp, upd_same, ?_, ?_, hk4 _ _ hb bp, nd, hrl, d1, fun v H5 t k5 hp5 ht hlv => ?_⟩
      · rw [List.length_drop]
        omega
      · intro y hy
        exact hno y (List.mem_of_mem_drop hy)
      · refine ⟨(by show 2 ≤ sizeLine; decide), fun a H6 s6 n6 pa => ?_⟩
        have hpl : ws.length = ps.length := pr.len
        have hpl2 : ps.length = i := by
          have z := congrArg List.length hpf
          rw [List.length_map, List.length_take] at z
          omega
        have k26 : Kept p H2 H6 := ((Kept.same (sT.trans sL)).trans k5).trans (Kept.same s6)
        have h6 : H6 D = some (.lst ws) := k26 _ _ hD eDp
        refine ⟨ws, h6, small1000 (by omega), ws ++ [.ref a], ps ++ [(nm, t)], upd_same, ?_, ?_, ?_, ?_, (hp5.same s6).upd eDp.symm, (hk.trans k26).set nD0⟩
        · refine PrL.snoc (q := (nm, t)) (KT.upd h6 _ _ pa) ((ht.keep (KT.same s6)).keep (KT.upd h6)) (pr.keep ((KT.of k26 hpo).trans (KT.upd h6)))
        · rw [List.map_append, hpf, List.take_add_one, hnm]
          rfl
        · intro k q0 e
          rcases Nat.lt_or_ge k ps.length with z | z
          · rw [List.getElem?_append_left z] at e
            exact hps k q0 e
          · rw [List.getElem?_append_right z] at e
            have ek : k = ps.length := by
              have := (List.getElem?_eq_some_iff.mp e).1
              rw [List.length_singleton] at this
              omega
            subst ek
            rw [Nat.sub_self] at e
            have e2 : (nm, t) = q0 := by simpa using e
            subst e2
            rw [hpl2]
            exact hlv
        · rw [upd_ne eDN]
          exact k26 _ _ hN2 eNp
    · rintro H2 ⟨ws, ps, hD, pr, hpf, hps, hN2, hpo, hk⟩
      rw [List.length_map, List.take_length] at hpf
      have hpl : ps.length = ns.length := by rw [← hpf, List.length_map]
      refine q D H2 ws ps nD0 hk hpo hD pr (PN.of ?_) ?_ ?_ ?_
      · rw [hpf]
        exact hps
      · rw [hpf]
        exact hno
      · omega
      · omega
end
end Su
namespace Su
open PySem PySem.Spec PyProof.Rows L2
theorem two_at {j : Int} (j0 : 0 ≤ j) (j1 : j < 2) : ∃ m : Option Int, atI [V.int 12, .non] j = some (mostV m) ∧ ∀ k, m = some k → 0 ≤ k ∧ k ≤ 100 := by
  obtain h | h : j = 0 ∨ j = 1 := by omega
  · subst h
    exact ⟨some 12, rfl, fun k z => by cases z; omega⟩
  · subst h
    exact ⟨none, rfl, fun k z => nomatch z⟩
def spDeep : Sp := fun vs H Q _ => ∃ (p : Addr), vs = [.ref p] ∧ PoolAt H p ∧
  ∀ (u : Addr) (H' : Hp) (ws : List V) (ps : List (Str × Tm)), H u = none → Kept p H H' → PoolAt H' p → H' u = some (.lst ws) → PrL H' ws ps → PN [7] 3 ps → NamesOk (ps.map Prod.fst) → ps.length = 8 → Q (.ref u) H'
theorem scDeep : FnScope ["_law_pool_here", "_law_names_here", "_law_found", "_law_k", "_law_name", "_law_inner"] ["_law_pool_here"] (defScope sDeep) := ⟨rfl, rfl, rfl, by decide +kernel, rfl, by decide +kernel, by decide +kernel⟩
section
variable {P : Program} {w : World} {K : PySem.W.Frag} {mg : Str → Option Value} {base : Heap}
theorem ok_deep (T : At K mg "_law_deep" sDeep ["_law_pool_here"]) (B : Bt mg) (c_take : Cal P w K mg base 1 "_law_take" ["_law_pool_here", "_law_many"] spTake) (c_names : Cal P w K mg base 2 "_law_names" ["_law_pool_here", "_law_many"] spNames) :
    Cal P w K mg base 3 "_law_deep" ["_law_pool_here"] spDeep := by
  refine cal_of T scDeep (fun vs H Q E h => ?_) (fun f cdv A outer s H vs Q E hr h => ?_)
  · obtain ⟨p, rfl, _⟩ := h
    rfl
  · obtain ⟨p, rfl, hp, q⟩ := h
    refine ⟨_, (pss_cons (ps_set (i := 1) scDeep.nd rfl (Or.inl rfl) (pe_own c_names hr (by omega) (by rfl) (pa_cons (pv 0) (pa_cons pe_int pa_nil))))
      (pss_cons (ps_set (i := 2) scDeep.nd rfl (Or.inl rfl) (pe_lst pa_nil))
      (pss_cons (ps_for PassesOwn.never rfl (pi_enum (by rfl) B.enumerate (pa_cons (pv 1) pa_nil)) (pg_tup (by rfl) (pgs_cons (pg_name (i := 3) scDeep.nd rfl (Or.inl rfl)) (pgs_cons (pg_name (i := 4) scDeep.nd rfl (Or.inl rfl)) pgs_nil))) (pss_cons (ps_set (i := 5) scDeep.nd rfl (Or.inl rfl) (pe_tupF (pa_cons pe_str (pa_cons (pe_tupF (pa_cons (pv 3) pa_nil)) pa_nil))))
      (pss_cons (ps_if (pt_cmpR op_lt (pv 3) pe_int (nomark _)) (pss_one (ps_set (i := 5) scDeep.nd rfl (Or.inl rfl) (pe_tupF (pa_cons pe_str (pa_cons (pe_ix ix_list (pv 1) (pe_op op_add (pv 3) pe_int) (fun _ _ => rfl)) pa_nil))))) pss_nil)
      (pss_one (ps_expr (pe_bm PySem.F.plainAttrs_list PySem.F.slot_list_append PySem.F.type_list_append mt_append (pv 2) (pa_cons (pe_tupF (pa_cons (pv 4) (pa_cons (pe_tupF (pa_cons pe_str (pa_cons (pe_own c_take hr (by omega) (by rfl) (pa_cons (pv 0) (pa_cons pe_int pa_nil))) (pa_cons (pe_ix ix_list (pe_lst (pa_cons pe_int (pa_cons pe_non pa_nil))) (pe_own c_take hr (by omega) (by rfl) (pa_cons (pv 0) (pa_cons pe_int pa_nil))) (fun _ _ => rfl)) (pa_cons (pe_tupF (pa_cons pe_str (pa_cons (pe_tupF (pa_cons (pv 5) (pa_cons (pv 5) pa_nil))) pa_nil))) pa_nil))))) pa_nil))) pa_nil)))))))
      (pss_one (ps_ret (pv 2)))))), ?_⟩
    refine ⟨_, rfl, p, 8, rfl, hp, (by omega), (by omega), fun N H1 ns nN k1 hp1 hN hno hnl => ?_⟩
    have eNp : N ≠ p := pool_ne hp nN
    refine ⟨Nat.zero_le _, fun F nF => ?_⟩
    have eFp : F ≠ p := pool_ne hp1 nF
    have eFN : N ≠ F := ne_of_none hN nF
    have nF0 : H F = none := k1.free eFp nF
    have hnl8 : ns.length = 8 := hnl
    refine ⟨_, rfl, N, _, rfl, SqL.of (by rw [upd_ne eFN]; exact hN), ?_⟩
    refine for_enumS (K := K) (a := N) (xs := ns.map V.str) (fun i σ H2 => ∃ (y3 y4 y5 : Option V) (ws : List V) (ps : List (Str × Tm)), σ = [some (.ref p), some (.ref N), some (.ref F), y3, y4, y5] ∧ H2 F = some (.lst ws) ∧ PrL H2 ws ps ∧ ps.map Prod.fst = ns.take i ∧ (∀ k q, ps[k]? = some q → Lv (· ∈ ns.drop (k + 1)) (Few [7]) 3 q.2) ∧ H2 N = some (.lst (ns.map V.str)) ∧ PoolAt H2 p ∧ Kept p H H2) ?_ ?_ ?_ ?_
    · exact ⟨none, none, none, [], [], rfl, upd_same, trivial, rfl, fun k q e => by simp at e, (by rw [upd_ne eFN]; exact hN), hp1.upd eFp.symm, k1.set nF0⟩
    · rintro i σ H2 _ ⟨_, _, _, _, _, _, _, _, _, _, h, _, _⟩
      exact SqL.of h
    · rintro i x σ H2 T hx ⟨y3, y4, y5, ws, ps, rfl, hD, pr, hpf, hps, hN2, hpo, hk⟩ nT
      have hil : i < ns.length := by
        have z := (List.getElem?_eq_some_iff.mp hx).1
        rwa [List.length_map] at z
      obtain ⟨nm, hnm, rfl⟩ : ∃ nm, ns[i]? = some nm ∧ x = .str nm := by
        rw [List.getElem?_map, List.getElem?_eq_getElem hil] at hx
        exact ⟨_, List.getElem?_eq_getElem hil, by injection hx with hx; exact hx.symm⟩
      have sT : Same H2 (upd H2 T (.tup [.int (i : Nat), .str nm])) := same_upd nT
      refine ⟨T, _, rfl, SqT.of upd_same, rfl, _, _, rfl, _, _, rfl, rfl, ?_⟩
      have hpl : ws.length = ps.length := pr.len
      have hpl2 : ps.length = i := by
        have z := congrArg List.length hpf
        rw [List.length_map, List.length_take] at z
        omega
      have fin : ∀ (v : V) (t : Tm) (H4 : Hp) (Dd : Ends), (∀ σ H5, (∃ (y3 y4 y5 : Option V) (ws : List V) (ps : List (Str × Tm)), σ = [some (.ref p), some (.ref N), some (.ref F), y3, y4, y5] ∧ H5 F = some (.lst ws) ∧ PrL H5 ws ps ∧ ps.map Prod.fst = ns.take (i + 1) ∧ (∀ k q, ps[k]? = some q → Lv (· ∈ ns.drop (k + 1)) (Few [7]) 3 q.2) ∧ H5 N = some (.lst (ns.map V.str)) ∧ PoolAt H5 p ∧ Kept p H H5) → Dd.nx σ H5) → TmAt H4 v t → Lv (· ∈ ns.drop (i + 1)) (Few [7]) 1 t → Same H2 H4 →
          tDrop (tBM K "list" rAppend (tVar 2) (tCons (tTupF (tCons (tVar 4) (tCons (tTupF (tCons (tC (.str "round")) (tCons (tCall spTake [] E0 (tCons (tVar 0) (tCons (tC (.int 13)) tNil))) (tCons (tOp (rIxL K) (tLst (tCons (tC (.int 12)) (tCons (tC .non) tNil))) (tCall spTake [] E0 (tCons (tVar 0) (tCons (tC (.int 2)) tNil)))) (tCons (tTupF (tCons (tC (.str "then")) (tCons (tTupF (tCons (tVar 5) (tCons (tVar 5) tNil))) tNil))) tNil))))) tNil))) tNil)) Dd [some (.ref p), some (.ref N), some (.ref F), some (.int (i : Nat)), some (.str nm), some v] H4 := by
        intro v t H4 Dd hDd htv hlv s4
        have hF4 := s4 _ _ hD
        have hpo4 := hpo.same s4
        refine ⟨_, rfl, .inl ⟨rfl, _, SqL.of hF4⟩, _, rfl, _, rfl, p, 13, rfl, hpo4, (by decide), (by decide), fun l o l0 l1 po => ?_⟩
        refine ⟨(by show 2 ≤ sizeLine; decide), fun L nL => ?_⟩
        have hp5 : PoolAt (upd H4 p o) p := ⟨o, upd_same, po⟩
        have eLp : L ≠ p := pool_ne hp5 nL
        refine ⟨_, rfl, p, 2, rfl, hp5.upd eLp.symm, (by decide), (by decide), fun j o2 j0 j1 po2 => ?_⟩
        obtain ⟨m, hm, hmk⟩ := two_at j0 j1
        refine ⟨_, _, _, _, rfl, rfl, SqL.of (by rw [upd_ne eLp, upd_same]), hm, ?_⟩
        have k6 : Kept p H4 (upd (upd (upd H4 p o) L (.lst [V.int 12, .non])) p o2) := ((Kept.upd p H4 o).trans (Kept.same (same_upd nL))).trans (Kept.upd p _ o2)
        have hp6 : PoolAt (upd (upd (upd H4 p o) L (.lst [V.int 12, .non])) p o2) p := ⟨o2, upd_same, po2⟩
        generalize upd (upd (upd H4 p o) L (.lst [V.int 12, .non])) p o2 = H6 at *
        have ht6 : TmAt H6 v t := htv.keep (KT.of k6 hpo4)
        refine ⟨_, rfl, _, rfl, (by show 2 ≤ sizeLine; decide), fun c3 H7 s7 n7 p7 => ?_⟩
        refine ⟨(by show 2 ≤ sizeLine; decide), fun c4 H8 s8 n8 p8 => ?_⟩
        refine ⟨(by show 4 ≤ sizeLine; decide), fun c5 H9 s9 n9 p9 => ?_⟩
        refine ⟨(by show 2 ≤ sizeLine; decide), fun c6 H10 s10 n10 p10 => ?_⟩
        have k10 : Kept p H2 H10 := ((Kept.same s4).trans k6).trans (Kept.same (((s7.trans s8).trans s9).trans s10))
        have hF10 : H10 F = some (.lst ws) := k10 _ _ hD eFp
        refine ⟨F, _, _, rfl, rfl, hF10, small1000 (by omega), ?_⟩
        have t10 : TmAt H10 (.ref c5) (.rnd l m (.thn [t, t])) := by
          refine .rnd (p9.same s10) (.thn (p8.same (s9.trans s10)) (p7.same ((s8.trans s9).trans s10)) ?_)
          have z := ht6.keep (KT.same (((s7.trans s8).trans s9).trans s10))
          exact .cons z (.cons z .nil)
        refine hDd _ _ ⟨_, _, _, ws ++ [.ref c6], ps ++ [(nm, .rnd l m (.thn [t, t]))], rfl, upd_same, ?_, ?_, ?_, ?_, ?_, (hk.trans k10).set nF0⟩
        · exact PrL.snoc (q := (nm, .rnd l m (.thn [t, t]))) (KT.upd hF10 _ _ p10) (t10.keep (KT.upd hF10)) (pr.keep ((KT.of k10 hpo).trans (KT.upd hF10)))
        · rw [List.map_append, hpf, List.take_add_one, hnm]
          rfl
        · intro k q0 e
          rcases Nat.lt_or_ge k ps.length with z | z
          · rw [List.getElem?_append_left z] at e
            exact hps k q0 e
          · rw [List.getElem?_append_right z] at e
            have ek : k = ps.length := by
              have := (List.getElem?_eq_some_iff.mp e).1
              rw [List.length_singleton] at this
              omega
            subst ek
            rw [Nat.sub_self] at e
            have e2 : (nm, Tm.rnd l m (.thn [t, t])) = q0 := by simpa using e
            subst e2
            rw [hpl2]
            refine ⟨⟨l0, by omega, hmk⟩, (by show 2 ≤ 3; decide), fun x hx => ?_⟩
            have ex : x = t := by
              rcases List.mem_cons.mp hx with z | z
              · exact z
              · exact List.mem_singleton.mp z
            rw [ex]
            exact hlv
        · rw [upd_ne eFN]
          exact k10 _ _ hN2 eNp
        · exact (hp6.same (((s7.trans s8).trans s9).trans s10)).upd eFp.symm
      refine ⟨_, rfl, (by show 1 ≤ sizeLine; decide), fun c1 Ha sa na pc => ?_⟩
      refine ⟨(by show 2 ≤ sizeLine; decide), fun c2 Hb sb nb pd => ?_⟩
      have sTb : Same H2 Hb := sT.trans (sa.trans sb)
      refine ⟨_, rfl, _, _, rfl, rfl, _, rfl, iteB (fun z => ?_) (fun z => ?_)⟩
      · have z2 : (i : Int) < 7 := of_decide_eq_true z
        have hi1 : i + 1 < ns.length := by omega
        have hg : (ns.map V.str)[i + 1]? = some (.str ns[i + 1]) := by
          rw [List.getElem?_map, List.getElem?_eq_getElem hi1]
          rfl
        have hmem : ns[i + 1] ∈ ns.drop (i + 1) := by
          rw [List.drop_eq_getElem_cons hi1]
          exact List.mem_cons_self
        generalize ns[i + 1] = n1 at *
        refine ⟨_, rfl, _, rfl, _, _, rfl, rfl, _, _, _, _, rfl, rfl, SqL.of (sTb _ _ hN2), atI_int (by omega) (by rw [show ((i : Int) + 1).toNat = i + 1 by omega]; exact hg), ?_⟩
        refine ⟨(by show 2 ≤ sizeLine; decide), fun c7 Hc sc nc pe => ?_⟩
        exact fin _ (.call n1) Hc _ (fun _ _ h => h) (.call pe) hmem (sTb.trans sc)
      · have z2 : ¬ (i : Int) < 7 := of_decide_eq_false z
        have hi7 : i = 7 := by omega
        refine fin _ (.ask [(i : Int)]) Hb _ (fun _ _ h => h) (.ask pd (pc.same sb)) ⟨by show 1 ≤ 3; decide, fun k hk => ?_⟩ sTb
        rw [List.mem_singleton.mp hk, hi7]
        exact List.mem_singleton.mpr rfl
    · rintro σ H2 ⟨y3, y4, y5, ws, ps, rfl, hD, pr, hpf, hps, hN2, hpo, hk⟩
      rw [List.length_map, List.take_length] at hpf
      have hpl : ps.length = ns.length := by rw [← hpf, List.length_map]
      refine ⟨_, rfl, q F H2 ws ps nF0 hk hpo hD pr (PN.of ?_) ?_ ?_⟩
      · rw [hpf]
        exact hps
      · rw [hpf]
        exact hno
      · omega
end
end Su
namespace Su
open PySem PySem.Spec PyProof.Rows L2
def mostD : Option Int → PyData
  | none => .none
  | some k => .int k
def tmD : Nat → Tm → PyData
  | 0, _ => .none
  | _ + 1, .ask rs => .tuple [.str "ask", .tuple (rs.map PyData.int)]
  | _ + 1, .rest => .tuple [.str "rest"]
  | d + 1, .thn ts => .tuple [.str "then", .tuple (ts.map (tmD d))]
  | d + 1, .frk ts => .tuple [.str "fork", .tuple (ts.map (tmD d))]
  | d + 1, .rnd l m t => .tuple [.str "round", .int l, mostD m, tmD d t]
  | _ + 1, .call n => .tuple [.str "call", .str n]
def wd : Nat → Nat
  | 0 => 0
  | d + 1 => 200 + 4 * wd d
theorem dp_intsS {K : PySem.W.Frag} {H : Hp} : ∀ ns : List Int, DpAll K H (ns.map V.int) (ns.map PyData.int)
  | [] => .nil
  | n :: ns => .cons (.int n) (dp_intsS ns)
theorem dp_most {K : PySem.W.Frag} {H : Hp} : ∀ m : Option Int, Dp K H (mostV m) (mostD m)
  | none => .non
  | some k => .int k
mutual
theorem tm_dp {K : PySem.W.Frag} {H : Hp} {C : Str → Prop} {R : List Int → Prop} : ∀ {v : V} {t : Tm} (d : Nat), TmAt H v t → Lv C R d t → Dp K H v (tmD d t)
  | _, _, 0, _, hl => hl.elim
  | _, _, d + 1, .ask e r, hl => .tup e.sq (.cons (.str _) (.cons (.tup r.sq (dp_intsS _)) .nil))
  | _, _, d + 1, .rest e, hl => .tup e.sq (.cons (.str _) .nil)
  | _, _, d + 1, .thn e r t, hl => .tup e.sq (.cons (.str _) (.cons (.tup r.sq (tm_dpL d t hl.2)) .nil))
  | _, _, d + 1, .frk e r t, hl => .tup e.sq (.cons (.str _) (.cons (.tup r.sq (tm_dpL d t hl.2)) .nil))
  | _, _, d + 1, .rnd e r, hl => .tup e.sq (.cons (.str _) (.cons (.int _) (.cons (dp_most _) (.cons (tm_dp d r hl.2) .nil))))
  | _, _, d + 1, .call e, hl => .tup e.sq (.cons (.str _) (.cons (.str _) .nil))
theorem tm_dpL {K : PySem.W.Frag} {H : Hp} {C : Str → Prop} {R : List Int → Prop} : ∀ {vs : List V} {ts : List Tm} (d : Nat), TmL H vs ts → (∀ t ∈ ts, Lv C R d t) → DpAll K H vs (ts.map (tmD d))
  | _, _, d, .nil, _ => .nil
  | _, _, d, .cons h r, hl => .cons (tm_dp d h (hl _ List.mem_cons_self)) (tm_dpL d r fun x hx => hl x (List.mem_cons_of_mem _ hx))
end
theorem FineL.up {ds : List PyData} {n m n' m' : Nat} (h : FineL ds n m) (a : n ≤ n') (b : m ≤ m') : FineL ds n' m' := ⟨h.sh, h.nd, Nat.le_trans h.dp a, h.lv, Nat.le_trans h.wt b, h.cl⟩
theorem word_ok {s : Str} (h : s.cps.size ≤ 12 := by decide +kernel) (h2 : ∀ c ∈ s.cps.toList, c < 1000 := by decide +kernel) : NameOk s := ⟨h, h2⟩
theorem most_fine {m : Option Int} (h : ∀ k, m = some k → 0 ≤ k ∧ k ≤ 100) : Fine (mostD m) 0 40 := by
  cases m with
  | none => exact Fine.none.up (Nat.le_refl _) (by omega)
  | some k =>
    have z := h k rfl
    exact Fine.int (by omega) (by omega)
theorem tm_fine {C : Str → Prop} {S : List Int} (hC : ∀ n, C n → NameOk n) (hS : ∀ k ∈ S, 0 ≤ k ∧ k < 100) : ∀ (d : Nat) (t : Tm), Lv C (Few S) d t → Fine (tmD d t) (2 * d) (wd d)
  | 0, _, hl => hl.elim
  | d + 1, .ask rs, hl => by
    have z := FineL.ints rs fun k hk => by
      have := hS k (hl.2 k hk)
      omega
    have z2 := FineL.cons ((Fine.str (s := "ask") word_ok).up (Nat.zero_le 1) (Nat.le_refl _)) (FineL.cons (Fine.tuple z) FineL.nil)
    have h3 := hl.1
    exact (Fine.tuple z2).up (by omega) (by show _ ≤ 200 + 4 * wd d; omega)
  | d + 1, .rest, hl => by
    have z2 := FineL.cons (n := 0) (Fine.str (s := "rest") word_ok) FineL.nil
    exact (Fine.tuple z2).up (by omega) (by show _ ≤ 200 + 4 * wd d; omega)
  | d + 1, .call nm, hl => by
    have z2 := FineL.cons (n := 0) (Fine.str (s := "call") word_ok) (FineL.cons (Fine.str (hC nm hl)) FineL.nil)
    exact (Fine.tuple z2).up (by omega) (by show _ ≤ 200 + 4 * wd d; omega)
  | d + 1, .rnd l m t, hl => by
    have hm := most_fine hl.1.2.2
    have h0 := hl.1.1
    have h1 := hl.1.2.1
    have zt := tm_fine hC hS d t hl.2
    have z2 := FineL.cons ((Fine.str (s := "round") word_ok).up (Nat.zero_le (2 * d)) (Nat.le_refl _)) (FineL.cons ((Fine.int (i := l) (by omega) (by omega)).up (Nat.zero_le _) (Nat.le_refl _)) (FineL.cons (hm.up (Nat.zero_le _) (Nat.le_refl _)) (FineL.cons zt FineL.nil)))
    exact (Fine.tuple z2).up (by omega) (by show _ ≤ 200 + 4 * wd d; omega)
  | d + 1, .thn ts, hl => by
    have zl : ∀ xs : List Tm, (∀ x ∈ xs, Lv C (Few S) d x) → FineL (xs.map (tmD d)) (2 * d) (xs.length * (wd d + 1)) := by
      intro xs
      induction xs with
      | nil => exact fun _ => FineL.nil.up (Nat.le_refl _) (Nat.zero_le _)
      | cons x xs ih =>
        intro h
        have z := FineL.cons (tm_fine hC hS d x (h x List.mem_cons_self)) (ih fun y hy => h y (List.mem_cons_of_mem _ hy))
        exact z.up (Nat.le_refl _) (by rw [List.length_cons, Nat.succ_mul]; omega)
    have z1 := zl ts hl.2
    have h3 : ts.length * (wd d + 1) ≤ 3 * (wd d + 1) := Nat.mul_le_mul_right _ hl.1
    have z2 := FineL.cons ((Fine.str (s := "then") word_ok).up (Nat.zero_le (2 * d + 1)) (Nat.le_refl _)) (FineL.cons (Fine.tuple z1) FineL.nil)
    exact (Fine.tuple z2).up (by omega) (by show _ ≤ 200 + 4 * wd d; omega)
  | d + 1, .frk ts, hl => by
    have zl : ∀ xs : List Tm, (∀ x ∈ xs, Lv C (Few S) d x) → FineL (xs.map (tmD d)) (2 * d) (xs.length * (wd d + 1)) := by
      intro xs
      induction xs with
      | nil => exact fun _ => FineL.nil.up (Nat.le_refl _) (Nat.zero_le _)
      | cons x xs ih =>
        intro h
        have z := FineL.cons (tm_fine hC hS d x (h x List.mem_cons_self)) (ih fun y hy => h y (List.mem_cons_of_mem _ hy))
        exact z.up (Nat.le_refl _) (by rw [List.length_cons, Nat.succ_mul]; omega)
    have z1 := zl ts hl.2
    have h3 : ts.length * (wd d + 1) ≤ 3 * (wd d + 1) := Nat.mul_le_mul_right _ hl.1
    have z2 := FineL.cons ((Fine.str (s := "fork") word_ok).up (Nat.zero_le (2 * d + 1)) (Nat.le_refl _)) (FineL.cons (Fine.tuple z1) FineL.nil)
    exact (Fine.tuple z2).up (by omega) (by show _ ≤ 200 + 4 * wd d; omega)
def prD (d : Nat) (ps : List (Str × Tm)) : List PyData := ps.map fun q => .tuple [.str q.1, tmD d q.2]
theorem pr_dp {K : PySem.W.Frag} {H : Hp} {S : List Int} {d : Nat} : ∀ {ws : List V} {ps : List (Str × Tm)}, PrL H ws ps → PN S d ps → DpAll K H ws (prD d ps)
  | [], [], _, _ => .nil
  | w :: ws, (n, t) :: ps, h, hn => by
    obtain ⟨⟨a, u, rfl, pa, tu⟩, r⟩ := h
    exact .cons (.tup pa.sq (.cons (.str _) (.cons (tm_dp d tu hn.1) .nil))) (pr_dp r hn.2)
  | [], _ :: _, h, _ => h.elim
  | _ :: _, [], h, _ => h.elim
theorem pr_fine {S : List Int} {d : Nat} (hS : ∀ k ∈ S, 0 ≤ k ∧ k < 100) : ∀ {ps : List (Str × Tm)}, PN S d ps → NamesOk (ps.map Prod.fst) → FineL (prD d ps) (2 * d + 1) (ps.length * (wd d + 20))
  | [], _, _ => FineL.nil.up (Nat.zero_le _) (Nat.zero_le _)
  | (n, t) :: ps, h, hn => by
    have hr : NamesOk (ps.map Prod.fst) := fun x hx => hn x (List.mem_cons_of_mem _ hx)
    have z := pr_fine hS h.2 hr
    have zt := tm_fine (fun x hx => hr x hx) hS d t h.1
    have zn := (Fine.str (hn n List.mem_cons_self)).up (Nat.zero_le (2 * d)) (Nat.le_refl _)
    have z2 := FineL.cons (Fine.tuple (FineL.cons zn (FineL.cons zt FineL.nil))) z
    exact z2.up (Nat.le_refl _) (by rw [List.length_cons, Nat.succ_mul]; omega)
end Su
namespace Su
open PySem PySem.Spec PyProof.Rows L2
def spLaw (K : PySem.W.Frag) : Sp := fun vs H Q _ => ∃ (a : Addr) (ns : List Int), vs = [.ref a] ∧ SqL K H a (ns.map V.int) ∧ ns.length ≤ 63 ∧ ∀ H', Q (.bl true) H'
theorem Lv.mono {C : Str → Prop} {R : List Int → Prop} : ∀ {d e : Nat} {t : Tm}, d ≤ e → Lv C R d t → Lv C R e t
  | 0, _, _, _, h => h.elim
  | _ + 1, 0, _, he, _ => absurd he (by omega)
  | d + 1, e + 1, .ask rs, he, h => h
  | d + 1, e + 1, .rest, he, h => h
  | d + 1, e + 1, .call _, he, h => h
  | d + 1, e + 1, .thn ts, he, h => ⟨h.1, fun t ht => Lv.mono (by omega) (h.2 t ht)⟩
  | d + 1, e + 1, .frk ts, he, h => ⟨h.1, fun t ht => Lv.mono (by omega) (h.2 t ht)⟩
  | d + 1, e + 1, .rnd l m t, he, h => ⟨h.1, Lv.mono (by omega) h.2⟩
theorem PN.mono {S : List Int} {d e : Nat} (he : d ≤ e) : ∀ {ps : List (Str × Tm)}, PN S d ps → PN S e ps
  | [], _ => trivial
  | (_, _) :: _, h => ⟨Lv.mono he h.1, PN.mono he h.2⟩
theorem PN.last {S : List Int} {d : Nat} : ∀ {ps : List (Str × Tm)} {q : Str × Tm}, PN S d (ps ++ [q]) → Lv (fun _ => False) (Few S) d q.2
  | [], (n, t), h => h.1.imp (fun _ z => (List.not_mem_nil z).elim) (fun _ z => z)
  | (_, _) :: ps, q, h => PN.last (ps := ps) h.2
theorem sorted_one : ∀ {xs ys : List Int}, xs.Pairwise (· < ·) → ys.Pairwise (· < ·) → (∀ k, k ∈ xs ↔ k ∈ ys) → xs = ys
  | [], [], _, _, _ => rfl
  | [], y :: ys, _, _, h => (List.not_mem_nil ((h y).mpr List.mem_cons_self)).elim
  | x :: xs, [], _, _, h => (List.not_mem_nil ((h x).mp List.mem_cons_self)).elim
  | x :: xs, y :: ys, hx, hy, h => by
    have px := List.pairwise_cons.mp hx
    have py := List.pairwise_cons.mp hy
    have e : x = y := by
      rcases List.mem_cons.mp ((h x).mp List.mem_cons_self) with z | z
      · exact z
      · rcases List.mem_cons.mp ((h y).mpr List.mem_cons_self) with z2 | z2
        · exact z2.symm
        · have h1 := py.1 x z
          have h2 := px.1 y z2
          omega
    subst e
    have r : xs = ys := sorted_one px.2 py.2 fun k => by
      constructor
      · intro hk
        rcases List.mem_cons.mp ((h k).mp (List.mem_cons_of_mem _ hk)) with z | z
        · have h1 := px.1 k hk
          omega
        · exact z
      · intro hk
        rcases List.mem_cons.mp ((h k).mpr (List.mem_cons_of_mem _ hk)) with z | z
        · have h1 := py.1 k hk
          omega
        · exact z
    rw [r]
theorem fnG_fun {P : Program} {w : World} {K : PySem.W.Frag} {mg : Str → Option Value} {base : Heap} {x ql : Str} {st : Stmt} {f : Addr} {fd : FuncData} {N ps : List Str} {k : Nat} {sp : Sp} (F : Fun K x ql st f fd) (S : FnScope N ps (defScope st)) (len : ∀ vs H Q E, sp vs H Q E → vs.length = ps.length)
    (hb : ∀ (cdv : Value) (A : Around) (outer : List Env) (s : Shared) (H : Hp) (vs : List V) (Q : VK) (E : XK), (A.deeper (envOfC ql (defScope st) s.heap.objs.size f cdv)).guards = some [] → Room k (A.deeper (envOfC ql (defScope st) s.heap.objs.size f cdv)) → sp vs H Q E →
      ∃ t, PSs (cxOf CX0 P w K mg base N ql (defScope st) f cdv A outer s H E).nox (defBody st) t ∧ t { nx := fun _ H' => Q .non H', rt := Q } (start N vs) H) : FnG P w K mg base CX0 (k + 1) f fd ps sp := by
  obtain ⟨oc, od, kV, doc, pm, an, cdv, ct, osl, rfl, lk, hcd⟩ := F.ex
  refine fnG_of lk hcd S len fun A outer s H vs Q E hg hr hsp => ?_
  obtain ⟨t, h, q⟩ := hb cdv A outer s H vs Q E hg hr hsp
  exact ⟨t, h.nox, q⟩
theorem wd5 : wd 5 = 68200 := rfl
def hundred : List Int := (List.range 100).map fun i => ((i : Nat) : Int)
theorem hundred_rg : rgV 0 100 = hundred.map V.int := by
  unfold rgV hundred
  rw [List.map_map]
  rfl
theorem hundred_nd : hundred.Nodup := by decide +kernel
theorem hundred_len : hundred.length = 100 := rfl
theorem hundred_mem {x : Int} (h : x ∈ hundred) : 0 ≤ x ∧ x < 100 := by
  unfold hundred at h
  obtain ⟨i, hi, rfl⟩ := List.mem_map.mp h
  have := List.mem_range.mp hi
  omega
/-- what the law calls -/
structure Calls (P : Program) (w : World) (K : PySem.W.Frag) (mg : Str → Option Value) (base : Heap) : Prop where
  pool : Cal P w K mg base 1 "_law_pool" ["_law_script", "_law_k"] (spPool K)
  take : Cal P w K mg base 1 "_law_take" ["_law_pool_here", "_law_many"] spTake
  picked : Cal P w K mg base 2 "_law_picked" ["_law_pool_here", "_law_some", "_law_many"] (spPicked K)
  program : Cal P w K mg base 9 "_law_program" ["_law_pool_here", "_law_most", "_law_deep_here", "_law_some"] spProgram
  deep : Cal P w K mg base 3 "_law_deep" ["_law_pool_here"] spDeep
  topr : Cal P w K mg base 9 "reach" ["program"] (spTopReach 5)
  lreach : Cal P w K mg base 6 "_law_reach" ["_law_term_here", "_law_reaches_here"] (spReach 5)
  lreaches : Cal P w K mg base 7 "_law_reaches" ["_law_program_here"] (spReaches 5)
  rooms : Cal P w K mg base 8 "rooms_of" ["program"] (spRoomsOf 5)
  lall : Cal P w K mg base 7 "_law_all_rooms" ["_law_program_here"] (spRoomsOf 5)
theorem scLaw : FnScope ["_law_script", "_law_k", "_law_pool_here", "_law_some", "_law_program_here", "_law_kept", "_law_found", "_law_turn", "_law_told"] ["_law_script"] (defScope sLaw) := ⟨rfl, rfl, rfl, by decide +kernel, rfl, by decide +kernel, by decide +kernel⟩
section
variable {P : Program} {w : World} {K : PySem.W.Frag} {mg : Str → Option Value} {base : Heap}
theorem ok_law {f : Addr} {fd : FuncData} (F : Fun K "law" "law" sLaw f fd) (B : Bt mg) (C : Calls P w K mg base) : FnG P w K mg base CX0 10 f fd ["_law_script"] (spLaw K) := by
  obtain ⟨c_pool, c_take, c_picked, c_program, c_deep, c_top, c_reach, c_reaches, c_rooms_of, c_all_rooms⟩ := C
  refine fnG_fun F scLaw (fun vs H Q E h => ?_) (fun cdv A outer s H vs Q E hg hr h => ?_)
  · obtain ⟨a, ns, rfl, _⟩ := h
    rfl
  · obtain ⟨a, ns, rfl, hS, hlen, q⟩ := h
    refine ⟨_, (pss_cons (ps_for PassesOwn.never rfl (pi_range1 (by rfl) B.range (pa_cons (pe_callB (call_max2 rfl) (by rfl) B.max (by decide +kernel) (pa_cons pe_int (pa_cons (pe_callB (call_min2 rfl) (by rfl) B.min (by decide +kernel) (pa_cons (pe_callB call_len_seq (by rfl) B.len PySem.boot_len (pa_cons (pv 0) pa_nil)) (pa_cons pe_int pa_nil))) pa_nil))) pa_nil)) (pg_name (i := 1) scLaw.nd rfl (Or.inl rfl)) (pss_cons (ps_set (i := 2) scLaw.nd rfl (Or.inl rfl) (pe_own c_pool hr (by decide) (by rfl) (pa_cons (pv 0) (pa_cons (pv 1) pa_nil))))
      (pss_cons (ps_set (i := 3) scLaw.nd rfl (Or.inl rfl) (pe_own c_picked hr (by decide) (by rfl) (pa_cons (pv 2) (pa_cons (pe_listRg rfl (by rfl) B.list (prg_1 (by rfl) B.range pe_int)) (pa_cons (pe_op op_add pe_int (pe_own c_take hr (by decide) (by rfl) (pa_cons (pv 2) (pa_cons pe_int pa_nil)))) pa_nil)))))
      (pss_one (ps_for PassesOwn.never rfl (pi_list (pe_lst (pa_cons (pe_own c_program hr (by decide) (by rfl) (pa_cons (pv 2) (pa_cons pe_int (pa_cons (pe_op op_add pe_int (pe_own c_take hr (by decide) (by rfl) (pa_cons (pv 2) (pa_cons pe_int pa_nil)))) (pa_cons (pv 3) pa_nil))))) (pa_cons (pe_own c_deep hr (by decide) (by rfl) (pa_cons (pv 2) pa_nil)) pa_nil)))) (pg_name (i := 4) scLaw.nd rfl (Or.inl rfl)) (pss_cons (ps_set (i := 5) scLaw.nd rfl (Or.inl rfl) (pe_callB (call_reprD hg hr.units) (by rfl) B.repr (by decide +kernel) (pa_cons (pv 4) pa_nil)))
      (pss_cons (ps_set (i := 6) scLaw.nd rfl (Or.inl rfl) (pe_own c_top hr (by decide) (by rfl) (pa_cons (pv 4) pa_nil)))
      (pss_cons (ps_if (PW.pt (pw_or (pt_val (pe_callB call_isi (by rfl) B.isinstance (by decide +kernel) (pa_cons (pv 6) (pa_cons (pe_bltn (v := .ty "bool") (u := .type "bool") (by rfl) B.bool (by decide +kernel) rfl) pa_nil)))) (pw_or1 (pt_cmpR op_ne (pv 6) (pe_dget (hu_of hr) (pe_own c_reaches hr (by decide) (by rfl) (pa_cons (pv 4) pa_nil)) (pe_ix ix_tup (pe_ix ix_list (pv 4) pe_int (fun _ _ => rfl)) pe_int (fun _ _ => rfl)) (fun _ _ => rfl)) (nomark _))))) (pss_one (ps_ret pe_bl)) pss_nil)
      (pss_cons (ps_for PassesOwn.never rfl (pi_range1 (by rfl) B.range (pa_cons pe_int pa_nil)) (pg_name (i := 7) scLaw.nd rfl (Or.inl rfl)) (pss_cons (ps_set (i := 8) scLaw.nd rfl (Or.inl rfl) (pe_own c_rooms_of hr (by decide) (by rfl) (pa_cons (pv 4) pa_nil)))
      (pss_cons (ps_if (PW.pt (pw_or (pt_not (pt_val (pe_callB call_isi (by rfl) B.isinstance (by decide +kernel) (pa_cons (pv 8) (pa_cons (pe_bltn (v := .ty "list") (u := .type "list") (by rfl) B.list (by decide +kernel) rfl) pa_nil))))) (pw_or (pt_cmpR (op_neD hr.units) (pv 8) (pe_own c_all_rooms hr (by decide) (by rfl) (pa_cons (pv 4) pa_nil)) (nomark _)) (pw_or1 (pt_cmpR op_ne (pe_callB (call_reprD hg hr.units) (by rfl) B.repr (by decide +kernel) (pa_cons (pv 4) pa_nil)) (pv 5) (nomark _)))))) (pss_one (ps_ret pe_bl)) pss_nil)
      (pss_one (ps_expr (pe_bm PySem.F.plainAttrs_list PySem.F.slot_list_append PySem.F.type_list_append mt_append (pv 8) (pa_cons (pe_un un_neg pe_int) pa_nil)))))))
      (pss_one (ps_if (pt_cmpR op_ne (pe_own c_top hr (by decide) (by rfl) (pa_cons (pe_lst (pa_cons (pe_ix ix_list (pv 4) (pe_un un_neg pe_int) (fun _ _ => rfl)) pa_nil)) pa_nil)) (pe_own c_reach hr (by decide) (by rfl) (pa_cons (pe_ix ix_tup (pe_ix ix_list (pv 4) (pe_un un_neg pe_int) (fun _ _ => rfl)) pe_int (fun _ _ => rfl)) (pa_cons pe_dnewK pa_nil))) (nomark _)) (pss_one (ps_ret pe_bl)) pss_nil)))))))))))
      (pss_one (ps_ret pe_bl))), ?_⟩
    obtain ⟨m, hm, hm2⟩ : ∃ m : Nat, (if (if (8 : Int) < ((ns.map V.int).length : Int) then 8 else ((ns.map V.int).length : Int)) > 1 then (if (8 : Int) < ((ns.map V.int).length : Int) then 8 else ((ns.map V.int).length : Int)) else 1) = (m : Int) ∧ m ≤ 8 := by
      rw [List.length_map]
      refine ⟨(if (if (8 : Int) < (ns.length : Int) then 8 else (ns.length : Int)) > 1 then (if (8 : Int) < (ns.length : Int) then 8 else (ns.length : Int)) else 1).toNat, ?_, ?_⟩
      all_goals
        by_cases e1 : (8 : Int) < (ns.length : Int)
        · simp only [e1, if_true]
          decide
        · simp only [e1, if_false]
          split <;> omega
    refine ⟨_, rfl, a, _, rfl, .inl hS, _, _, rfl, _, _, rfl, ?_⟩
    refine ⟨(m : Int), congrArg (fun z => [V.int z]) hm, by omega, by omega, ?_⟩
    rw [show ((m : Int)).toNat = m by omega]
    refine for_range (lo := 0) (n := m) (fun i σ H2 => ∃ y1 y2 y3 y4 y5 y6 y7 y8 : Option V, σ = [some (.ref a), y1, y2, y3, y4, y5, y6, y7, y8] ∧ SqL K H2 a (ns.map V.int)) ?_ ?_ ?_
    · exact ⟨none, none, none, none, none, none, none, none, rfl, hS⟩
    · rintro i σ Hs hi ⟨y1, y2, y3, y4, y5, y6, y7, y8, rfl, hSs⟩
      -- pool
      refine ⟨_, rfl, _, rfl, a, ns, _, rfl, hSs, by omega, by omega, fun p H1 s1 np hp1 => ?_⟩
      have back : ∀ {Hn : Hp}, Kept p H1 Hn → SqL K Hn a (ns.map V.int) := fun {Hn} k => Same.seq (fun b o e => k b o (s1 b o e) (ne_of_none e np)) hSs
      refine ⟨_, rfl, 100, rfl, ⟨by decide, by decide, by decide, by decide, by decide⟩, fun b nb => ?_⟩
      rw [hundred_rg]
      have ebp : b ≠ p := pool_ne hp1 nb
      refine ⟨_, rfl, p, 9, rfl, hp1.upd ebp.symm, by decide, by decide, fun r o r0 r1 po => ?_⟩
      have kb : Kept p H1 (upd (upd H1 b (.lst (hundred.map V.int))) p o) := (Kept.same (same_upd nb)).trans (Kept.upd p _ o)
      refine ⟨_, _, rfl, rfl, p, b, hundred, _, rfl, ⟨o, upd_same, po⟩, SqL.of (by rw [upd_ne ebp, upd_same]), ebp, hundred_nd, (by rw [hundred_len]; decide), (by omega), fun sm H4 ms nsm k4 hp4 hsm nd hsub hml _ => ?_⟩
      have k14 : Kept p H1 H4 := kb.trans k4
      have esp : sm ≠ p := (free_upd nsm).1
      have hm9 : ms.length ≤ 9 := by
        rw [hml]
        omega
      have hmr : ∀ k ∈ ms, 0 ≤ k ∧ k < 100 := fun k hk => hundred_mem (hsub k hk)
      -- the two programs
      refine ⟨_, rfl, _, rfl, p, 5, rfl, hp4, by decide, by decide, fun r2 o2 r20 r21 po2 => ?_⟩
      obtain ⟨d, hd⟩ : ∃ d : Nat, 1 + r2 = (d : Int) := ⟨(1 + r2).toNat, by omega⟩
      have hp5 : PoolAt (upd H4 p o2) p := ⟨o2, upd_same, po2⟩
      refine ⟨_, _, rfl, rfl, _, rfl, p, sm, 6, d, ms, congrArg (fun z => [V.ref p, V.int 6, V.int z, V.ref sm]) hd, hp5, esp, (by rw [upd_ne esp]; exact hsm), nd, by omega, by omega, by omega, by decide, by decide, fun u1 H6 ws1 ps1 nu1 k6 hp6 hu1 pr1 pn1 no1 le1 le1b => ?_⟩
      refine ⟨_, rfl, p, rfl, hp6, fun u2 H7 ws2 ps2 nu2 k7 hp7 hu2 pr2 pn2 no2 le2 => ?_⟩
      have e1p : u1 ≠ p := pool_ne hp5 nu1
      have e2p : u2 ≠ p := pool_ne hp6 nu2
      refine ⟨(by show 2 ≤ sizeLine; decide), fun l nl => ?_⟩
      have sl : Same H7 (upd H7 l (.lst [V.ref u1, V.ref u2])) := same_upd nl
      have kk : Kept p H1 (upd H7 l (.lst [V.ref u1, V.ref u2])) := (((k14.trans (Kept.upd p H4 o2)).trans k6).trans k7).trans (Kept.same sl)
      have hprog : ∀ x ∈ [V.ref u1, V.ref u2], ∃ (u : Addr) (ws : List V) (ps : List (Str × Tm)) (S : List Int), x = .ref u ∧ (upd H7 l (.lst [V.ref u1, V.ref u2])) u = some (.lst ws) ∧ PrL (upd H7 l (.lst [V.ref u1, V.ref u2])) ws ps ∧ PN S 5 ps ∧ NamesOk (ps.map Prod.fst) ∧ 1 ≤ ps.length ∧ ps.length ≤ 8 ∧ (∀ k ∈ S, 0 ≤ k ∧ k < 100) ∧ S.length < 64 := by
        intro x hx
        rcases List.mem_cons.mp hx with z | z
        · exact ⟨u1, ws1, ps1, ms, z, sl _ _ (k7 _ _ hu1 e1p), (pr1.keep (KT.of k7 hp6)).keep (KT.same sl), PN.mono (by omega) pn1, no1, le1, by omega, hmr, by omega⟩
        · refine ⟨u2, ws2, ps2, [7], List.mem_singleton.mp z, sl _ _ hu2, pr2.keep (KT.same sl), PN.mono (by omega) pn2, no2, by omega, by omega, fun k hk => ?_, by decide⟩
          rw [List.mem_singleton.mp hk]
          omega
      have hat : (upd H7 l (.lst [V.ref u1, V.ref u2])) l = some (.lst [V.ref u1, V.ref u2]) := upd_same
      clear hu1 hu2 pr1 pr2 pn1 pn2
      generalize upd H7 l (.lst [V.ref u1, V.ref u2]) = Hb at *
      refine ⟨l, rfl, ⟨_, SqL.of hat⟩, ?_⟩
      refine for_list (K := K) (a := l) (xs := [V.ref u1, V.ref u2]) (fun _ σ H8 => ∃ y4 y5 y6 y7 y8 : Option V, σ = [some (.ref a), some (.int (0 + (i : Int))), some (.ref p), some (.ref sm), y4, y5, y6, y7, y8] ∧ Same Hb H8) ?_ ?_ ?_ ?_
      · exact ⟨_, _, _, _, _, rfl, Same.refl Hb⟩
      · rintro _ σ H8 _ ⟨_, _, _, _, _, _, s8⟩
        exact SqL.of (s8 _ _ hat)
      · rintro j x σ H8 hx ⟨y4, y5, y6, y7, y8, rfl, s8⟩
        obtain ⟨u, ws, ps, S, rfl, hu, pr, pn, no, l1, l8, hS, hS64⟩ := hprog x (List.mem_of_getElem? hx)
        have hfin : Fine (.list (prD 5 ps)) 12 600000 := by
          have z := Fine.list (pr_fine hS pn no)
          have h8 : ps.length * (wd 5 + 20) ≤ 8 * (wd 5 + 20) := Nat.mul_le_mul_right _ l8
          rw [wd5] at h8 z
          exact z.up (by decide) (by omega)
        have hdp : ∀ {Hn : Hp}, Same Hb Hn → Dp K Hn (.ref u) (.list (prD 5 ps)) := fun {Hn} s => .lst (SqL.of (s _ _ hu)) (pr_dp (pr.keep (KT.same s)) pn)
        have hne : ps ≠ [] := by
          rintro rfl
          exact absurd l1 (by decide)
        have hwl : ws.length = ps.length := pr.len
        refine ⟨_, rfl, u, _, 12, 600000, rfl, hdp s8, hfin, by decide, by decide, ?_⟩
        refine ⟨_, rfl, u, ws, ps, rfl, s8 _ _ hu, pr.keep (KT.same s8), pn.po, hne, by omega, fun H9 s9 => ?_⟩
        have sb9 := s8.trans s9
        refine ⟨_, rfl, .int (topReach 5 ps), .ty "bool", .type "int", .type "bool", false, rfl, .ty "bool", .base (.int _), kit_ty (by decide +kernel), _, rfl, iteF ?_⟩
        refine ⟨_, rfl, _, rfl, u, ws, ps, rfl, sb9 _ _ hu, pr.keep (KT.same sb9), pn.po, by omega, fun e H10 s10 ne he => ?_⟩
        have sb10 := sb9.trans s10
        -- the first name's reach
        obtain ⟨v0, wr, ew⟩ : ∃ v0 wr, ws = v0 :: wr := by
          cases ws with
          | nil => exact (hne (List.length_eq_zero_iff.mp hwl.symm)).elim
          | cons v vs => exact ⟨v, vs, rfl⟩
        obtain ⟨q0, a0, u0, eq0, e0, pa0, tu0⟩ := pr.get (i := 0) (v := v0) (by rw [ew]; rfl)
        have hget : DGet H10 e (.str q0.1) (some (.int (topReach 5 ps))) := by
          cases ps with
          | nil => exact (hne rfl).elim
          | cons q1 r =>
            have e1 : q1 = q0 := by simpa using eq0
            subst e1
            have z := DGet.k (k := Sum.inr q1.1) he
            have z2 : valV (rk 5 (q1 :: r)) (Sum.inr q1.1) = some (.int (topReach 5 (q1 :: r))) := by
              show valV (putK (rk 5 r) (Sum.inr q1.1) _) (Sum.inr q1.1) = _
              rw [valV_put, if_pos rfl]
              rfl
            rw [z2] at z
            exact z
        refine ⟨_, rfl, u, _, 0, .ref a0, rfl, rfl, SqL.of (sb10 _ _ hu), (by rw [ew, e0]; exact atI_nat (j := 0) rfl), _, _, _, _, rfl, rfl, (pa0.same sb10).sq, atI_nat (j := 0) rfl, ?_⟩
        refine ⟨e, .int (topReach 5 ps), rfl, hget, rfl, _, rfl, iteNS rfl ?_⟩
        clear hget
        refine ⟨2, rfl, by decide, by decide, ?_⟩
        refine for_range (lo := 0) (n := 2) (fun _ σ H11 => ∃ y7 y8 : Option V, σ = [some (.ref a), some (.int (0 + (i : Int))), some (.ref p), some (.ref sm), some (.ref u), some (.str (PyData.list (prD 5 ps)).shown), some (.int (topReach 5 ps)), y7, y8] ∧ Same Hb H11) ?_ ?_ ?_
        · exact ⟨_, _, rfl, sb10⟩
        · rintro g σ H11 hg2 ⟨y7, y8, rfl, s11⟩
          have h243 : ps.length * 3 ^ 5 ≤ 8 * 3 ^ 5 := Nat.mul_le_mul_right _ l8
          have hcap : ps.length * 3 ^ 5 ≤ 4000 := Nat.le_trans h243 (by decide)
          refine ⟨_, rfl, u, ws, ps, S, rfl, s11 _ _ hu, pr.keep (KT.same s11), pn.all, hcap, hS64, fun m1 t1 H12 pw1 mem1 s12 nt1 ht1 => ?_⟩
          have sb12 := s11.trans s12
          refine ⟨_, rfl, .ref t1, .ty "list", .type "list", .type "list", true, rfl, .ty "list", .base (.lst ht1), kit_ty (by decide +kernel), _, rfl, iteF ?_⟩
          refine ⟨_, rfl, _, rfl, u, ws, ps, S, rfl, sb12 _ _ hu, pr.keep (KT.same sb12), pn.all, hcap, hS64, fun m2 t2 H13 pw2 mem2 s13 nt2 ht2 => ?_⟩
          have em : m1 = m2 := sorted_one pw1 pw2 fun k => (mem1 k).trans (mem2 k).symm
          subst em
          have sb13 := sb12.trans s13
          have ht13 := s13 _ _ ht1
          have hmS : ∀ k ∈ m1, 0 ≤ k ∧ k < 100 := fun k hk => hS k ((roomsL_few pn.all).2 k ((mem1 k).mp hk))
          have hf1 : Fine (.list (m1.map PyData.int)) 1 (41 * m1.length) := Fine.list (FineL.ints m1 fun z hz => by have := hmS z hz; omega)
          refine ⟨_, _, .lst (SqL.of ht13) (dp_intsS m1), .lst (SqL.of ht2) (dp_intsS m1), hf1.shaped (by decide), hf1.shaped (by decide), _, rfl, iteB (fun z => absurd z (by rw [hf1.eqv]; decide)) (fun _ => ?_)⟩
          refine ⟨_, rfl, u, _, 12, 600000, rfl, hdp sb13, hfin, by decide, by decide, _, rfl, rfl, _, rfl, iteNS rfl ?_⟩
          have few : m1.length < 64 := by
            have z := nodup_few (S := S) (ms := m1) (pw1.imp fun h => Int.ne_of_lt h) fun k hk => (roomsL_few pn.all).2 k ((mem1 k).mp hk)
            omega
          refine ⟨_, rfl, .inl ⟨rfl, _, SqL.of ht13⟩, 1, rfl, t1, _, _, rfl, rfl, ht13, small1000 (by rw [List.length_map]; omega), ?_⟩
          refine ⟨_, _, rfl, fun c o ec => ?_⟩
          rw [upd_ne (ne_of_none (s11 _ _ ec) nt1)]
          exact sb13 _ _ ec
        · rintro σ H11 ⟨y7, y8, rfl, s11⟩
          -- the last term alone
          obtain ⟨wi, vl, ewl⟩ : ∃ wi vl, ws = wi ++ [vl] := by
            rcases List.eq_nil_or_concat ws with z | ⟨wi, vl, z⟩
            · rw [z] at ew
              cases ew
            · exact ⟨wi, vl, by rw [z, List.concat_eq_append]⟩
          obtain ⟨pi, ql, epl⟩ : ∃ pi ql, ps = pi ++ [ql] := by
            rcases List.eq_nil_or_concat ps with z | ⟨pi, ql, z⟩
            · exact (hne z).elim
            · exact ⟨pi, ql, by rw [z, List.concat_eq_append]⟩
          have hil : wi.length = pi.length := by
            rw [ewl, epl, List.length_append, List.length_append] at hwl
            simpa using hwl
          obtain ⟨q3, al, ul, eql, evl, pal, tul⟩ := pr.get (i := wi.length) (v := vl) (by rw [ewl, List.getElem?_append_right (Nat.le_refl _), Nat.sub_self]; rfl)
          have e3 : q3 = ql := by
            rw [epl, hil, List.getElem?_append_right (Nat.le_refl _), Nat.sub_self] at eql
            simpa using eql.symm
          subst e3
          have hlast : Lv (fun _ => False) (Few S) 5 q3.2 := PN.last (by rw [← epl]; exact pn)
          have hat1 : atI ws (-1) = some (.ref al) := by
            rw [ewl, evl]
            exact atI_last wi _
          refine ⟨_, rfl, 1, rfl, u, _, _, _, rfl, rfl, SqL.of (s11 _ _ hu), hat1, (by show 1 ≤ sizeLine; decide), fun L nL => ?_⟩
          have sL : Same H11 (upd H11 L (.lst [V.ref al])) := same_upd nL
          have sbL := s11.trans sL
          refine ⟨L, [.ref al], [q3], rfl, upd_same, ⟨⟨al, ul, rfl, pal.same sbL, tul.keep (KT.same sbL)⟩, trivial⟩, ⟨hlast.imp (fun _ z => z.elim) (fun _ _ => trivial), trivial⟩, by simp, (by show 1 ≤ 100; decide), fun H12 s12 => ?_⟩
          have sb12 := sbL.trans s12
          refine ⟨_, rfl, 1, rfl, u, _, _, _, rfl, rfl, SqL.of (sb12 _ _ hu), hat1, _, _, _, _, rfl, rfl, (pal.same sb12).sq, atI_nat (j := 1) rfl, fun dd ndd => ?_⟩
          have sd : Same H12 (upd H12 dd (.dK [])) := same_upd ndd
          refine ⟨ul, q3.2, dd, [], rfl, tul.keep (KT.same (sb12.trans sd)), upd_same, hlast.imp (fun _ z => z.elim) (fun _ _ => trivial), fun H13 s13 => ?_⟩
          refine ⟨rfl, _, rfl, iteNS rfl ?_⟩
          exact ⟨_, _, _, _, _, rfl, (sb12.trans sd).trans s13⟩
      · rintro σ H8 ⟨y4, y5, y6, y7, y8, rfl, s8⟩
        exact ⟨_, _, _, _, _, _, _, _, rfl, back (kk.trans (Kept.same s8))⟩
    · rintro σ H2 ⟨y1, y2, y3, y4, y5, y6, y7, y8, rfl, _⟩
      exact q H2
end
end Su
namespace Su
open PySem PySem.Spec PyProof.Rows L2
theorem at_mk {K : PySem.W.Frag} {h : Heap} {mg : Str → Option Value} {x : Str} {st : Stmt} {f : Addr} {fd : FuncData} {ps : List Str} (X : K.In h) (G : h.Ns mainGlobals mg) (a : PySem.W.nsIn K mainGlobals x = some (some (.ref f))) (F : Fun K x x st f fd) (b : Binds K fd ps []) : At K mg x st ps :=
  ⟨f, fd, F, PySem.W.mg_of X G a, b⟩
theorem all_mk {l : PySem.W.OpenLaw} {w : World} {K : PySem.W.Frag} {h : Heap} {mg : Str → Option Value} {fa f1 f2 f3 f4 f5 f6 f7 f8 f9 f10 f11 f12 f13 f14 f15 f16 f17 f18 : Addr} (X : K.In h) (G : h.Ns mainGlobals mg) (hfa : mg "law" = some (.ref fa))
    {od1 an1 od2 an2 od3 an3 od4 an4 od5 an5 od6 an6 od7 an7 od8 an8 od9 an9 od10 an10 od11 an11 od12 an12 od13 an13 od14 an14 od15 an15 od16 an16 od17 an17 od18 an18 : Option Addr} {sl1 sl2 sl3 sl4 sl5 sl6 sl7 sl8 sl9 sl10 sl11 sl12 sl13 sl14 sl15 sl16 sl17 sl18 : Array (Option Value)} {oc1 kV1 dc1 pm1 cd1 ct1 oc2 kV2 dc2 pm2 cd2 ct2 oc3 kV3 dc3 pm3 cd3 ct3 oc4 kV4 dc4 pm4 cd4 ct4 oc5 kV5 dc5 pm5 cd5 ct5 oc6 kV6 dc6 pm6 cd6 ct6 oc7 kV7 dc7 pm7 cd7 ct7 oc8 kV8 dc8 pm8 cd8 ct8 oc9 kV9 dc9 pm9 cd9 ct9 oc10 kV10 dc10 pm10 cd10 ct10 oc11 kV11 dc11 pm11 cd11 ct11 oc12 kV12 dc12 pm12 cd12 ct12 oc13 kV13 dc13 pm13 cd13 ct13 oc14 kV14 dc14 pm14 cd14 ct14 oc15 kV15 dc15 pm15 cd15 ct15 oc16 kV16 dc16 pm16 cd16 ct16 oc17 kV17 dc17 pm17 cd17 ct17 oc18 kV18 dc18 pm18 cd18 ct18 : Value}
    (a1 : PySem.W.nsIn K mainGlobals "terms_within" = some (some (.ref f1))) (l1 : K.lookup f1 = some ⟨oc1, od1, .func (PySem.W.fnOf "terms_within" "terms_within" (defArgs sWithin) (defBody sWithin) (defScope sWithin) .none kV1 dc1 pm1 an1 cd1 ct1), sl1⟩) (c1 : PySem.W.codeIn K cd1 "terms_within" = true) (k1 : PySem.W.keepIn K (.ref f1) = true)
    (a2 : PySem.W.nsIn K mainGlobals "reach_of" = some (some (.ref f2))) (l2 : K.lookup f2 = some ⟨oc2, od2, .func (PySem.W.fnOf "reach_of" "reach_of" (defArgs sReachOf) (defBody sReachOf) (defScope sReachOf) .none kV2 dc2 pm2 an2 cd2 ct2), sl2⟩) (c2 : PySem.W.codeIn K cd2 "reach_of" = true) (k2 : PySem.W.keepIn K (.ref f2) = true)
    (a3 : PySem.W.nsIn K mainGlobals "reaches_of" = some (some (.ref f3))) (l3 : K.lookup f3 = some ⟨oc3, od3, .func (PySem.W.fnOf "reaches_of" "reaches_of" (defArgs sReachesOf) (defBody sReachesOf) (defScope sReachesOf) .none kV3 dc3 pm3 an3 cd3 ct3), sl3⟩) (c3 : PySem.W.codeIn K cd3 "reaches_of" = true) (k3 : PySem.W.keepIn K (.ref f3) = true)
    (a4 : PySem.W.nsIn K mainGlobals "reach" = some (some (.ref f4))) (l4 : K.lookup f4 = some ⟨oc4, od4, .func (PySem.W.fnOf "reach" "reach" (defArgs sReach) (defBody sReach) (defScope sReach) .none kV4 dc4 pm4 an4 cd4 ct4), sl4⟩) (c4 : PySem.W.codeIn K cd4 "reach" = true) (k4 : PySem.W.keepIn K (.ref f4) = true)
    (a5 : PySem.W.nsIn K mainGlobals "asked_rooms" = some (some (.ref f5))) (l5 : K.lookup f5 = some ⟨oc5, od5, .func (PySem.W.fnOf "asked_rooms" "asked_rooms" (defArgs sAskedRooms) (defBody sAskedRooms) (defScope sAskedRooms) .none kV5 dc5 pm5 an5 cd5 ct5), sl5⟩) (c5 : PySem.W.codeIn K cd5 "asked_rooms" = true) (k5 : PySem.W.keepIn K (.ref f5) = true)
    (a6 : PySem.W.nsIn K mainGlobals "rooms_of" = some (some (.ref f6))) (l6 : K.lookup f6 = some ⟨oc6, od6, .func (PySem.W.fnOf "rooms_of" "rooms_of" (defArgs sRoomsOf) (defBody sRoomsOf) (defScope sRoomsOf) .none kV6 dc6 pm6 an6 cd6 ct6), sl6⟩) (c6 : PySem.W.codeIn K cd6 "rooms_of" = true) (k6 : PySem.W.keepIn K (.ref f6) = true)
    (a7 : PySem.W.nsIn K mainGlobals "_law_pool" = some (some (.ref f7))) (l7 : K.lookup f7 = some ⟨oc7, od7, .func (PySem.W.fnOf "_law_pool" "_law_pool" (defArgs sPool) (defBody sPool) (defScope sPool) .none kV7 dc7 pm7 an7 cd7 ct7), sl7⟩) (c7 : PySem.W.codeIn K cd7 "_law_pool" = true) (k7 : PySem.W.keepIn K (.ref f7) = true)
    (a8 : PySem.W.nsIn K mainGlobals "_law_take" = some (some (.ref f8))) (l8 : K.lookup f8 = some ⟨oc8, od8, .func (PySem.W.fnOf "_law_take" "_law_take" (defArgs sTake) (defBody sTake) (defScope sTake) .none kV8 dc8 pm8 an8 cd8 ct8), sl8⟩) (c8 : PySem.W.codeIn K cd8 "_law_take" = true) (k8 : PySem.W.keepIn K (.ref f8) = true)
    (a9 : PySem.W.nsIn K mainGlobals "_law_picked" = some (some (.ref f9))) (l9 : K.lookup f9 = some ⟨oc9, od9, .func (PySem.W.fnOf "_law_picked" "_law_picked" (defArgs sPicked) (defBody sPicked) (defScope sPicked) .none kV9 dc9 pm9 an9 cd9 ct9), sl9⟩) (c9 : PySem.W.codeIn K cd9 "_law_picked" = true) (k9 : PySem.W.keepIn K (.ref f9) = true)
    (a10 : PySem.W.nsIn K mainGlobals "_law_names" = some (some (.ref f10))) (l10 : K.lookup f10 = some ⟨oc10, od10, .func (PySem.W.fnOf "_law_names" "_law_names" (defArgs sNames) (defBody sNames) (defScope sNames) .none kV10 dc10 pm10 an10 cd10 ct10), sl10⟩) (c10 : PySem.W.codeIn K cd10 "_law_names" = true) (k10 : PySem.W.keepIn K (.ref f10) = true)
    (a11 : PySem.W.nsIn K mainGlobals "_law_term" = some (some (.ref f11))) (l11 : K.lookup f11 = some ⟨oc11, od11, .func (PySem.W.fnOf "_law_term" "_law_term" (defArgs sTerm) (defBody sTerm) (defScope sTerm) .none kV11 dc11 pm11 an11 cd11 ct11), sl11⟩) (c11 : PySem.W.codeIn K cd11 "_law_term" = true) (k11 : PySem.W.keepIn K (.ref f11) = true)
    (a12 : PySem.W.nsIn K mainGlobals "_law_program" = some (some (.ref f12))) (l12 : K.lookup f12 = some ⟨oc12, od12, .func (PySem.W.fnOf "_law_program" "_law_program" (defArgs sProgram) (defBody sProgram) (defScope sProgram) .none kV12 dc12 pm12 an12 cd12 ct12), sl12⟩) (c12 : PySem.W.codeIn K cd12 "_law_program" = true) (k12 : PySem.W.keepIn K (.ref f12) = true)
    (a13 : PySem.W.nsIn K mainGlobals "_law_reach" = some (some (.ref f13))) (l13 : K.lookup f13 = some ⟨oc13, od13, .func (PySem.W.fnOf "_law_reach" "_law_reach" (defArgs sLReach) (defBody sLReach) (defScope sLReach) .none kV13 dc13 pm13 an13 cd13 ct13), sl13⟩) (c13 : PySem.W.codeIn K cd13 "_law_reach" = true) (k13 : PySem.W.keepIn K (.ref f13) = true)
    (a14 : PySem.W.nsIn K mainGlobals "_law_reaches" = some (some (.ref f14))) (l14 : K.lookup f14 = some ⟨oc14, od14, .func (PySem.W.fnOf "_law_reaches" "_law_reaches" (defArgs sLReaches) (defBody sLReaches) (defScope sLReaches) .none kV14 dc14 pm14 an14 cd14 ct14), sl14⟩) (c14 : PySem.W.codeIn K cd14 "_law_reaches" = true) (k14 : PySem.W.keepIn K (.ref f14) = true)
    (a15 : PySem.W.nsIn K mainGlobals "_law_rooms_in" = some (some (.ref f15))) (l15 : K.lookup f15 = some ⟨oc15, od15, .func (PySem.W.fnOf "_law_rooms_in" "_law_rooms_in" (defArgs sLRoomsIn) (defBody sLRoomsIn) (defScope sLRoomsIn) .none kV15 dc15 pm15 an15 cd15 ct15), sl15⟩) (c15 : PySem.W.codeIn K cd15 "_law_rooms_in" = true) (k15 : PySem.W.keepIn K (.ref f15) = true)
    (a16 : PySem.W.nsIn K mainGlobals "_law_all_rooms" = some (some (.ref f16))) (l16 : K.lookup f16 = some ⟨oc16, od16, .func (PySem.W.fnOf "_law_all_rooms" "_law_all_rooms" (defArgs sLAll) (defBody sLAll) (defScope sLAll) .none kV16 dc16 pm16 an16 cd16 ct16), sl16⟩) (c16 : PySem.W.codeIn K cd16 "_law_all_rooms" = true) (k16 : PySem.W.keepIn K (.ref f16) = true)
    (a17 : PySem.W.nsIn K mainGlobals "_law_deep" = some (some (.ref f17))) (l17 : K.lookup f17 = some ⟨oc17, od17, .func (PySem.W.fnOf "_law_deep" "_law_deep" (defArgs sDeep) (defBody sDeep) (defScope sDeep) .none kV17 dc17 pm17 an17 cd17 ct17), sl17⟩) (c17 : PySem.W.codeIn K cd17 "_law_deep" = true) (k17 : PySem.W.keepIn K (.ref f17) = true)
    (a18 : PySem.W.nsIn K mainGlobals "law" = some (some (.ref f18))) (l18 : K.lookup f18 = some ⟨oc18, od18, .func (PySem.W.fnOf "law" "law" (defArgs sLaw) (defBody sLaw) (defScope sLaw) .none kV18 dc18 pm18 an18 cd18 ct18), sl18⟩) (c18 : PySem.W.codeIn K cd18 "law" = true) (k18 : PySem.W.keepIn K (.ref f18) = true)
    (z1 : PySem.W.nsIn K mainGlobals "len" = some none) (z2 : PySem.W.nsIn K mainGlobals "sum" = some none) (z3 : PySem.W.nsIn K mainGlobals "abs" = some none) (z4 : PySem.W.nsIn K mainGlobals "int" = some none) (z5 : PySem.W.nsIn K mainGlobals "min" = some none) (z6 : PySem.W.nsIn K mainGlobals "max" = some none) (z7 : PySem.W.nsIn K mainGlobals "range" = some none) (z8 : PySem.W.nsIn K mainGlobals "sorted" = some none) (z9 : PySem.W.nsIn K mainGlobals "list" = some none) (z10 : PySem.W.nsIn K mainGlobals "tuple" = some none) (z11 : PySem.W.nsIn K mainGlobals "repr" = some none) (z12 : PySem.W.nsIn K mainGlobals "set" = some none) (z13 : PySem.W.nsIn K mainGlobals "all" = some none) (z14 : PySem.W.nsIn K mainGlobals "isinstance" = some none) (z15 : PySem.W.nsIn K mainGlobals "str" = some none) (z16 : PySem.W.nsIn K mainGlobals "bool" = some none) (z17 : PySem.W.nsIn K mainGlobals "reversed" = some none) (z18 : PySem.W.nsIn K mainGlobals "enumerate" = some none) :
    ∃ fd : FuncData, (∀ (s : Shared) (v : Value), BindsTo s fd ⟨[v], []⟩ [("_law_script", v)]) ∧ ∀ base : Heap, K.In base → base.Ns mainGlobals mg → FnG l.prog w K mg base CX0 10 fa fd ["_law_script"] (spLaw K) := by
  have e := hfa.symm.trans (PySem.W.mg_of X G a18)
  cases e
  have B : Bt mg := ⟨PySem.W.mg_none_of X G z1, PySem.W.mg_none_of X G z2, PySem.W.mg_none_of X G z3, PySem.W.mg_none_of X G z4, PySem.W.mg_none_of X G z5, PySem.W.mg_none_of X G z6, PySem.W.mg_none_of X G z7, PySem.W.mg_none_of X G z8, PySem.W.mg_none_of X G z9, PySem.W.mg_none_of X G z10, PySem.W.mg_none_of X G z11, PySem.W.mg_none_of X G z12, PySem.W.mg_none_of X G z13, PySem.W.mg_none_of X G z14, PySem.W.mg_none_of X G z15, PySem.W.mg_none_of X G z16, PySem.W.mg_none_of X G z17, PySem.W.mg_none_of X G z18⟩
  have F1 := fun_mk (st := sWithin) l1 c1 k1
  have b1 := F1.binds (ps := ["term"]) fun _ _ _ _ _ _ us hl => match us, hl with | [_], _ => rfl
  have T1 := at_mk X G a1 F1 b1
  have F2 := fun_mk (st := sReachOf) l2 c2 k2
  have b2 := F2.binds (ps := ["term", "reaches"]) fun _ _ _ _ _ _ us hl => match us, hl with | [_, _], _ => rfl
  have T2 := at_mk X G a2 F2 b2
  have F3 := fun_mk (st := sReachesOf) l3 c3 k3
  have b3 := F3.binds (ps := ["program"]) fun _ _ _ _ _ _ us hl => match us, hl with | [_], _ => rfl
  have T3 := at_mk X G a3 F3 b3
  have F4 := fun_mk (st := sReach) l4 c4 k4
  have b4 := F4.binds (ps := ["program"]) fun _ _ _ _ _ _ us hl => match us, hl with | [_], _ => rfl
  have T4 := at_mk X G a4 F4 b4
  have F5 := fun_mk (st := sAskedRooms) l5 c5 k5
  have b5 := F5.binds (ps := ["term"]) fun _ _ _ _ _ _ us hl => match us, hl with | [_], _ => rfl
  have T5 := at_mk X G a5 F5 b5
  have F6 := fun_mk (st := sRoomsOf) l6 c6 k6
  have b6 := F6.binds (ps := ["program"]) fun _ _ _ _ _ _ us hl => match us, hl with | [_], _ => rfl
  have T6 := at_mk X G a6 F6 b6
  have F7 := fun_mk (st := sPool) l7 c7 k7
  have b7 := F7.binds (ps := ["_law_script", "_law_k"]) fun _ _ _ _ _ _ us hl => match us, hl with | [_, _], _ => rfl
  have T7 := at_mk X G a7 F7 b7
  have F8 := fun_mk (st := sTake) l8 c8 k8
  have b8 := F8.binds (ps := ["_law_pool_here", "_law_many"]) fun _ _ _ _ _ _ us hl => match us, hl with | [_, _], _ => rfl
  have T8 := at_mk X G a8 F8 b8
  have F9 := fun_mk (st := sPicked) l9 c9 k9
  have b9 := F9.binds (ps := ["_law_pool_here", "_law_some", "_law_many"]) fun _ _ _ _ _ _ us hl => match us, hl with | [_, _, _], _ => rfl
  have T9 := at_mk X G a9 F9 b9
  have F10 := fun_mk (st := sNames) l10 c10 k10
  have b10 := F10.binds (ps := ["_law_pool_here", "_law_many"]) fun _ _ _ _ _ _ us hl => match us, hl with | [_, _], _ => rfl
  have T10 := at_mk X G a10 F10 b10
  have F11 := fun_mk (st := sTerm) l11 c11 k11
  have b11 := F11.binds (ps := ["_law_pool_here", "_law_deep_here", "_law_names_here", "_law_some"]) fun _ _ _ _ _ _ us hl => match us, hl with | [_, _, _, _], _ => rfl
  have T11 := at_mk X G a11 F11 b11
  have F12 := fun_mk (st := sProgram) l12 c12 k12
  have b12 := F12.binds (ps := ["_law_pool_here", "_law_most", "_law_deep_here", "_law_some"]) fun _ _ _ _ _ _ us hl => match us, hl with | [_, _, _, _], _ => rfl
  have T12 := at_mk X G a12 F12 b12
  have F13 := fun_mk (st := sLReach) l13 c13 k13
  have b13 := F13.binds (ps := ["_law_term_here", "_law_reaches_here"]) fun _ _ _ _ _ _ us hl => match us, hl with | [_, _], _ => rfl
  have T13 := at_mk X G a13 F13 b13
  have F14 := fun_mk (st := sLReaches) l14 c14 k14
  have b14 := F14.binds (ps := ["_law_program_here"]) fun _ _ _ _ _ _ us hl => match us, hl with | [_], _ => rfl
  have T14 := at_mk X G a14 F14 b14
  have F15 := fun_mk (st := sLRoomsIn) l15 c15 k15
  have b15 := F15.binds (ps := ["_law_term_here"]) fun _ _ _ _ _ _ us hl => match us, hl with | [_], _ => rfl
  have T15 := at_mk X G a15 F15 b15
  have F16 := fun_mk (st := sLAll) l16 c16 k16
  have b16 := F16.binds (ps := ["_law_program_here"]) fun _ _ _ _ _ _ us hl => match us, hl with | [_], _ => rfl
  have T16 := at_mk X G a16 F16 b16
  have F17 := fun_mk (st := sDeep) l17 c17 k17
  have b17 := F17.binds (ps := ["_law_pool_here"]) fun _ _ _ _ _ _ us hl => match us, hl with | [_], _ => rfl
  have T17 := at_mk X G a17 F17 b17
  have F18 := fun_mk (st := sLaw) l18 c18 k18
  refine ⟨PySem.W.fnOf "law" "law" (defArgs sLaw) (defBody sLaw) (defScope sLaw) .none kV18 dc18 pm18 an18 cd18 ct18, fun s v => .of_eq rfl, fun base _ _ => ?_⟩
  have t1 := ok_take (P := l.prog) (w := w) (base := base) T8
  have t2 := ok_picked (P := l.prog) (w := w) (base := base) T9 B t1
  have t3 := ok_within (P := l.prog) (w := w) (base := base) T1
  have t4 := ok_names (P := l.prog) (w := w) (base := base) T10 B t1
  have t5 := ok_reaches_of (P := l.prog) (w := w) (base := base) T3 B (ok_reach_of T2 B t3 5)
  have t6 := ok_lreach (P := l.prog) (w := w) (base := base) T13 B 5
  refine ok_law F18 B ⟨ok_pool T7 B, t1, t2, ok_program T12 B t1 t4 (ok_term T11 B t1 t2), ok_deep T17 B t1 t4, ok_reach T4 B t5, t6, ok_lreaches T14 B t6, ok_rooms_of T6 B (ok_asked_rooms T5 B t3 5 (by decide)), ok_lall T16 B (ok_lrooms_in T15 B 5 (by decide))⟩
end Su
open PySem PySem.W PyProof.Rows
set_option maxRecDepth 100000 in
set_option maxHeartbeats 0 in
theorem PySem.Challenge.cw_surehand_k09_reach_and_rooms_holds : PySem.Challenge.rw_surehand_k09_reach_and_rooms.Holds := by
  w_on; o_law; k_head; (case hw => w_witness2)
  k_fill
  refine Su.walk_ofG (l := PySem.Challenge.rw_surehand_k09_reach_and_rooms) (n := 63) (k := 10) (x := "_law_script") (CX := L2.CX0) (sp := Su.spLaw) rfl (by decide) rfl ⟨rfl, by decide, by decide⟩ (fun w h Y => PySem.W.kIn_of Y) ?F (fun _ _ a ns hl hS => ⟨a, ns, rfl, hS, hl, fun _ => rfl⟩) (fun _ _ _ _ h => h)
  case F =>
    intro w mg fa h KX G hmg
    refine' Su.all_mk KX G hmg ?a1 ?l1 ?c1 ?k1 ?a2 ?l2 ?c2 ?k2 ?a3 ?l3 ?c3 ?k3 ?a4 ?l4 ?c4 ?k4 ?a5 ?l5 ?c5 ?k5 ?a6 ?l6 ?c6 ?k6 ?a7 ?l7 ?c7 ?k7 ?a8 ?l8 ?c8 ?k8 ?a9 ?l9 ?c9 ?k9 ?a10 ?l10 ?c10 ?k10 ?a11 ?l11 ?c11 ?k11 ?a12 ?l12 ?c12 ?k12 ?a13 ?l13 ?c13 ?k13 ?a14 ?l14 ?c14 ?k14 ?a15 ?l15 ?c15 ?k15 ?a16 ?l16 ?c16 ?k16 ?a17 ?l17 ?c17 ?k17 ?a18 ?l18 ?c18 ?k18 ?z1 ?z2 ?z3 ?z4 ?z5 ?z6 ?z7 ?z8 ?z9 ?z10 ?z11 ?z12 ?z13 ?z14 ?z15 ?z16 ?z17 ?z18
    (case a1 => k_is); (case l1 => k_is); (case c1 => k_is); (case k1 => k_is); (case a2 => k_is); (case l2 => k_is)
    (case c2 => k_is); (case k2 => k_is); (case a3 => k_is); (case l3 => k_is); (case c3 => k_is); (case k3 => k_is)
    (case a4 => k_is); (case l4 => k_is); (case c4 => k_is); (case k4 => k_is); (case a5 => k_is); (case l5 => k_is)
    (case c5 => k_is); (case k5 => k_is); (case a6 => k_is); (case l6 => k_is); (case c6 => k_is); (case k6 => k_is)
    (case a7 => k_is); (case l7 => k_is); (case c7 => k_is); (case k7 => k_is); (case a8 => k_is); (case l8 => k_is)
    (case c8 => k_is); (case k8 => k_is); (case a9 => k_is); (case l9 => k_is); (case c9 => k_is); (case k9 => k_is)
    (case a10 => k_is); (case l10 => k_is); (case c10 => k_is); (case k10 => k_is); (case a11 => k_is); (case l11 => k_is)
    (case c11 => k_is); (case k11 => k_is); (case a12 => k_is); (case l12 => k_is); (case c12 => k_is); (case k12 => k_is)
    (case a13 => k_is); (case l13 => k_is); (case c13 => k_is); (case k13 => k_is); (case a14 => k_is); (case l14 => k_is)
    (case c14 => k_is); (case k14 => k_is); (case a15 => k_is); (case l15 => k_is); (case c15 => k_is); (case k15 => k_is)
    (case a16 => k_is); (case l16 => k_is); (case c16 => k_is); (case k16 => k_is); (case a17 => k_is); (case l17 => k_is)
    (case c17 => k_is); (case k17 => k_is); (case a18 => k_is); (case l18 => k_is); (case c18 => k_is); (case k18 => k_is)
    (case z1 => k_is); (case z2 => k_is); (case z3 => k_is); (case z4 => k_is); (case z5 => k_is); (case z6 => k_is)
    (case z7 => k_is); (case z8 => k_is); (case z9 => k_is); (case z10 => k_is); (case z11 => k_is); (case z12 => k_is)
    (case z13 => k_is); (case z14 => k_is); (case z15 => k_is); (case z16 => k_is); (case z17 => k_is); (case z18 => k_is)

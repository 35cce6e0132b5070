import PyProof.Rows.All
import Wide.All
import OpenK.AllK
import Wide.FinOn
import HandS.ForMost
import HandS.SortInts
import HandS.TupAny
import HandS.Conv
import KE.KIndexOf
import PyProof.ReprRoads
import PyProof.ReprLen
import HandS.IsInst
import HandS.TupMul
import HandS.Zip
import HandS.TupLe
import KE.DataFind
import PySem.Challenge.RW_surehand_k01_rooms_and_lays
set_option Elab.async false
set_option linter.all false
set_option maxRecDepth 100000
set_option maxHeartbeats 4000000
/-! ### B0: what every law's text uses: a def by its name, calls, the end where nothing is being written out -/
namespace Su
open PySem PySem.Spec PyProof.Rows L2
/-- a def of the text stands under its name -/
structure At (K : PySem.W.Frag) (mg : Str → Option Value) (x : Str) (st : Stmt) (ps : List Str) : Prop where
  ex : ∃ (f : Addr) (fd : FuncData), Fun K x x st f fd ∧ mg x = some (.ref f) ∧ Binds K fd ps []
/-- a def that keeps a promise may be called by its name -/
structure Cal (P : Program) (w : World) (K : PySem.W.Frag) (mg : Str → Option Value) (base : Heap) (k : Nat) (x : Str) (ps : List Str) (sp : Sp) : Prop where
  ex : ∃ (f : Addr) (fd : FuncData), FnOk P w K mg base CX0 k f fd ps sp ∧ mg x = some (.ref f) ∧ PySem.W.keepIn K (.ref f) = true ∧ Binds K fd ps [] ∧ ∃ o : Obj, K.lookup f = some o ∧ o.data = .func fd
section
variable {P : Program} {w : World} {K : PySem.W.Frag} {mg : Str → Option Value} {base : Heap}
theorem cal_of {x : Str} {st : Stmt} {N ps : List Str} {k : Nat} {sp : Sp} (T : At K mg x st ps) (S : FnScope N ps (defScope st)) (len : ∀ vs H Q E, sp vs H Q E → vs.length = ps.length)
    (hb : ∀ (f : Addr) (cdv : Value) (A : Around) (outer : List Env) (s : Shared) (H : Hp) (vs : List V) (Q : VK) (E : XK), Room k (A.deeper (envOfC x (defScope st) s.heap.objs.size f cdv)) → sp vs H Q E →
      ∃ t, PSs (cxOf CX0 P w K mg base N x (defScope st) f cdv A outer s H E).nox (defBody st) t ∧ t { nx := fun _ H' => Q .non H', rt := Q } (start N vs) H) : Cal P w K mg base (k + 1) x ps sp := by
  obtain ⟨f, fd, F, hm, b⟩ := T.ex
  have z : ∃ o : Obj, K.lookup f = some o ∧ o.data = .func fd := by
    obtain ⟨oc, od, kV, doc, pm, an, cdv, ct, osl, _, lk, _⟩ := F.ex
    exact ⟨_, lk, rfl⟩
  exact ⟨f, fd, F.ok S len (fun cdv A outer s H vs Q E => hb f cdv A outer s H vs Q E), hm, F.kp, b, z⟩
end
section
variable {X : Cx} {k j : Nat} {x : Str} {ps : List Str} {sp : Sp} {p pos : Pos} {e : Expr} {es : List Expr} {t : TA}
theorem pe_own (C : Cal X.prog X.w X.K X.mg X.base k x ps sp) (hr : Room j X.A) (hk : k ≤ j) (hg : Gl X x) (ha : PA X (e :: es) t)
    (hdb : (x == ("__debug__" : Str)) = false := by decide) (he : starEach (e :: es) X.env = (false, eval e X.env) :: starEach es X.env := by rfl) (hpl : (backTo pos (starEach es X.env)).any (·.1) = false := by rfl) :
    PE X (.Call (.Name x p) (e :: es) [] pos) (tCall sp [] E0 t) := by
  obtain ⟨f, fd, F, hm, kp, b, _⟩ := C.ex
  exact pe_call F (hr.mono hk) hg hm kp b .nil (fun _ _ _ _ _ _ _ h => h.elim) ha hdb he hpl
theorem pe_own0 (C : Cal X.prog X.w X.K X.mg X.base k x ps sp) (hr : Room j X.A) (hk : k ≤ j) (hg : Gl X x) (hdb : (x == ("__debug__" : Str)) = false := by decide) :
    PE X (.Call (.Name x p) [] [] pos) (tCall sp [] E0 tNil) := by
  obtain ⟨f, fd, F, hm, kp, b, _⟩ := C.ex
  exact pe_call0 F (hr.mono hk) hg hm kp b .nil (fun _ _ _ _ _ _ _ h => h.elim) hdb
end
/-- the same promise, asked only where no object is being written out -/
structure FnG (P : Program) (w : World) (K : PySem.W.Frag) (mg : Str → Option Value) (base : Heap) (CX : CXT) (k : Nat) (f : Addr) (fd : FuncData) (ps : List Str) (sp : Sp) : Prop where
  len : ∀ vs H Q E, sp vs H Q E → vs.length = ps.length
  run : ∀ (A : Around) (outer : List Env) (s : Shared) (H : Hp) (args : Args) (us : List Value) (vs : List V) (Q : VK) (E : XK), A.guards = some [] → Room k A → Env0 P w K mg base A outer s H →
    BindsTo s fd args (ps.zip us) → Vals vs us → sp vs H Q E → codeAny (model P w) A (.call (.ref f) args) (CR CX outer P w H s Q E) s
theorem deeper_guards {A : Around} {e : Env} (h : A.guards = some []) : (A.deeper e).guards = some [] := by
  first
    | exact h
    | simpa [Around.deeper, Around.under, pushGuards, Code.guards, Code.isGuard] using h
theorem fnG_of {CX : CXT} {P : Program} {w : World} {K : PySem.W.Frag} {mg : Str → Option Value} {base : Heap} {k : Nat} {f : Addr} {nm ql : Str} {pr : Arguments} {bd : List Stmt} {sc : Scope} {dv kv dc pm cd ct oc : Value} {an od : Option Addr}
    {sl : Array (Option Value)} {N ps : List Str} {sp : Sp}
    (lk : K.lookup f = some ⟨oc, od, .func (PySem.W.fnOf nm ql pr bd sc dv kv dc pm an cd ct), sl⟩)
    (hcd : PySem.W.codeIn K cd ql = true) (S : FnScope N ps sc) (len : ∀ vs H Q E, sp vs H Q E → vs.length = ps.length)
    (hb : ∀ (A : Around) (outer : List Env) (s : Shared) (H : Hp) (vs : List V) (Q : VK) (E : XK), (A.deeper (envOfC ql sc s.heap.objs.size f cd)).guards = some [] → Room k (A.deeper (envOfC ql sc s.heap.objs.size f cd)) → sp vs H Q E →
      ∃ t, PSs (cxOf CX P w K mg base N ql sc f cd A outer s H E) bd t ∧ t { nx := fun _ H' => Q .non H', rt := Q } (start N vs) H) :
    FnG P w K mg base CX (k + 1) f (PySem.W.fnOf nm ql pr bd sc dv kv dc pm an cd ct) ps sp := by
  refine ⟨len, fun A outer s H args us vs Q E hgd hr e0 hbi rv hs => ?_⟩
  obtain ⟨t, ht, hq⟩ := hb A outer s H vs Q E (deeper_guards hgd) (hr.deeper _) hs
  -- the very same body, as a promise that asks for this surrounding alone
  have kin : K.In s.heap := e0.mod.kin.keeps fun b o z => (e0.bs b o z).1
  have nol : s.heap.NoLimit := e0.mod.nolimit.keeps fun b o z => (e0.bs b o z).1
  refine codeAny_call_function hr.depth (kin _ _ lk) rfl S.co S.gen rfl (PySem.W.codeRec_of kin hcd) (hbi _ _ _ _ ?_)
  refine wpAny_newFunctionEnv_cells S.kind (fun y hy => ?_) fun env he s1 x => ?_
  · rcases S.par y.1 (List.of_mem_zip (show (y.1, y.2) ∈ ps.zip us from hy)).1 with z | z
    · exact Or.inl z
    · exact Or.inr ⟨z, PySem.W.cellsFrom_some _ _ _ (Or.inl z)⟩
  · subst he
    refine ⟨nol.keeps x.toInCall.keep, codeAny_func (wpAny_mono (ht.run [] s1 (start N vs) H _ (inv_start S hr.hd e0 (len _ _ _ _ hs) rv x) hq) (fun fl s' z => ?_) fun _ _ z => z)⟩
    cases fl with
    | ret u =>
      obtain ⟨v, σ', H', J, r', q'⟩ := z
      exact ⟨v, H', J.os, J.bare, J.base, J.hok, r', q'⟩
    | next =>
      obtain ⟨σ', H', J, q'⟩ := z
      exact ⟨V.non, H', J.os, J.bare, J.base, J.hok, rfl, q'⟩
    | brk => exact (z.elim fun _ z => z.elim fun _ z => False.elim z.2)
    | cont => exact (z.elim fun _ z => z.elim fun _ z => False.elim z.2)
theorem hid_ns {h : Heap} {H : Hp} {b : Addr} {m : Str → Option Value} (no : ∀ (o : Obj) (es : Array DictEntry) (ep : Nat), h.get? b = some o → o.data = .dict es ep → H b = none) (n : h.Ns b m) : (hidT h H).Ns b m := by
  obtain ⟨o, es, ep, e, d, r⟩ := n
  exact ⟨o, es, ep, hidT_get e (no o es ep e d), d, r⟩
/-- the law's call, from a promise that is asked only where no object is being written out -/
theorem law_callG {P : Program} {w : World} {K : PySem.W.Frag} {mg mb : Str → Option Value} {CX : CXT} {k : Nat} {fa a : Addr} {fd : FuncData} {x : Str} {sp : Sp} {t : Shared} {vs : List Value} {ns : List Int}
    (KX : K.In t.heap) (g1 : t.heap.Ns mainGlobals mg) (g2 : t.heap.Ns builtinsNs mb) (g3 : ∀ y : Str, y ≠ "__name__" → mb y = bootBuiltins y) (g4 : t.heap.NoLimit) (g5 : t.gens = #[])
    (ha : t.heap.get? a = some { cls := .type "list", data := .seq vs.toArray }) (hi : IntsAre vs ns) (hl : ns.length ≤ sizeLine) (hr : Room k callerA)
    (F : ∀ bs : Heap, K.In bs → bs.Ns mainGlobals mg → FnG P w K mg bs CX k fa fd [x] sp) (hbi : ∀ (s : Shared) (u : Value), BindsTo s fd ⟨[u], []⟩ [(x, u)])
    (hsp : ∀ H : Hp, Only H → SqL K H a (ns.map V.int) → sp [.ref a] H (fun v _ => v = .bl true) fun _ _ _ => False)
    (hCX : ∀ H e s', CX [] H t (fun _ _ _ => False) e s' → False) :
    codeAny (model P w) callerA (.call (.ref fa) ⟨[.ref a], []⟩) (fun r s' => r = .ok (.ret (.bool true)) ∧ OldK t.heap s'.heap ∧ s'.os = t.os ∧ AllBare s'.gens) t := by
  have rv := vals_ints hi
  have main : ∀ H : Hp, Only H → SqL K H a (ns.map V.int) → HOk P w H t.heap → (∀ b, H b ≠ none → b = a) → (H a ≠ none → K.lookup a = none) →
      codeAny (model P w) callerA (.call (.ref fa) ⟨[.ref a], []⟩) (fun r s' => r = .ok (.ret (.bool true)) ∧ OldK t.heap s'.heap ∧ s'.os = t.os ∧ AllBare s'.gens) t := by
    intro H only hS hok one out
    have no : ∀ (b : Addr) (o : Obj) (es : Array DictEntry) (ep : Nat), t.heap.get? b = some o → o.data = .dict es ep → H b = none := by
      intro b o es ep e d
      cases z : H b with
      | none => rfl
      | some u =>
        obtain rfl : b = a := one b (by rw [z]; simp)
        rw [ha] at e
        cases e
        exact absurd d (by simp)
    have kb : K.In (hidT t.heap H) := by
      intro b o e
      refine hidT_get (KX b o e) ?_
      cases z : H b with
      | none => rfl
      | some u =>
        obtain rfl : b = a := one b (by rw [z]; simp)
        rw [out (by rw [z]; simp)] at e
        cases e
    have ng : (hidT t.heap H).Ns mainGlobals mg := hid_ns (no _) g1
    have md : Mod K mg (hidT t.heap H) := ⟨kb, ng, ⟨mb, hid_ns (no _) g2, g3⟩, g4.elim fun mc h => ⟨mc, hid_ns (no _) h.1, h.2⟩⟩
    have ev : Env0 P w K mg (hidT t.heap H) callerA [] t H :=
      ⟨rfl, md, fun b o e => of_hidT e, Nat.le_of_eq (hidT_size _ _), trivial, fun b z => (List.not_mem_nil z).elim, hok, .of_eq g5⟩
    refine codeAny_mono ((F _ kb ng).run callerA [] t H ⟨[.ref a], []⟩ [.ref a] [.ref a] _ _ rfl hr ev (hbi t (.ref a)) (.cons rfl .nil) (hsp H only hS)) fun r s' h => ?_
    match r, h with
    | .error e, h => exact (hCX H e s' h).elim
    | .ok .next, h => exact False.elim h
    | .ok .brk, h => exact False.elim h
    | .ok .cont, h => exact False.elim h
    | .ok (.ret u), h =>
      obtain ⟨v, H', os, bare, un, hok2, r2, q⟩ := h
      obtain rfl : v = .bl true := q
      obtain rfl : u = Value.bool true := r2
      refine ⟨rfl, OldK.of_keep fun b o e => ?_, os, bare⟩
      rcases only b with z | ⟨ob, xs, z⟩
      · exact un.keep b o e z (fun y => (List.not_mem_nil y).elim) (by simp)
      · have y1 := (hok b _ z).1
        have y2 := (hok2 b _ (un.frzs b ob _ z)).1
        rw [e] at y1
        cases y1
        exact y2
  cases hk : K.lookup a with
  | some o =>
    have e := KX a o hk
    rw [ha] at e
    cases e
    refine main (fun _ => none) (fun _ => .inl rfl) (.inr ⟨_, vs.toArray, _, hk, rfl, rfl, rfl, ?_, ?_⟩) (fun b u z => nomatch (show (none : Option HO) = some u from z)) (fun b z => absurd rfl z) fun z => absurd rfl z
    · rw [List.size_toArray, hi.length]
      exact hl
    · simpa using rv
  | none =>
    have at1 : (fun b => if b = a then some (HO.frz { cls := .type "list", data := .seq vs.toArray } (.lst (ns.map V.int))) else none : Hp) a = some (HO.frz { cls := .type "list", data := .seq vs.toArray } (.lst (ns.map V.int))) := if_pos rfl
    refine main (fun b => if b = a then some (.frz { cls := .type "list", data := .seq vs.toArray } (.lst (ns.map V.int))) else none) (fun b => ?_) (.inl (.inr ⟨_, at1⟩)) (fun b u z => ?_) (fun b z => ?_) fun _ => hk
    · by_cases e : b = a
      · exact .inr ⟨_, _, if_pos e⟩
      · exact .inl (if_neg e)
    · by_cases e : b = a
      · subst e
        have y := at1.symm.trans z
        cases y
        exact ⟨ha, by rw [List.length_map]; exact hl, vs, _, rv, ha⟩
      · exact nomatch ((if_neg e).symm.trans z)
    · by_cases e : b = a
      · exact e
      · exact absurd (if_neg e) z
theorem walk_ofG {l : PySem.W.OpenLaw} {n k : Nat} {q : Program} {loose : List Str} {XP : (Str → Option Value) → Heap → Prop} {YP : World → Heap → Prop} {d : DefRec} {K : Params → PySem.W.Frag} {CX : CXT} {sp : PySem.W.Frag → Sp} {x : Str}
    (hn : l.most = some n) (hn2 : n ≤ sizeLine) (hdf : d.params.defaults = []) (hr : Room k callerA) (hY : ∀ (w : World) (h : Heap), YP w h → (K w.params).In h)
    (F : ∀ (w : World) (mg : Str → Option Value) (fa : Addr) (h : Heap), (K w.params).In h → h.Ns mainGlobals mg → mg d.name = some (.ref fa) →
      ∃ fd : FuncData, (∀ (s : Shared) (u : Value), BindsTo s fd ⟨[u], []⟩ [(x, u)]) ∧
        ∀ bs : Heap, (K w.params).In bs → bs.Ns mainGlobals mg → FnG l.prog w (K w.params) mg bs CX k fa fd [x] (sp (K w.params)))
    (hsp : ∀ (K : PySem.W.Frag) (H : Hp) (a : Addr) (ns : List Int), ns.length ≤ n → SqL K H a (ns.map V.int) → sp K [.ref a] H (fun v _ => v = .bl true) fun _ _ _ => False)
    (hCX : ∀ (H : Hp) (s : Shared) (e : Value) (s' : Shared), CX [] H s (fun _ _ _ => False) e s' → False) :
    PySem.W.WalkO q loose XP YP l.row.toRowW d [] (fun f vs => PySem.call f vs) := by
  refine Att.attach_call hn hdf fun w s₀ t mg mb fa o pm cd doc a vs ns G Y ho hd hcd hmg hobj hints hlen hg => ?_
  have KX := hY w _ Y
  obtain ⟨fd, hb, hF⟩ := F w mg fa _ KX G.T.g hmg
  exact law_callG KX G.T.g G.T.b G.T.builtins G.T.nolimit hg hobj hints (Nat.le_trans hlen hn2) hr hF hb (fun H _ hS => hsp (K w.params) H a ns hlen hS) fun H e s' => hCX H t e s'
end Su
/-! ### B1: repr of data, t.index(n), a call by keywords alone, data that is small enough -/
namespace Su
open PySem PySem.Spec PyProof.Rows L2
/-- data of small numbers, of depth n at most, of weight m at most -/
structure Fine (d : PyData) (n m : Nat) : Prop where
  sh : d.showable = true
  nd : d.hasDict = false
  dp : d.depth ≤ n
  lv : d.leavesShort 13 = true
  wt : d.weight ≤ m
  cl : d.canLay0 = true
structure FineL (ds : List PyData) (n m : Nat) : Prop where
  sh : PyData.showableAll ds = true
  nd : PyData.hasDictAll ds = false
  dp : PyData.depthAll ds ≤ n
  lv : PyData.leavesShortAll 13 ds = true
  wt : PyData.weightAll ds ≤ m
  cl : PyData.canLayAll0 ds = true
theorem Fine.int {i : Int} (h1 : -1000000 ≤ i) (h2 : i ≤ 1000000) : Fine (.int i) 0 40 := by
  have hb : i.natAbs < 10 ^ 12 := by omega
  have e : i.natAbs < 2 ^ 20 := by omega
  have hl : i.natAbs.log2 < 39 := by
    by_cases z : i.natAbs = 0
    · rw [z]
      decide
    · exact (Nat.log2_lt z).mpr (by omega)
  refine ⟨?_, by simp [PyData.hasDict], by simp [PyData.depth], ?_, ?_, by first | rfl | simp [PyData.canLay0]⟩
  · simp only [PyData.showable, decide_eq_true_eq]
    omega
  · simp only [PyData.leavesShort, decide_eq_true_eq]
    exact PyData.shown_int_le hb
  · simp only [PyData.weight]
    split <;> omega
theorem Fine.bool (b : Bool) : Fine (.bool b) 0 0 := ⟨by simp [PyData.showable], by simp [PyData.hasDict], by simp [PyData.depth], by simp [PyData.leavesShort], by simp [PyData.weight], by first | rfl | simp [PyData.canLay0]⟩
theorem Fine.none : Fine .none 0 0 := ⟨by simp [PyData.showable], by simp [PyData.hasDict], by simp [PyData.depth], by simp [PyData.leavesShort], by simp [PyData.weight], by first | rfl | simp [PyData.canLay0]⟩
theorem FineL.nil {n : Nat} : FineL [] n 0 := ⟨by simp [PyData.showableAll], by simp [PyData.hasDictAll], by simp [PyData.depthAll], by simp [PyData.leavesShortAll], by simp [PyData.weightAll], by first | rfl | simp [PyData.canLayAll0]⟩
theorem FineL.cons {d : PyData} {ds : List PyData} {n m k : Nat} (h : Fine d n m) (t : FineL ds n k) : FineL (d :: ds) n (m + 1 + k) := by
  refine ⟨?_, ?_, ?_, ?_, ?_, ?_⟩
  · simp only [PyData.showableAll, h.sh, t.sh, Bool.and_self]
  · simp only [PyData.hasDictAll, h.nd, t.nd, Bool.or_self]
  · simp only [PyData.depthAll]
    have := h.dp
    have := t.dp
    omega
  · simp only [PyData.leavesShortAll, h.lv, t.lv, Bool.and_self]
  · simp only [PyData.weightAll]
    have := h.wt
    have := t.wt
    omega
  · simp only [PyData.canLayAll0, h.cl, t.cl, Bool.and_self]
theorem Fine.tuple {ds : List PyData} {n m : Nat} (t : FineL ds n m) : Fine (.tuple ds) (n + 1) m :=
  ⟨by simpa only [PyData.showable] using t.sh, by simpa only [PyData.hasDict] using t.nd, by simp only [PyData.depth]; have := t.dp; omega, by simpa only [PyData.leavesShort] using t.lv, by simpa only [PyData.weight] using t.wt, by simpa only [PyData.canLay0] using t.cl⟩
theorem Fine.list {ds : List PyData} {n m : Nat} (t : FineL ds n m) : Fine (.list ds) (n + 1) m :=
  ⟨by simpa only [PyData.showable] using t.sh, by simpa only [PyData.hasDict] using t.nd, by simp only [PyData.depth]; have := t.dp; omega, by simpa only [PyData.leavesShort] using t.lv, by simpa only [PyData.weight] using t.wt, by simpa only [PyData.canLay0] using t.cl⟩
theorem Fine.up {d : PyData} {n m n' m' : Nat} (h : Fine d n m) (a : n ≤ n') (b : m ≤ m') : Fine d n' m' := ⟨h.sh, h.nd, Nat.le_trans h.dp a, h.lv, Nat.le_trans h.wt b, h.cl⟩
theorem FineL.ints : ∀ ns : List Int, (∀ z ∈ ns, -1000000 ≤ z ∧ z ≤ 1000000) → FineL (ns.map PyData.int) 0 (41 * ns.length)
  | [], _ => FineL.nil
  | z :: ns, h => by
    have a := FineL.cons (Fine.int (h z List.mem_cons_self).1 (h z List.mem_cons_self).2) (FineL.ints ns fun y hy => h y (List.mem_cons_of_mem _ hy))
    have e : 40 + 1 + 41 * ns.length = 41 * (z :: ns).length := by
      rw [List.length_cons]
      omega
    rw [e] at a
    exact a
theorem Fine.len {d : PyData} {n m : Nat} (h : Fine d n m) (hm : m ≤ 1000000) : d.shown.length ≤ sizeLine := PyData.shown_fits (B := 13) (by decide) (by decide) h.lv (by have := h.wt; omega)
theorem Fine.shaped {d : PyData} {n m : Nat} (h : Fine d n m) (hn : n ≤ 64) : SeqAt.shaped d = true := by
  unfold SeqAt.shaped
  rw [h.cl, Bool.true_and, decide_eq_true_eq]
  exact Nat.le_trans h.dp hn
theorem Fine.eqv {d : PyData} {n m : Nat} (h : Fine d n m) : PyData.eqv d d = true := SeqAt.eqv_refl d h.cl
section
variable {X : Cx}
/-- repr(x), x a list or tuple of data -/
def rReprD (K : PySem.W.Frag) : List V → Hp → VK → Prop := fun xs H Q => ∃ (a : Addr) (d : PyData) (n m : Nat), xs = [.ref a] ∧ Dp K H (.ref a) d ∧ Fine d n m ∧ n ≤ 60 ∧ m ≤ 1000000 ∧ Q (.str d.shown) H
theorem call_reprD (hg : X.A.guards = some []) (hu : X.A.units + 64 < cLine) : CallR X (.builtin "repr") (rReprD X.K) := by
  intro pins s σ H xs us Q I r h
  obtain ⟨a, d, n, m, rfl, hd, hf, hn, hm, q⟩ := h
  rw [Vals.ref1 r]
  obtain ⟨as, rd⟩ := Dp.reads I d _ (.ref a) hd rfl
  refine repr_of_reads' rd hf.sh (PyData.noDict_hsm hf.nd) hg (by have := hf.dp; omega) (fun _ _ z => z) (fun h' u tk hk => ⟨.str d.shown, H, I.kept hk, ⟨u, rfl⟩, q⟩) (hf.len hm)
/-- t.index(n), t a tuple of ints that has n -/
def rTIndex (K : PySem.W.Frag) : V → List V → Hp → VK → Prop := fun x xs H Q => ∃ (p : Addr) (ns : List Int) (k : Int), x = .ref p ∧ xs = [.int k] ∧ SqT K H p (ns.map V.int) ∧ k ∈ ns ∧ Q (.int (ns.idxOf k : Nat)) H
theorem ints_of : ∀ {ns : List Int} {vs : List Value}, Vals (ns.map V.int) vs → IntsAre vs ns
  | [], _, r => by
    cases r
    exact .nil
  | n :: ns, _, r => by
    cases r with
    | cons r1 r2 =>
      obtain ⟨t, rfl⟩ := r1
      exact .cons _ _ (ints_of r2)
theorem mt_tindex : MtR X "tuple.index" (rTIndex X.K) := by
  intro pins s σ H x xs v us Q I rx rs h
  obtain ⟨p, ns, k, rfl, rfl, hq, hk, q⟩ := h
  cases rx
  obtain ⟨u, rfl, t, rfl⟩ := vals1 rs
  obtain ⟨its, r, pl, hz⟩ := I.tuple hq
  exact PySem.SeqAt.tuple_index_ints (l := p) (vs := its) pl (ints_of r) hk ⟨.int (ns.idxOf k : Nat), H, I.tok _, ⟨_, rfl⟩, q⟩
end
section
variable {X : Cx} {k j : Nat} {x : Str} {ps ks : List Str} {sp : Sp} {p pos : Pos} {kws : List Keyword} {tk : TA}
/-- a def that keeps a promise, called by keywords alone -/
structure KCal (P : Program) (w : World) (K : PySem.W.Frag) (mg : Str → Option Value) (base : Heap) (k : Nat) (x : Str) (ks : List Str) (gV : List V → List V → List V) (sp : Sp) : Prop where
  ex : ∃ (f : Addr) (fd : FuncData) (ps : List Str) (g : List Value → List Value → List Value), FnOk P w K mg base CX0 k f fd ps sp ∧ mg x = some (.ref f) ∧ PySem.W.keepIn K (.ref f) = true ∧ KBinds K fd ps ks g gV
variable {gV : List V → List V → List V}
def tKws (sp : Sp) (gV : List V → List V → List V) (tk : TA) : TE := fun σ H Q => tk σ H fun zs H2 => sp (gV [] zs) H2 Q E0
theorem pe_ownK (C : KCal X.prog X.w X.K X.mg X.base k x ks gV sp) (hr : Room j X.A) (hk : k ≤ j) (hg : Gl X x) (hkw : PK X kws tk)
    (hall : (backToKw pos (keywordEach kws X.env)).all (·.1.isSome) = true := by rfl) (hks : (backToKw pos (keywordEach kws X.env)).filterMap (·.1) = ks := by rfl) (hdb : (x == ("__debug__" : Str)) = false := by decide)
    (hpl : ((backTo pos (starEach [] X.env)).any (·.1) || (backToKw pos (keywordEach kws X.env)).any (·.1.isNone)) = false := by rfl) : PE X (.Call (.Name x p) [] kws pos) (tKws sp gV tk) := by
  obtain ⟨f, fd, ps, g, F, hm, kp, b⟩ := C.ex
  refine ⟨fun pins s σ H Q I h => ?_⟩
  refine wpAny_Call_Name_kw (ld_glob I hg hm ?_ hdb)
  refine PySem.W.callWith_KW0 (h₀ := X.base) I.ok.mod.kin kp hall (thn (hkw.run pos pins s σ H _ I h) fun ws s2 ⟨zs, H2, I2, rz, q2⟩ => ⟨I2.kIn, ?_⟩) hpl
  rw [hks]
  exact run_fnk F (hr.mono hk) b (fun _ _ _ _ _ _ _ z => z.elim) I2 .nil rz q2
end
end Su
/-! ### B2: tuples whose object is known to have no dict: their methods may be called -/
namespace Su
open PySem PySem.Spec PyProof.Rows L2
def PTup (H : Hp) (a : Addr) (xs : List V) : Prop := ∃ o : Obj, H a = some (.frz o (.tup xs)) ∧ o.dict = none
theorem PTup.sq {K : PySem.W.Frag} {H : Hp} {a : Addr} {xs : List V} (h : PTup H a xs) : SqT K H a xs := by
  obtain ⟨o, e, _⟩ := h
  exact .inl (.inr ⟨o, e⟩)
theorem PTup.same {H H' : Hp} {a : Addr} {xs : List V} (h : PTup H a xs) (s : Same H H') : PTup H' a xs := by
  obtain ⟨o, e, d⟩ := h
  exact ⟨o, s _ _ e, d⟩
theorem same_upd {H : Hp} {p : Addr} {o : HO} (h : H p = none) : Same H (upd H p o) := fun b x e => by
  rw [upd_ne (ne_of_none e h)]
  exact e
section
variable {X : Cx} {pins : List (Addr × Obj)} {σ : L2.St} {H : Hp} {s : Shared}
/-- a new tuple's object -/
abbrev tupO (its : List Value) : Obj := { cls := .type "tuple", data := .seq its.toArray }
theorem laidF {xs : List V} {its : List Value} (I : Inv X pins σ H s) (r : Vals xs its) (hz : xs.length ≤ sizeLine) (t' : Tok) :
    Inv X pins σ (upd H s.heap.objs.size (.frz (tupO its) (.tup xs))) { s with heap := s.heap.push (tupO its), toks := t' } := by
  refine I.laid (t' := t') (o := .frz (tupO its) (.tup xs)) (fun b ob q => Heap.get?_push_of_some _ q) (Nat.le_refl _) ?_
  exact ⟨Heap.get?_push_size _ rfl, hz, its, r, IsTup.new _ _⟩
theorem newF {xs : List V} {its : List Value} {Q : VK} (I : Inv X pins σ H s) (r : Vals xs its) (hz : xs.length ≤ sizeLine) (q : ∀ v H', Same H H' → H v = none → PTup H' v xs → Q (.ref v) H') (t' : Tok) :
    EP X pins σ Q (.ref s.heap.objs.size) { s with heap := s.heap.push (tupO its), toks := t' } :=
  have hf : H s.heap.objs.size = none := I.hok.fresh (Nat.le_refl _)
  ⟨.ref s.heap.objs.size, _, laidF I r hz t', rfl, q _ _ (same_upd hf) hf ⟨_, upd_same, rfl⟩⟩
end
section
variable {X : Cx} {es : List Expr} {t : TA} {pos : Pos}
def tTupF (t : TA) : TE := fun σ H Q => t σ H fun xs H1 => xs.length ≤ sizeLine ∧ ∀ v H', Same H1 H' → H1 v = none → PTup H' v xs → Q (.ref v) H'
theorem pe_tupF {x1} (h : PA X es t) : PE X (.Tuple es x1 pos) (tTupF t) := by
  refine ⟨fun pins s σ H Q I hq => ?_⟩
  refine wpAny_Tuple_spliced (thn (h.run pos pins s σ H _ I hq) fun us s1 ⟨xs, H1, I1, r, z, q⟩ => ⟨by rw [← r.length]; exact z, ?_⟩)
  exact newF I1 r z q s1.toks
def rTupL (K : PySem.W.Frag) : List V → Hp → VK → Prop := fun xs H Q => ∃ p ys, xs = [.ref p] ∧ SqL K H p ys ∧ ∀ v H', Same H H' → H v = none → PTup H' v ys → Q (.ref v) H'
theorem call_tupleF : CallR X (.type "tuple") (rTupL X.K) := by
  intro pins s σ H xs us Q I r h
  obtain ⟨p, ys, rfl, hq, q⟩ := h
  obtain ⟨u, rfl, rx⟩ := vals1 r
  cases rx
  obtain ⟨its, r', pl, hz⟩ := I.list hq
  have hlen := r'.length
  refine call_tuple_list pl.isList (fun h' kp => ?_) (by simp only [List.size_toArray] <;> omega)
  exact newF (s := { s with heap := h' }) (I.kept (t' := s.toks) kp) r' hz q s.toks
def rCatF : R2 := fun x y H Q => ∃ a b xs ys, x = .ref a ∧ y = .ref b ∧ PTup H a xs ∧ PTup H b ys ∧ xs.length + ys.length ≤ sizeLine ∧ ∀ v H', Same H H' → PTup H' v (xs ++ ys) → Q (.ref v) H'
theorem op_catF : OpR X (binaryOp .Add) rCatF := by
  intro pins s σ H x y v u Q I rx ry h
  obtain ⟨a, b, xs, ys, rfl, rfl, ha, hb, hz, q⟩ := h
  cases rx
  cases ry
  obtain ⟨its, r1, p1, _⟩ := I.tuple (ha.sq (K := X.K))
  obtain ⟨its2, r2, p2, _⟩ := I.tuple (hb.sq (K := X.K))
  by_cases hx : xs = []
  · subst hx
    cases r1
    exact cat_tup0 p1 p2 ⟨.ref b, H, I, rfl, q b H (Same.refl H) hb⟩
  · refine HT.cat_tup p1 p2 (fun z => hx (r1.nil_iff.mp z)) (fun z => ⟨.ref a, H, I, rfl, q a H (Same.refl H) ?_⟩) (fun z => ?_) (by rw [← r1.length, ← r2.length]; exact hz)
    · rw [r2.nil_iff.mp z, List.append_nil]
      exact ha
    · exact newF I (r1.append r2) (by rw [List.length_append]; exact hz) (fun v H' s' _ h => q v H' s' h) s.toks
def rSlF : V → Option Int → Option Int → Hp → VK → Prop := fun x lo hi H Q => ∃ a xs, x = .ref a ∧ PTup H a xs ∧ ∀ v H', Same H H' → PTup H' v (cutV xs lo hi) → Q (.ref v) H'
theorem sl_tupF : SlR X rSlF := by
  intro pins s σ H x v vl vu lo hi sl Q I rx hs pl pu h
  obtain ⟨a, xs, rfl, hx, q⟩ := h
  cases rx
  obtain ⟨its, r, ht, hz⟩ := I.tuple (hx.sq (K := X.K))
  have hlen : its.toArray.size = xs.length := by rw [List.size_toArray]; exact r.length.symm
  refine ⟨"tuple", _, PyProof.Rows.slot_tuple_getitem.lookup, ht.typeIs, ?_⟩
  by_cases hw : HT.sIx xs.length 0 lo = 0 ∧ HT.sIx xs.length xs.length hi = xs.length
  · refine getItem_tuple_whole ht hs pl pu (by rw [hlen]; exact hw) ⟨.ref a, H, I, rfl, q a H (Same.refl H) ?_⟩
    have z : cutV xs lo hi = xs := by
      unfold cutV
      rw [hw.1, hw.2, Nat.sub_zero, List.drop_zero, List.take_length]
    rw [z]
    exact hx
  · refine HT.getItem_tuple_cut ht hs pl pu (by rw [hlen]; exact hw) ?_ (by rw [hlen]; exact hz)
    rw [hlen]
    exact newF I ((r.drop (HT.sIx xs.length 0 lo)).take (HT.sIx xs.length xs.length hi - HT.sIx xs.length 0 lo)) (Nat.le_trans (cutV_length xs lo hi) hz) (fun v H' s' _ h => q v H' s' h) s.toks
/-- t.m(e, ..), t such a tuple -/
def tMT (r : V → List V → Hp → VK → Prop) (to : TE) (t : TA) : TE := fun σ H Q => to σ H fun x H1 => (∃ a xs, x = .ref a ∧ PTup H1 a xs) ∧ t σ H1 fun xs H2 => r x xs H2 Q
variable {o e : Expr} {to : TE} {name : Str} {apos cpos : Pos} {id : String} {r : V → List V → Hp → VK → Prop}
theorem pe_mT (slot : Slot "tuple" name id) (hty : typeOf (.builtin id) = pure (.type "method_descriptor")) (hm : MtR X id r) (ho : PE X o to) (ha : PA X (e :: es) t)
    (hbase : attributeBase o name X.env (eval o X.env) = eval o X.env := by rfl)
    (hfew : ((backTo cpos (starEach (e :: es) X.env)).all (fun x => !x.1) && (backToKw cpos (keywordEach [] X.env)).all (fun x => x.1.isSome) && decide ((e :: es).length + ([] : List Keyword).length + (if ([] : List Keyword).isEmpty then 0 else 1) < 30)) = true := by rfl)
    (hline : (apos.endLine == cpos.line) = true := by rfl) (hs : starEach (e :: es) X.env = (false, eval e X.env) :: starEach es X.env := by rfl) (hplain : (backTo cpos (starEach es X.env)).any (·.1) = false := by rfl) :
    PE X (.Call (.Attribute o name apos) (e :: es) [] cpos) (tMT r to t) := by
  refine ⟨fun pins s σ H Q I h => ?_⟩
  refine wpAny_Call_method_late hbase hfew hline rfl (thn (ho.run pins s σ H _ I h) fun v s1 ⟨x, H1, I1, r1, ⟨a, xs, ex, pt⟩, q1⟩ => ?_)
  subst ex
  cases r1
  obtain ⟨its, rv, tp, _⟩ := I1.tuple (pt.sq (K := X.K))
  obtain ⟨ob, eo, ed⟩ := pt
  have g1 := (I1.hok a _ eo).1
  refine ⟨"tuple", id, PySem.F.plainAttrs_tuple, slot, hty, tp.typeIs, fun b eb => ?_, ?_⟩
  · cases eb
    exact ⟨ob, g1, ed⟩
  have hA := ha.run cpos pins s1 σ H1 _ I1 q1
  rw [hs] at hA ⊢
  refine Calls.callWith_builtin (by show (false || (backTo cpos (starEach es X.env)).any (·.1)) = false; rw [hplain] <;> rfl) (Calls.evalArgs_plain ?_)
  exact thn hA fun us s2 ⟨vs, H2, I2, r2, q2⟩ => hm pins s2 σ H2 (.ref a) vs _ us Q I2 rfl r2 q2
end
end Su
namespace Su
open PySem PySem.Spec PyProof.Rows L2
def topS (i : Nat) : Stmt := PySem.Challenge.pw_surehand_k01_rooms_and_lays.main.body.getD i (.Pass ⟨0, 0, 0, 0⟩)
abbrev sIsWhole : Stmt := topS 6
abbrev sIsRoom : Stmt := topS 7
abbrev sIsWay : Stmt := topS 8
abbrev sIsSize : Stmt := topS 9
abbrev sHowMany : Stmt := topS 10
abbrev sIsSlot : Stmt := topS 11
abbrev sIsBit : Stmt := topS 12
abbrev sAreSlots : Stmt := topS 13
abbrev sAreBits : Stmt := topS 14
abbrev sIsLay : Stmt := topS 15
abbrev sPool : Stmt := topS 17
abbrev sTake : Stmt := topS 18
abbrev sWhole : Stmt := topS 19
abbrev sPicked : Stmt := topS 20
abbrev sPlaces : Stmt := topS 21
abbrev sSort : Stmt := topS 22
abbrev sBig : Stmt := topS 23
abbrev sCells : Stmt := topS 24
abbrev sMarks : Stmt := topS 25
abbrev sLawLay : Stmt := topS 26
abbrev sBent : Stmt := topS 27
abbrev sLaw : Stmt := topS 28
end Su
namespace Su
open PySem PySem.Spec PyProof.Rows L2
/-- the built-in names that the text does not bind -/
structure Bt (mg : Str → Option Value) : Prop where
  len : mg "len" = none
  sum : mg "sum" = none
  abs : mg "abs" = none
  int : mg "int" = none
  min : mg "min" = none
  max : mg "max" = none
  range : mg "range" = none
  sorted : mg "sorted" = none
  list : mg "list" = none
  tuple : mg "tuple" = none
  repr : mg "repr" = none
  set : mg "set" = none
  all : mg "all" = none
  isinstance : mg "isinstance" = none
  str : mg "str" = none
  bool : mg "bool" = none
theorem cutV_ints (ns : List Int) (lo hi : Option Int) : ∃ ms : List Int, cutV (ns.map V.int) lo hi = ms.map V.int := by
  unfold cutV
  exact ⟨_, by rw [← List.map_drop, ← List.map_take]⟩
theorem atI_int {α : Type} {xs : List α} {i : Int} {v : α} (h0 : 0 ≤ i) (h : xs[i.toNat]? = some v) : atI xs i = some v := by
  have e := atI_nat h
  rw [Int.toNat_of_nonneg h0] at e
  exact e
theorem b01 (b : Bool) : -(2 ^ 64) < (if b = true then (1 : Int) else 0) ∧ (if b = true then (1 : Int) else 0) < 2 ^ 64 := by
  cases b <;> exact ⟨by decide, by decide⟩
/-! the pool -/
def PoolO (o : HO) : Prop := ∃ g m : Int, o = .lst [.int g, .int m] ∧ 0 ≤ g ∧ 0 ≤ m ∧ m < 2147483647
def PoolAt (H : Hp) (p : Addr) : Prop := ∃ o, H p = some o ∧ PoolO o
def spTake : Sp := fun vs H Q _ => ∃ (p : Addr) (many : Int), vs = [.ref p, .int many] ∧ PoolAt H p ∧ 1 ≤ many ∧ many < 1000000 ∧
  ∀ (r : Int) (o : HO), 0 ≤ r → r < many → PoolO o → Q (.int r) (upd H p o)
def spPool (K : PySem.W.Frag) : Sp := fun vs H Q _ => ∃ (a : Addr) (ns : List Int) (k : Int), vs = [.ref a, .int k] ∧ SqL K H a (ns.map V.int) ∧ 0 ≤ k ∧ k < 1000 ∧
  ∀ (p : Addr) (H' : Hp), Same H H' → H p = none → PoolAt H' p → Q (.ref p) H'
theorem scTake : FnScope ["_law_pool_here", "_law_many", "_law_found"] ["_law_pool_here", "_law_many"] (defScope sTake) := ⟨rfl, rfl, rfl, by decide +kernel, rfl, by decide +kernel, by decide +kernel⟩
theorem scPool : FnScope ["_law_script", "_law_k", "_law_cell", "_law_great", "_law_mixed"] ["_law_script", "_law_k"] (defScope sPool) := ⟨rfl, rfl, rfl, by decide +kernel, rfl, by decide +kernel, by decide +kernel⟩
section
variable {P : Program} {w : World} {K : PySem.W.Frag} {mg : Str → Option Value} {base : Heap}
theorem ok_take (T : At K mg "_law_take" sTake ["_law_pool_here", "_law_many"]) : Cal P w K mg base 1 "_law_take" ["_law_pool_here", "_law_many"] spTake := by
  refine cal_of T scTake (fun vs H Q E h => ?_) (fun f cdv A outer s H vs Q E hr h => ?_)
  · obtain ⟨p, many, rfl, _⟩ := h
    rfl
  · obtain ⟨p, many, rfl, ⟨o, hp, g, m, rfl, g0, m0, m1⟩, n1, n2, q⟩ := h
    refine ⟨_, (pss_cons (ps_if (pt_cmpR op_gt (pe_ix ix_list (pv 0) pe_int (fun _ _ => rfl)) pe_int (nomark _)) (pss_cons (ps_set (i := 2) scTake.nd rfl (Or.inl rfl) (pe_op op_mod (pe_ix ix_list (pv 0) pe_int (fun _ _ => rfl)) (pv 1)))
      (pss_cons (ps_asg (pe_op op_fdiv (pe_ix ix_list (pv 0) pe_int (fun _ _ => rfl)) (pv 1)) (pg_sub (pv 0) pe_int set_list))
      (pss_one (ps_ret (pv 2))))) pss_nil)
      (pss_cons (ps_asg (pe_op op_mod (pe_op op_add (pe_op op_mul (pe_ix ix_list (pv 0) pe_int (fun _ _ => rfl)) pe_int) pe_int) pe_int) (pg_sub (pv 0) pe_int set_list))
      (pss_one (ps_ret (pe_op op_mod (pe_op op_fdiv (pe_op op_mod (pe_op op_mul (pe_ix ix_list (pv 0) pe_int (fun _ _ => rfl)) (pe_ix ix_list (pv 0) pe_int (fun _ _ => rfl))) pe_int) pe_int) (pv 1)))))), ?_⟩
    refine ⟨_, rfl, p, _, _, _, rfl, rfl, SqL.of hp, atI_nat (j := 0) rfl, _, _, rfl, rfl, _, rfl, ite2 (fun e => ?_) (fun e => ?_)⟩
    · refine ⟨_, rfl, p, _, _, _, rfl, rfl, SqL.of hp, atI_nat (j := 0) rfl, _, rfl, _, _, rfl, rfl, (by omega), ?_⟩
      refine ⟨_, rfl, p, _, _, _, rfl, rfl, SqL.of hp, atI_nat (j := 0) rfl, _, rfl, _, _, rfl, rfl, ⟨by omega, by omega⟩, ?_⟩
      refine ⟨_, rfl, p, _, _, 0, rfl, rfl, hp, rfl, ?_⟩
      refine ⟨_, rfl, q _ _ (Int.emod_nonneg _ (by omega)) (Int.emod_lt_of_pos _ (by omega)) ⟨_, _, rfl, Int.ediv_nonneg g0 (by omega), m0, m1⟩⟩
    · refine ⟨_, rfl, p, _, _, _, rfl, rfl, SqL.of hp, atI_nat (j := 1) rfl, _, _, rfl, rfl, .inl ⟨by omega, by omega⟩, _, _, rfl, rfl, _, _, rfl, rfl, (by show (0 : Int) < 2147483647; decide), ?_⟩
      refine ⟨_, rfl, p, _, _, 1, rfl, rfl, hp, rfl, ?_⟩
      have e0 : 0 ≤ (m * 48271 + 11) % 2147483647 := Int.emod_nonneg _ (by decide)
      have e1 : (m * 48271 + 11) % 2147483647 < 2147483647 := Int.emod_lt_of_pos _ (by decide)
      refine ⟨_, rfl, p, _, _, _, rfl, rfl, SqL.of upd_same, atI_nat (j := 1) rfl, _, rfl, p, _, _, _, rfl, rfl, SqL.of upd_same, atI_nat (j := 1) rfl, _, _, rfl, rfl, .inl ⟨by omega, by omega⟩, _, _, rfl, rfl, (by show (0 : Int) < 2147483629; decide), _, _, rfl, rfl, ⟨by decide, by decide⟩, _, rfl, _, _, rfl, rfl, (by omega), ?_⟩
      exact q _ _ (Int.emod_nonneg _ (by omega)) (Int.emod_lt_of_pos _ (by omega)) ⟨_, _, rfl, g0, e0, e1⟩
theorem ok_pool (T : At K mg "_law_pool" sPool ["_law_script", "_law_k"]) (B : Bt mg) : Cal P w K mg base 1 "_law_pool" ["_law_script", "_law_k"] (spPool K) := by
  refine cal_of T scPool (fun vs H Q E h => ?_) (fun f cdv A outer s H vs Q E hr h => ?_)
  · obtain ⟨a, ns, k, rfl, _⟩ := h
    rfl
  · obtain ⟨a, ns, k, rfl, hS, k0, k1, q⟩ := h
    refine ⟨_, (pss_cons (ps_set (i := 2) scPool.nd rfl (Or.inl rfl) (pe_op op_add (pe_op op_mul pe_int (pe_callB (cr_sum rfl) (by rfl) B.sum (by decide +kernel) (pa_cons (pe_slice sl_list (pv 0) po_none (po_some pe_int)) pa_nil))) (pv 1)))
      (pss_cons (ps_if (pt_cmpR op_lt (pv 1) (pe_callB call_len_seq (by rfl) B.len PySem.boot_len (pa_cons (pv 0) pa_nil)) (nomark _)) (pss_one (ps_set (i := 2) scPool.nd rfl (Or.inl rfl) (pe_ix ix_list (pv 0) (pv 1) (fun _ _ => rfl)))) pss_nil)
      (pss_cons (ps_set (i := 3) scPool.nd rfl (Or.inl rfl) (pe_callB call_abs (by rfl) B.abs (by decide +kernel) (pa_cons (pv 2) pa_nil)))
      (pss_cons (ps_set (i := 4) scPool.nd rfl (Or.inl rfl) (pe_op op_mod (pe_op op_mul (pe_op op_add (pe_op op_add (pe_op op_add (pe_op op_mod (pv 3) pe_int) (pe_op op_mul (pe_op op_mul pe_int (pv 1)) (pv 1))) (pe_op op_mul pe_int (pv 1))) pe_int) pe_int) pe_int))
      (pss_one (ps_ret (pe_lst (pa_cons (pe_op op_mul (pv 3) (pe_callTy call_int1 (by rfl) B.int (by decide +kernel) (pa_cons (pe_cmpR op_ge (pv 3) (pe_op op_pow pe_int pe_int) (nomark _)) pa_nil))) (pa_cons (pe_op op_mod (pe_op op_mul (pv 4) (pv 4)) pe_int) pa_nil))))))))), ?_⟩
    obtain ⟨ms, ems⟩ := cutV_ints ns none (some 63)
    refine ⟨_, rfl, 63, rfl, a, _, rfl, hS, fun c nc => ?_⟩
    rw [ems]
    have s1 : Same H (upd H c (.lst (ms.map V.int))) := same_upd nc
    refine ⟨c, ms, rfl, SqL.of upd_same, _, _, rfl, rfl, .inl ⟨by decide, by decide⟩, _, rfl, _, _, rfl, rfl, ?_⟩
    refine ⟨_, rfl, _, rfl, a, _, rfl, .inl (s1.seq hS), _, _, rfl, rfl, _, rfl, ite2 (fun e => ?_) (fun e => ?_)⟩
    rw [decide_eq_true_eq, List.length_map] at e
    obtain ⟨z, g⟩ : ∃ z : Int, atI (ns.map V.int) k = some (V.int z) := by
      have hk : k.toNat < ns.length := by omega
      exact ⟨_, atI_int (v := V.int ns[k.toNat]) k0 (by rw [List.getElem?_map, List.getElem?_eq_getElem hk]; rfl)⟩
    refine ⟨_, rfl, _, rfl, a, _, k, .int z, rfl, rfl, s1.seq hS, g, ?_⟩
    all_goals
      refine ⟨_, rfl, _, rfl, ?_⟩
      refine ⟨_, rfl, _, _, rfl, rfl, (by show (0 : Int) < 2147483629; decide), _, rfl, _, _, rfl, rfl, .inl ⟨by decide, by decide⟩, _, rfl, _, _, rfl, rfl, .inr ⟨by omega, by omega⟩, _, _, rfl, rfl, _, rfl, _, _, rfl, rfl, .inl ⟨by decide, by decide⟩, _, _, rfl, rfl, _, _, rfl, rfl, _, _, rfl, rfl, .inr ⟨by decide, by decide⟩, _, _, rfl, rfl, (by show (0 : Int) < 2147483647; decide), ?_⟩
      refine ⟨_, rfl, _, rfl, _, _, rfl, rfl, ⟨by decide, by decide, by decide⟩, _, _, rfl, rfl, .inr ⟨_, rfl, _, _, rfl, rfl, .inr ?_, ?_⟩⟩
      · exact b01 _
      refine ⟨_, rfl, _, rfl, _, _, rfl, rfl, .inl ?_, _, _, rfl, rfl, (by show (0 : Int) < 2147483629; decide), (by show 2 ≤ sizeLine; decide), fun p np => ?_⟩
      · refine ⟨Int.lt_of_lt_of_le (by decide) (Int.emod_nonneg _ (by decide)), Int.lt_trans (Int.emod_lt_of_pos _ (by decide)) (by decide)⟩
      refine q p _ (s1.trans (same_upd np)) (s1.free np) ⟨_, upd_same, _, _, rfl, ?_, Int.emod_nonneg _ (by decide), Int.lt_trans (Int.emod_lt_of_pos _ (by decide)) (by decide)⟩
      refine Int.mul_nonneg ?_ ?_ <;> split <;> omega
end
end Su
namespace Su
open PySem PySem.Spec PyProof.Rows L2
/-- all but what stands at p is as it was -/
def Kept (p : Addr) (H H' : Hp) : Prop := ∀ b o, H b = some o → b ≠ p → H' b = some o
theorem Kept.refl (p : Addr) (H : Hp) : Kept p H H := fun _ _ h _ => h
theorem Kept.trans {p : Addr} {H H1 H2 : Hp} (a : Kept p H H1) (b : Kept p H1 H2) : Kept p H H2 := fun c o h n => b c o (a c o h n) n
theorem Kept.same {p : Addr} {H H1 : Hp} (a : Same H H1) : Kept p H H1 := fun c o h _ => a c o h
theorem Kept.upd (p : Addr) (H : Hp) (o : HO) : Kept p H (upd H p o) := fun b x e n => by
  rw [upd_ne n]
  exact e
theorem Kept.set {p b : Addr} {H H1 : Hp} {o : HO} (a : Kept p H H1) (hb : H b = none) : Kept p H (L2.upd H1 b o) := fun c x e n => by
  rw [upd_ne (ne_of_none e hb)]
  exact a c x e n
theorem Kept.free {p b : Addr} {H H' : Hp} (a : Kept p H H') (n : b ≠ p) (h : H' b = none) : H b = none := by
  cases z : H b with
  | none => rfl
  | some o =>
    rw [a b o z n] at h
    cases h
theorem pool_ne {H : Hp} {p b : Addr} (h : PoolAt H p) (n : H b = none) : b ≠ p := by
  obtain ⟨o, e, _⟩ := h
  exact (ne_of_none e n).symm
theorem PoolAt.upd {H : Hp} {p b : Addr} {o : HO} (h : PoolAt H p) (n : p ≠ b) : PoolAt (upd H b o) p := by
  obtain ⟨x, e, z⟩ := h
  exact ⟨x, by rw [upd_ne n]; exact e, z⟩
theorem PoolAt.same {H H' : Hp} {p : Addr} (h : PoolAt H p) (s : Same H H') : PoolAt H' p := by
  obtain ⟨o, e, z⟩ := h
  exact ⟨o, s _ _ e, z⟩
theorem PTup.kept {p a : Addr} {H H' : Hp} {xs : List V} (h : PTup H a xs) (k : Kept p H H') (hp : PoolAt H p) : PTup H' a xs := by
  obtain ⟨o, e, d⟩ := h
  obtain ⟨x, e2, g, m, rfl, _⟩ := hp
  refine ⟨o, k _ _ e (fun z => ?_), d⟩
  subst z
  rw [e] at e2
  cases e2
theorem seq_kept {K : PySem.W.Frag} {p a : Addr} {H H' : Hp} {xs : List V} (k : Kept p H H') (n : a ≠ p) (h : SqL K H a xs) : SqL K H' a xs := by
  rcases h with (h | ⟨o, h⟩) | h
  · exact .inl (.inl (k _ _ h n))
  · exact .inl (.inr ⟨o, k _ _ h n⟩)
  · exact .inr h
theorem tyes {σ : L2.St} {H : Hp} {A B : Hp → Prop} (h : A H) : tYes σ H (fun b H3 => if b = true then A H3 else B H3) := (iteT h : if true = true then A H else B H)
theorem erase_map (f : Int → V) : ∀ (l : List Int) (j : Nat), (l.map f).eraseIdx j = (l.eraseIdx j).map f
  | [], _ => rfl
  | _ :: _, 0 => rfl
  | x :: l, j + 1 => by
    show f x :: (l.map f).eraseIdx j = f x :: (l.eraseIdx j).map f
    rw [erase_map f l j]
theorem free_upd {H : Hp} {a b : Addr} {o : HO} (h : upd H a o b = none) : b ≠ a ∧ H b = none := by
  by_cases e : b = a
  · subst e
    rw [upd_same] at h
    cases h
  · rw [upd_ne e] at h
    exact ⟨e, h⟩
theorem seqIx {i : Int} {n : Nat} (h0 : 0 ≤ i) (h : i < n) : seqIndex? i n = some i.toNat :=
  (ixN_seq (n := n) (i := i) (j := i.toNat) (by unfold ixN; rw [if_pos h0, if_pos h])).1
theorem erase_perm : ∀ (l : List Int) (j : Nat) (y : Int), l[j]? = some y → (y :: l.eraseIdx j).Perm l
  | [], j, y, h => by simp at h
  | x :: l, 0, y, h => by
    have e : x = y := by simpa using h
    rw [e]
    exact List.Perm.refl _
  | x :: l, j + 1, y, h => by
    have e : l[j]? = some y := by simpa using h
    exact (List.Perm.swap x y (l.eraseIdx j)).trans ((erase_perm l j y e).cons x)
abbrev rLenK (K : PySem.W.Frag) : List V → Hp → VK → Prop := fun xs H Q => ∃ p ys, xs = [.ref p] ∧ (SqL K H p ys ∨ SqT K H p ys) ∧ Q (.int ys.length) H
def spPicked (K : PySem.W.Frag) : Sp := fun vs H Q _ => ∃ (p b : Addr) (ns : List Int) (many : Int), vs = [.ref p, .ref b, .int many] ∧ PoolAt H p ∧ SqL K H b (ns.map V.int) ∧ b ≠ p ∧ ns.Nodup ∧ ns.length ≤ 1000 ∧ 0 ≤ many ∧
  ∀ (q : Addr) (H' : Hp) (ms : List Int), H q = none → Kept p H H' → PoolAt H' p → H' q = some (.lst (ms.map V.int)) → ms.Nodup → (∀ x ∈ ms, x ∈ ns) → ms.length = min many.toNat ns.length → ms.Pairwise (· ≤ ·) → Q (.ref q) H'
theorem scPicked : FnScope ["_law_pool_here", "_law_some", "_law_many", "_law_left", "_law_k"] ["_law_pool_here", "_law_some", "_law_many"] (defScope sPicked) := ⟨rfl, rfl, rfl, by decide +kernel, rfl, by decide +kernel, by decide +kernel⟩
section
variable {P : Program} {w : World} {K : PySem.W.Frag} {mg : Str → Option Value} {base : Heap}
theorem ok_picked (T : At K mg "_law_picked" sPicked ["_law_pool_here", "_law_some", "_law_many"]) (B : Bt mg) (c_take : Cal P w K mg base 1 "_law_take" ["_law_pool_here", "_law_many"] spTake) :
    Cal P w K mg base 2 "_law_picked" ["_law_pool_here", "_law_some", "_law_many"] (spPicked K) := by
  refine cal_of T scPicked (fun vs H Q E h => ?_) (fun f cdv A outer s H vs Q E hr h => ?_)
  · obtain ⟨p, b, ns, many, rfl, _⟩ := h
    rfl
  · obtain ⟨p, b, ns, many, rfl, hp, hS, hbp, nd, hl, m0, q⟩ := h
    refine ⟨_, (pss_cons (ps_set (i := 3) scPicked.nd rfl (Or.inr rfl) (pe_callTy call_list_of (by rfl) B.list (by decide +kernel) (pa_cons (pv 1) pa_nil)))
      (pss_one (ps_ret (pe_callB cr_sortedI (by rfl) B.sorted (by decide +kernel) (pa_cons (pe_lc (own := [("_law_k", 4)]) (g := gName 4) (tt := tYes) (te := (tBM K "list" rPopAt (tVar 3) (tCons (tCall spTake [] E0 (tCons (tVar 0) (tCons (tCB (rLenK K) (tCons (tVar 3) tNil)) tNil))) tNil))) (by rfl) scPicked.nd (pi_range1 (by rfl) B.range (pa_cons (pe_callB (call_min2 rfl) (by rfl) B.min (by decide +kernel) (pa_cons (pv 2) (pa_cons (pe_callB call_len_seq (by rfl) B.len PySem.boot_len (pa_cons (pv 3) pa_nil)) pa_nil))) pa_nil)) (blkOk_by (own := [("_law_k", 4)]) (N := ["_law_pool_here", "_law_some", "_law_many", "_law_left", "_law_k"]) (sc := defScope sPicked) (by decide +kernel)) (fun _ _ _ _ _ => (pg_name (i := 4) scPicked.nd rfl (Or.inl rfl))) (fun _ _ _ _ _ => pts_nil) (fun _ _ _ _ _ => (pe_bm PySem.F.plainAttrs_list PySem.F.slot_list_pop PySem.F.type_list_pop mt_popAt (pv 3) (pa_cons (pe_own c_take hr (by decide) (by rfl) (pa_cons (pv 0) (pa_cons (pe_callB call_len_seq (by rfl) B.len PySem.boot_len (pa_cons (pv 3) pa_nil)) pa_nil))) pa_nil)))) pa_nil))))), ?_⟩
    refine ⟨_, rfl, b, _, rfl, .inl hS, fun l nl => ?_⟩
    have elp : l ≠ p := pool_ne hp nl
    have hl0 : (if ((ns.map V.int).length : Int) < many then ((ns.map V.int).length : Int) else many) = ((min many.toNat ns.length : Nat) : Int) := by
      rw [List.length_map]
      split <;> omega
    refine ⟨_, rfl, _, rfl, l, _, rfl, .inl (SqL.of upd_same), _, _, rfl, _, rfl, (by omega), (by omega), fun D nD => ?_⟩
    rw [hl0]
    refine lc_range (lo := 0) (n := min many.toNat ns.length) (fun i H2 => ∃ lf acc : List Int, H2 l = some (.lst (lf.map V.int)) ∧ H2 D = some (.lst (acc.map V.int)) ∧ acc.length = i ∧ (acc ++ lf).Perm ns ∧ PoolAt H2 p ∧ Kept p H H2) ?_ ?_ ?_
    · obtain ⟨eDl, nD0⟩ := free_upd nD
      refine ⟨ns, [], (by rw [upd_ne eDl.symm, upd_same]), upd_same, rfl, List.Perm.refl _, (hp.upd elp.symm).upd (pool_ne hp nD0).symm, ((Kept.refl p H).set nl).set nD0⟩
    · rintro i H2 hi ⟨lf, acc, h1, h2, hlen, hpm, hpo, hk⟩
      obtain ⟨eDl, nD0⟩ := free_upd nD
      have eDp : D ≠ p := pool_ne hp nD0
      have hll : acc.length + lf.length = ns.length := by
        have := hpm.length_eq
        rw [List.length_append] at this
        exact this
      refine ⟨rfl, tyes ?_⟩
      refine ⟨_, rfl, .inl ⟨rfl, _, SqL.of h1⟩, _, rfl, _, rfl, l, _, rfl, .inl (SqL.of h1), p, _, rfl, hpo, ?_, ?_, fun r o r0 r1 po => ?_⟩
      · rw [List.length_map]
        omega
      · rw [List.length_map]
        omega
      · rw [List.length_map] at r1
        have hr1 : r.toNat < lf.length := by omega
        refine ⟨l, lf.map V.int, r, r.toNat, V.int lf[r.toNat], rfl, rfl, (by rw [upd_ne elp]; exact h1), by omega, by omega, seqIx r0 (by rw [List.length_map]; exact r1), (by rw [List.getElem?_map, List.getElem?_eq_getElem hr1]; rfl), ?_⟩
        have hg : lf[r.toNat]? = some lf[r.toNat] := List.getElem?_eq_getElem hr1
        generalize lf[r.toNat] = y at *
        refine ⟨acc.map V.int, (by rw [upd_ne eDl, upd_ne eDp]; exact h2), ?_, lf.eraseIdx r.toNat, acc ++ [y], ?_, ?_, ?_, ?_, ?_, ?_⟩
        · rw [List.length_map]
          exact small1000 (by omega)
        · rw [upd_ne eDl.symm, upd_same, erase_map]
        · rw [upd_same, List.map_append]
          rfl
        · rw [List.length_append, hlen]
          rfl
        · rw [List.append_assoc]
          exact ((erase_perm lf r.toNat y hg).append_left acc).trans hpm
        · refine PoolAt.upd (PoolAt.upd ⟨o, upd_same, po⟩ elp.symm) eDp.symm
        · exact (((hk.trans (Kept.upd p H2 o)).set nl).set nD0)
    · rintro H2 ⟨lf, acc, h1, h2, hlen, hpm, hpo, hk⟩
      obtain ⟨eDl, nD0⟩ := free_upd nD
      refine ⟨D, acc, rfl, SqL.of h2, fun ms c pm so nc => ?_⟩
      have ecp : c ≠ p := pool_ne hpo nc
      have hsub : ∀ x ∈ ms, x ∈ ns := fun x hx => hpm.subset (List.mem_append_left _ (pm.subset hx))
      have hnd : (acc ++ lf).Nodup := hpm.nodup_iff.mpr nd
      exact q c _ ms (hk.free ecp nc) (hk.trans (Kept.same (same_upd nc))) (hpo.upd ecp.symm) upd_same (pm.nodup_iff.mpr (List.nodup_append.mp hnd).1) hsub (by rw [pm.length_eq, hlen]) so
end
end Su
namespace Su
open PySem PySem.Spec PyProof.Rows L2
def spPlaces : Sp := fun vs H Q _ => ∃ (p : Addr) (many : Int), vs = [.ref p, .int many] ∧ PoolAt H p ∧ 0 ≤ many ∧
  ∀ (q : Addr) (H' : Hp) (ms : List Int), H q = none → Kept p H H' → PoolAt H' p → H' q = some (.lst (ms.map V.int)) → ms.Nodup → (∀ x ∈ ms, 0 ≤ x ∧ x < 100) → ms.length = min many.toNat 100 → ms.Pairwise (· ≤ ·) → Q (.ref q) H'
def spSort : Sp := fun vs H Q _ => ∃ (p : Addr), vs = [.ref p] ∧ PoolAt H p ∧ ∀ (x : Str) (H' : Hp), Kept p H H' → PoolAt H' p → x = "last" ∨ x = "first" ∨ x = "tree" → Q (.str x) H'
def spBig : Sp := fun vs H Q _ => ∃ (p : Addr) (x : Str), vs = [.ref p, .str x] ∧ PoolAt H p ∧ ∀ (n : Int) (H' : Hp), Kept p H H' → PoolAt H' p → 1 ≤ n → n ≤ 8 → (x = "tree" → n = 1 ∨ n = 2 ∨ n = 4 ∨ n = 8) → Q (.int n) H'
theorem scPlaces : FnScope ["_law_pool_here", "_law_many"] ["_law_pool_here", "_law_many"] (defScope sPlaces) := ⟨rfl, rfl, rfl, by decide +kernel, rfl, by decide +kernel, by decide +kernel⟩
theorem scSort : FnScope ["_law_pool_here"] ["_law_pool_here"] (defScope sSort) := ⟨rfl, rfl, rfl, by decide +kernel, rfl, by decide +kernel, by decide +kernel⟩
theorem scBig : FnScope ["_law_pool_here", "_law_sort_here"] ["_law_pool_here", "_law_sort_here"] (defScope sBig) := ⟨rfl, rfl, rfl, by decide +kernel, rfl, by decide +kernel, by decide +kernel⟩
def hundred : List Int := (List.range 100).map fun i => ((i : Nat) : Int)
theorem hundred_rg : rgV 0 100 = hundred.map V.int := by
  unfold rgV hundred
  rw [List.map_map]
  rfl
theorem hundred_nd : hundred.Nodup := by decide +kernel
theorem hundred_len : hundred.length = 100 := rfl
theorem hundred_mem {x : Int} (h : x ∈ hundred) : 0 ≤ x ∧ x < 100 := by
  unfold hundred at h
  obtain ⟨i, hi, rfl⟩ := List.mem_map.mp h
  have := List.mem_range.mp hi
  omega
theorem cons_nil_fin {α : Type} {xs : List α} {r : Int} (n : Nat) (h : xs.length = n) (r0 : 0 ≤ r) (r1 : r < n) : ∃ v ∈ xs, atI xs r = some v := by
  have hr : r.toNat < xs.length := by omega
  exact ⟨xs[r.toNat], List.getElem_mem hr, atI_int r0 (List.getElem?_eq_getElem hr)⟩
section
variable {P : Program} {w : World} {K : PySem.W.Frag} {mg : Str → Option Value} {base : Heap}
theorem ok_places (T : At K mg "_law_places" sPlaces ["_law_pool_here", "_law_many"]) (B : Bt mg) (c_picked : Cal P w K mg base 2 "_law_picked" ["_law_pool_here", "_law_some", "_law_many"] (spPicked K)) :
    Cal P w K mg base 3 "_law_places" ["_law_pool_here", "_law_many"] spPlaces := by
  refine cal_of T scPlaces (fun vs H Q E h => ?_) (fun f cdv A outer s H vs Q E hr h => ?_)
  · obtain ⟨p, many, rfl, _⟩ := h
    rfl
  · obtain ⟨p, many, rfl, hp, m0, q⟩ := h
    refine ⟨_, (pss_one (ps_ret (pe_own c_picked hr (by decide) (by rfl) (pa_cons (pv 0) (pa_cons (pe_listRg rfl (by rfl) B.list (prg_1 (by rfl) B.range pe_int)) (pa_cons (pv 1) pa_nil)))))), ?_⟩
    refine ⟨_, rfl, 100, rfl, ⟨by decide, by decide, by decide, by decide, by decide⟩, fun b nb => ?_⟩
    have ebp : b ≠ p := pool_ne hp nb
    rw [hundred_rg]
    refine ⟨_, rfl, p, b, hundred, many, rfl, hp.upd ebp.symm, SqL.of upd_same, ebp, hundred_nd, (by rw [hundred_len]; decide), m0, fun c H' ms nc hk hpo hc nd hm hl so => ?_⟩
    exact q c H' ms (free_upd nc).2 ((Kept.same (same_upd nb)).trans hk) hpo hc nd (fun x hx => hundred_mem (hm x hx)) (by rw [hl, hundred_len]) so
theorem ok_sort (T : At K mg "_law_sort" sSort ["_law_pool_here"]) (c_take : Cal P w K mg base 1 "_law_take" ["_law_pool_here", "_law_many"] spTake) :
    Cal P w K mg base 2 "_law_sort" ["_law_pool_here"] spSort := by
  refine cal_of T scSort (fun vs H Q E h => ?_) (fun f cdv A outer s H vs Q E hr h => ?_)
  · obtain ⟨p, rfl, _⟩ := h
    rfl
  · obtain ⟨p, rfl, hp, q⟩ := h
    refine ⟨_, (pss_one (ps_ret (pe_ix ix_list (pe_lst (pa_cons pe_str (pa_cons pe_str (pa_cons pe_str pa_nil)))) (pe_own c_take hr (by decide) (by rfl) (pa_cons (pv 0) (pa_cons pe_int pa_nil))) (fun _ _ => rfl)))), ?_⟩
    refine ⟨(by show 3 ≤ sizeLine; decide), fun l nl => ?_⟩
    have elp : l ≠ p := pool_ne hp nl
    refine ⟨_, rfl, p, _, rfl, hp.upd elp.symm, by decide, by decide, fun r o r0 r1 po => ?_⟩
    obtain ⟨v, hv, ev⟩ := cons_nil_fin (xs := [V.str "last", V.str "first", V.str "tree"]) 3 rfl r0 r1
    refine ⟨l, _, r, v, rfl, rfl, SqL.of (by rw [upd_ne elp, upd_same]), ev, ?_⟩
    have hk : Kept p H (upd (upd H l (.lst [V.str "last", V.str "first", V.str "tree"])) p o) := ((Kept.same (same_upd nl)).trans (Kept.upd p _ o))
    have hpo : PoolAt (upd (upd H l (.lst [V.str "last", V.str "first", V.str "tree"])) p o) p := ⟨o, upd_same, po⟩
    simp only [List.mem_cons, List.not_mem_nil, or_false] at hv
    rcases hv with rfl | rfl | rfl
    · exact q _ _ hk hpo (.inl rfl)
    · exact q _ _ hk hpo (.inr (.inl rfl))
    · exact q _ _ hk hpo (.inr (.inr rfl))
theorem ok_big (T : At K mg "_law_big" sBig ["_law_pool_here", "_law_sort_here"]) (c_take : Cal P w K mg base 1 "_law_take" ["_law_pool_here", "_law_many"] spTake) :
    Cal P w K mg base 2 "_law_big" ["_law_pool_here", "_law_sort_here"] spBig := by
  refine cal_of T scBig (fun vs H Q E h => ?_) (fun f cdv A outer s H vs Q E hr h => ?_)
  · obtain ⟨p, x, rfl, _⟩ := h
    rfl
  · obtain ⟨p, x, rfl, hp, q⟩ := h
    refine ⟨_, (pss_cons (ps_if (pt_cmpR op_eq (pv 1) pe_str (nomark _)) (pss_one (ps_ret (pe_ix ix_list (pe_lst (pa_cons pe_int (pa_cons pe_int (pa_cons pe_int (pa_cons pe_int pa_nil))))) (pe_own c_take hr (by decide) (by rfl) (pa_cons (pv 0) (pa_cons pe_int pa_nil))) (fun _ _ => rfl)))) pss_nil)
      (pss_one (ps_ret (pe_op op_add pe_int (pe_own c_take hr (by decide) (by rfl) (pa_cons (pv 0) (pa_cons pe_int pa_nil))))))), ?_⟩
    refine ⟨_, rfl, rfl, _, rfl, ite2 (fun e => ?_) (fun e => ?_)⟩
    · refine ⟨(by show 4 ≤ sizeLine; decide), fun l nl => ?_⟩
      have elp : l ≠ p := pool_ne hp nl
      refine ⟨_, rfl, p, _, rfl, hp.upd elp.symm, by decide, by decide, fun r o r0 r1 po => ?_⟩
      obtain ⟨v, hv, ev⟩ := cons_nil_fin (xs := [V.int 1, V.int 2, V.int 4, V.int 8]) 4 rfl r0 r1
      refine ⟨l, _, r, v, rfl, rfl, SqL.of (by rw [upd_ne elp, upd_same]), ev, ?_⟩
      have hk : Kept p H (upd (upd H l (.lst [V.int 1, V.int 2, V.int 4, V.int 8])) p o) := ((Kept.same (same_upd nl)).trans (Kept.upd p _ o))
      have hpo : PoolAt (upd (upd H l (.lst [V.int 1, V.int 2, V.int 4, V.int 8])) p o) p := ⟨o, upd_same, po⟩
      simp only [List.mem_cons, List.not_mem_nil, or_false] at hv
      rcases hv with rfl | rfl | rfl | rfl
      · exact q _ _ hk hpo (by decide) (by decide) fun _ => .inl rfl
      · exact q _ _ hk hpo (by decide) (by decide) fun _ => .inr (.inl rfl)
      · exact q _ _ hk hpo (by decide) (by decide) fun _ => .inr (.inr (.inl rfl))
      · exact q _ _ hk hpo (by decide) (by decide) fun _ => .inr (.inr (.inr rfl))
    · refine ⟨_, rfl, p, _, rfl, hp, by decide, by decide, fun r o r0 r1 po => ?_⟩
      refine ⟨_, _, rfl, rfl, q _ _ (Kept.upd p H o) ⟨o, upd_same, po⟩ (by omega) (by omega) fun z => ?_⟩
      subst z
      exact absurd (decide_eq_true rfl) e
end
end Su
namespace Su
open PySem PySem.Spec PyProof.Rows L2
/-- what stands in slots: -1, or rooms, none twice -/
structure Slots (n : Nat) (xs : List Int) : Prop where
  len : xs.length = n
  rng : ∀ x ∈ xs, -1 ≤ x ∧ x < 100
  one : ∀ v, v ≠ -1 → xs.count v ≤ 1
structure Bits (n : Nat) (xs : List Int) : Prop where
  len : xs.length = n
  rng : ∀ x ∈ xs, x = 0 ∨ x = 1
def spCells (K : PySem.W.Frag) : Sp := fun vs H Q _ => ∃ (p b : Addr) (n : Nat) (ns : List Int), vs = [.ref p, .int (n : Int), .ref b] ∧ PoolAt H p ∧ SqL K H b (ns.map V.int) ∧ ns.Nodup ∧ (∀ x ∈ ns, 0 ≤ x ∧ x < 100) ∧ ns.length ≤ 1000 ∧ n ≤ 8 ∧
  ∀ (q : Addr) (H' : Hp) (xs : List Int), H q = none → Kept p H H' → PoolAt H' p → PTup H' q (xs.map V.int) → Slots n xs → Q (.ref q) H'
def spMarks : Sp := fun vs H Q _ => ∃ (p : Addr) (n : Nat) (x : Str), vs = [.ref p, .int (n : Int), .str x] ∧ PoolAt H p ∧ 1 ≤ n ∧ n ≤ 8 ∧
  ∀ (q : Addr) (H' : Hp) (xs : List Int), H q = none → Kept p H H' → PoolAt H' p → PTup H' q (xs.map V.int) → (x = "tree" → Bits (n - 1) xs) → (x ≠ "tree" → xs = []) → Q (.ref q) H'
theorem scCells : FnScope ["_law_pool_here", "_law_big_here", "_law_some", "_law_left", "_law_found", "_law_k"] ["_law_pool_here", "_law_big_here", "_law_some"] (defScope sCells) := ⟨rfl, rfl, rfl, by decide +kernel, rfl, by decide +kernel, by decide +kernel⟩
theorem scMarks : FnScope ["_law_pool_here", "_law_big_here", "_law_sort_here", "_law_k"] ["_law_pool_here", "_law_big_here", "_law_sort_here"] (defScope sMarks) := ⟨rfl, rfl, rfl, by decide +kernel, rfl, by decide +kernel, by decide +kernel⟩
theorem dp_ints {K : PySem.W.Frag} {H : Hp} : ∀ ns : List Int, DpAll K H (ns.map V.int) (ns.map PyData.int)
  | [] => .nil
  | n :: ns => .cons (.int n) (dp_ints ns)
theorem fine_ints {ns : List Int} (h : ∀ x ∈ ns, -1 ≤ x ∧ x < 100) : FineL (ns.map PyData.int) 0 (41 * ns.length) := FineL.ints ns fun z hz => by
  have := h z hz
  omega
theorem set_nil_count (acc : List Int) (y v : Int) : ((acc ++ [-1]).set acc.length y).count v = acc.count v + (if y = v then 1 else 0) := by
  have e : (acc ++ [-1]).set acc.length y = acc ++ [y] := by
    rw [List.set_append_right _ _ (Nat.le_refl _), Nat.sub_self]
    rfl
  rw [e, List.count_append]
  by_cases h : y = v
  · subst h
    simp
  · simp [h, List.count_cons, List.count_nil]
section
variable {P : Program} {w : World} {K : PySem.W.Frag} {mg : Str → Option Value} {base : Heap}
theorem ok_cells (T : At K mg "_law_cells" sCells ["_law_pool_here", "_law_big_here", "_law_some"]) (B : Bt mg) (c_take : Cal P w K mg base 1 "_law_take" ["_law_pool_here", "_law_many"] spTake) :
    Cal P w K mg base 2 "_law_cells" ["_law_pool_here", "_law_big_here", "_law_some"] (spCells K) := by
  refine cal_of T scCells (fun vs H Q E h => ?_) (fun f cdv A outer s H vs Q E hr h => ?_)
  · obtain ⟨p, b, n, ns, rfl, _⟩ := h
    rfl
  · obtain ⟨p, b, n, ns, rfl, hp, hS, nd, hrg, hnl, hn, q⟩ := h
    refine ⟨_, (pss_cons (ps_set (i := 3) scCells.nd rfl (Or.inl rfl) (pe_callTy call_list_of (by rfl) B.list (by decide +kernel) (pa_cons (pv 2) pa_nil)))
      (pss_cons (ps_set (i := 4) scCells.nd rfl (Or.inl rfl) (pe_lst pa_nil))
      (pss_cons (ps_for PassesOwn.never rfl (pi_range1 (by rfl) B.range (pa_cons (pv 1) pa_nil)) (pg_name (i := 5) scCells.nd rfl (Or.inl rfl)) (pss_cons (ps_expr (pe_bm PySem.F.plainAttrs_list PySem.F.slot_list_append PySem.F.type_list_append mt_append (pv 4) (pa_cons (pe_un un_neg pe_int) pa_nil)))
      (pss_one (ps_if (PW.pt (pw_and (pt_cmpR (op_neD hr.units) (pv 3) (pe_lst pa_nil) (nomark _)) (pw_and1 (pt_cmpR op_gt (pe_own c_take hr (by decide) (by rfl) (pa_cons (pv 0) (pa_cons pe_int pa_nil))) pe_int (nomark _))))) (pss_one (ps_asg (pe_bm PySem.F.plainAttrs_list PySem.F.slot_list_pop PySem.F.type_list_pop mt_popAt (pv 3) (pa_cons (pe_own c_take hr (by decide) (by rfl) (pa_cons (pv 0) (pa_cons (pe_callB call_len_seq (by rfl) B.len PySem.boot_len (pa_cons (pv 3) pa_nil)) pa_nil))) pa_nil)) (pg_sub (pv 4) (pv 5) set_list))) pss_nil))))
      (pss_one (ps_ret (pe_callTy call_tupleF (by rfl) B.tuple (by decide +kernel) (pa_cons (pv 4) pa_nil))))))), ?_⟩
    refine ⟨_, rfl, b, _, rfl, .inl hS, fun l nl => ?_⟩
    have elp : l ≠ p := pool_ne hp nl
    refine ⟨Nat.zero_le _, fun D nD => ?_⟩
    obtain ⟨eDl, nD0⟩ := free_upd nD
    have eDp : D ≠ p := pool_ne hp nD0
    refine ⟨_, rfl, _, rfl, (by omega), (by omega), ?_⟩
    rw [show ((n : Int) : Int).toNat = n by omega]
    refine for_range (lo := 0) (n := n) (fun i σ H2 => ∃ (y : Option V) (lf acc : List Int), σ = [some (.ref p), some (.int (n : Int)), some (.ref b), some (.ref l), some (.ref D), y] ∧ H2 l = some (.lst (lf.map V.int)) ∧ H2 D = some (.lst (acc.map V.int)) ∧
      acc.length = i ∧ lf.length ≤ ns.length ∧ (∀ v, v ≠ -1 → acc.count v + lf.count v ≤ 1) ∧ (∀ x ∈ acc, -1 ≤ x ∧ x < 100) ∧ (∀ x ∈ lf, 0 ≤ x ∧ x < 100) ∧ PoolAt H2 p ∧ Kept p H H2) ?_ ?_ ?_
    · refine ⟨none, ns, [], rfl, (by rw [upd_ne eDl.symm, upd_same]), upd_same, rfl, Nat.le_refl _, fun v hv => ?_, fun x hx => (List.not_mem_nil hx).elim, hrg, (hp.upd elp.symm).upd eDp.symm, ((Kept.refl p H).set nl).set nD0⟩
      rw [List.count_nil, Nat.zero_add]
      exact List.nodup_iff_count.mp nd v
    · rintro i σ H2 hi ⟨y, lf, acc, rfl, h1, h2, hlen, hll, hc, hra, hrl, hpo, hk⟩
      -- found.append(-1)
      refine ⟨_, rfl, .inl ⟨rfl, _, SqL.of h2⟩, 1, rfl, D, _, _, rfl, rfl, h2, (by rw [List.length_map]; exact small1000 (by omega)), ?_⟩
      have h1' : (upd H2 D (.lst (acc.map V.int ++ [V.int (-1)]))) l = some (.lst (lf.map V.int)) := by
        rw [upd_ne eDl.symm]
        exact h1
      have e2 : acc.map V.int ++ [V.int (-1)] = (acc ++ [-1]).map V.int := by
        rw [List.map_append]
        rfl
      have hpo' : PoolAt (upd H2 D (.lst (acc.map V.int ++ [V.int (-1)]))) p := hpo.upd eDp.symm
      -- left != []
      refine ⟨_, rfl, Nat.zero_le _, fun c nc => ?_⟩
      obtain ⟨ecD, nc0⟩ := free_upd nc
      have ecp : c ≠ p := pool_ne hpo' nc
      have ecl : c ≠ l := (ne_of_none h1' nc).symm
      have hkc : Kept p H (upd (upd H2 D (.lst (acc.map V.int ++ [V.int (-1)]))) c (.lst [])) := (hk.set nD0).trans (Kept.same (same_upd nc))
      have f1 : Fine (.list (lf.map PyData.int)) 1 (41 * lf.length) := Fine.list (fine_ints fun x hx => by
        have := hrl x hx
        omega)
      have f2 : Fine (.list []) 1 0 := Fine.list FineL.nil
      have hlc : (upd (upd H2 D (.lst (acc.map V.int ++ [V.int (-1)]))) c (.lst [])) l = some (.lst (lf.map V.int)) := by
        rw [upd_ne ecl.symm]
        exact h1'
      have hDc : (upd (upd H2 D (.lst (acc.map V.int ++ [V.int (-1)]))) c (.lst [])) D = some (.lst ((acc ++ [-1]).map V.int)) := by
        rw [upd_ne ecD.symm, upd_same, e2]
      have hpc : PoolAt (upd (upd H2 D (.lst (acc.map V.int ++ [V.int (-1)]))) c (.lst [])) p := hpo'.upd ecp.symm
      refine ⟨_, _, .lst (SqL.of hlc) (dp_ints lf), .lst (SqL.of upd_same) .nil, f1.shaped (by decide), f2.shaped (by decide), _, rfl, ?_⟩
      generalize upd (upd H2 D (.lst (acc.map V.int ++ [V.int (-1)]))) c (.lst []) = H3 at *
      have skip : ∀ H4 : Hp, H4 l = some (.lst (lf.map V.int)) → H4 D = some (.lst ((acc ++ [-1]).map V.int)) → PoolAt H4 p → Kept p H H4 → ∃ (y : Option V) (lf acc : List Int), [some (V.ref p), some (.int (n : Int)), some (.ref b), some (.ref l), some (.ref D), some (.int (0 + (i : Int)))] = [some (.ref p), some (.int (n : Int)), some (.ref b), some (.ref l), some (.ref D), y] ∧ H4 l = some (.lst (lf.map V.int)) ∧ H4 D = some (.lst (acc.map V.int)) ∧
          acc.length = i + 1 ∧ lf.length ≤ ns.length ∧ (∀ v, v ≠ -1 → acc.count v + lf.count v ≤ 1) ∧ (∀ x ∈ acc, -1 ≤ x ∧ x < 100) ∧ (∀ x ∈ lf, 0 ≤ x ∧ x < 100) ∧ PoolAt H4 p ∧ Kept p H H4 := by
        intro H4 g1 g2 g3 g4
        refine ⟨_, lf, acc ++ [-1], rfl, g1, g2, (by rw [List.length_append, hlen]; rfl), hll, fun v hv => ?_, fun x hx => ?_, hrl, g3, g4⟩
        · rw [List.count_append, List.count_cons_of_ne (fun z => hv z.symm), List.count_nil]
          have := hc v hv
          omega
        · rcases List.mem_append.mp hx with z | z
          · exact hra x z
          · rw [List.mem_singleton.mp z]
            decide
      cases lf with
      | nil =>
        refine iteF ?_
        exact skip H3 hlc hDc hpc hkc
      | cons y0 lf0 =>
        refine iteT ?_
        refine ⟨_, rfl, p, _, rfl, hpc, by decide, by decide, fun r o r0 r1 po => ?_⟩
        have hlc2 : (upd H3 p o) l = some (.lst ((y0 :: lf0).map V.int)) := by
          rw [upd_ne elp]
          exact hlc
        have hDc2 : (upd H3 p o) D = some (.lst ((acc ++ [-1]).map V.int)) := by
          rw [upd_ne eDp]
          exact hDc
        have hpc2 : PoolAt (upd H3 p o) p := ⟨o, upd_same, po⟩
        refine ⟨_, _, rfl, rfl, _, rfl, ite2 (fun e => ?_) (fun e => ?_)⟩
        · refine ⟨_, rfl, .inl ⟨rfl, _, SqL.of hlc2⟩, _, rfl, _, rfl, l, _, rfl, .inl (SqL.of hlc2), p, _, rfl, hpc2, ?_, ?_, fun r o r0 r1 po => ?_⟩
          · rw [List.length_map, List.length_cons]
            omega
          · rw [List.length_map]
            omega
          · rw [List.length_map] at r1
            have hr1 : r.toNat < (y0 :: lf0).length := by omega
            refine ⟨l, (y0 :: lf0).map V.int, r, r.toNat, V.int (y0 :: lf0)[r.toNat], rfl, rfl, (by rw [upd_ne elp]; exact hlc2), by omega, by omega, seqIx r0 (by rw [List.length_map]; exact r1), (by rw [List.getElem?_map, List.getElem?_eq_getElem hr1]; rfl), ?_⟩
            have hg : (y0 :: lf0)[r.toNat]? = some (y0 :: lf0)[r.toNat] := List.getElem?_eq_getElem hr1
            generalize (y0 :: lf0)[r.toNat] = z at *
            generalize y0 :: lf0 = lf at *
            have hpm := erase_perm lf r.toNat z hg
            have ez : z ∈ lf := List.mem_of_getElem? hg
            have hz := hrl z ez
            refine ⟨_, rfl, _, rfl, D, (acc ++ [-1]).map V.int, 0 + (i : Int), acc.length, rfl, rfl, (by rw [upd_ne eDl, upd_ne eDp]; exact hDc2), ?_, ?_⟩
            · unfold ixN
              rw [if_pos (by omega), if_pos (by rw [List.length_map, List.length_append, hlen]; show (0 : Int) + (i : Int) < ((i + 1 : Nat) : Int); omega)]
              congr 1
              omega
            · refine ⟨_, lf.eraseIdx r.toNat, (acc ++ [-1]).set acc.length z, rfl, ?_, ?_, ?_, ?_, ?_, ?_, ?_, ?_, ?_⟩
              · rw [upd_ne eDl.symm, upd_same, erase_map]
              · rw [upd_same, List.map_set]
              · rw [List.length_set, List.length_append, hlen]
                rfl
              · have := hpm.length_eq
                rw [List.length_cons] at this
                omega
              · intro v hv
                rw [set_nil_count]
                have h9 := hc v hv
                have h8 := hpm.count_eq v
                rw [List.count_cons] at h8
                by_cases zz : z = v
                · subst zz
                  simp at h8 ⊢
                  omega
                · simp [zz] at h8 ⊢
                  omega
              · intro x hx
                rcases List.mem_or_eq_of_mem_set hx with z1 | z1
                · rcases List.mem_append.mp z1 with z2 | z2
                  · exact hra x z2
                  · rw [List.mem_singleton.mp z2]
                    decide
                · rw [z1]
                  omega
              · intro x hx
                exact hrl x (List.mem_of_mem_eraseIdx hx)
              · exact ((PoolAt.upd ⟨o, upd_same, po⟩ elp.symm).upd eDp.symm)
              · exact ((((hkc.trans (Kept.upd p _ _)).trans (Kept.upd p _ _)).set nl).set nD0)
        · exact skip _ hlc2 hDc2 hpc2 (hkc.trans (Kept.upd p _ _))
    · rintro σ H2 ⟨y, lf, acc, rfl, h1, h2, hlen, hll, hc, hra, hrl, hpo, hk⟩
      refine ⟨_, rfl, D, _, rfl, SqL.of h2, fun t H3 sm nt pt => ?_⟩
      have etp : t ≠ p := pool_ne hpo nt
      exact q t _ acc (hk.free etp nt) (hk.trans (Kept.same sm)) (hpo.same sm) pt ⟨hlen, hra, fun v hv => Nat.le_trans (Nat.le_add_right _ _) (hc v hv)⟩
theorem ok_marks (T : At K mg "_law_marks" sMarks ["_law_pool_here", "_law_big_here", "_law_sort_here"]) (B : Bt mg) (c_take : Cal P w K mg base 1 "_law_take" ["_law_pool_here", "_law_many"] spTake) :
    Cal P w K mg base 2 "_law_marks" ["_law_pool_here", "_law_big_here", "_law_sort_here"] spMarks := by
  refine cal_of T scMarks (fun vs H Q E h => ?_) (fun f cdv A outer s H vs Q E hr h => ?_)
  · obtain ⟨p, n, x, rfl, _⟩ := h
    rfl
  · obtain ⟨p, n, x, rfl, hp, hn1, hn, q⟩ := h
    refine ⟨_, (pss_one (ps_ret (pe_callTy call_tupleF (by rfl) B.tuple (by decide +kernel) (pa_cons (pe_lc (own := [("_law_k", 3)]) (g := gName 3) (tt := tYes) (te := (tCall spTake [] E0 (tCons (tVar 0) (tCons (tC (.int 2)) tNil)))) (by rfl) scMarks.nd (pi_range1 (by rfl) B.range (pa_cons (pe_op op_mul (pe_op op_sub (pv 1) pe_int) (pe_callTy call_int1 (by rfl) B.int (by decide +kernel) (pa_cons (pe_cmpR op_eq (pv 2) pe_str (nomark _)) pa_nil))) pa_nil)) (blkOk_by (own := [("_law_k", 3)]) (N := ["_law_pool_here", "_law_big_here", "_law_sort_here", "_law_k"]) (sc := defScope sMarks) (by decide +kernel)) (fun _ _ _ _ _ => (pg_name (i := 3) scMarks.nd rfl (Or.inl rfl))) (fun _ _ _ _ _ => pts_nil) (fun _ _ _ _ _ => (pe_own c_take hr (by decide) (by rfl) (pa_cons (pv 0) (pa_cons pe_int pa_nil))))) pa_nil)))), ?_⟩
    obtain ⟨m, hm, hm1, hm2⟩ : ∃ m : Nat, ((n : Int) - 1) * (if decide (V.str x = V.str "tree") = true then (1 : Int) else 0) = (m : Int) ∧ (x = "tree" → m = n - 1) ∧ (x ≠ "tree" → m = 0) := by
      by_cases e : x = "tree"
      · refine ⟨n - 1, ?_, fun _ => rfl, fun z => absurd e z⟩
        subst e
        rw [if_pos (decide_eq_true rfl)]
        omega
      · refine ⟨0, ?_, fun z => absurd z e, fun _ => rfl⟩
        rw [if_neg (fun z => e (V.str.inj (of_decide_eq_true z)))]
        omega
    have hm3 : m ≤ 8 := by
      by_cases e : x = "tree"
      · have := hm1 e
        omega
      · have := hm2 e
        omega
    refine ⟨_, rfl, _, _, rfl, rfl, _, rfl, rfl, .inr ⟨_, rfl, _, _, rfl, rfl, .inr (b01 _), ?_⟩⟩
    refine ⟨_, rfl, ?_, ?_, fun D nD => ?_⟩
    · show -(2 ^ 62) ≤ ((n : Int) - 1) * (if decide (V.str x = V.str "tree") = true then (1 : Int) else 0)
      rw [hm]
      omega
    · show ((n : Int) - 1) * (if decide (V.str x = V.str "tree") = true then (1 : Int) else 0) < 2 ^ 62
      rw [hm]
      omega
    have eDp : D ≠ p := pool_ne hp nD
    show ∃ W : Nat → Nat → Hp → Prop, _
    rw [show (((n : Int) - 1) * (if decide (V.str x = V.str "tree") = true then (1 : Int) else 0)) = (m : Int) from hm, show ((m : Int)).toNat = m by omega]
    refine lc_range (lo := 0) (n := m) (fun i H2 => ∃ acc : List Int, H2 D = some (.lst (acc.map V.int)) ∧ acc.length = i ∧ (∀ x ∈ acc, x = 0 ∨ x = 1) ∧ PoolAt H2 p ∧ Kept p H H2) ?_ ?_ ?_
    · exact ⟨[], upd_same, rfl, fun x hx => (List.not_mem_nil hx).elim, hp.upd eDp.symm, (Kept.refl p H).set nD⟩
    · rintro i H2 hi ⟨acc, h2, hlen, hb, hpo, hk⟩
      refine ⟨rfl, tyes ?_⟩
      refine ⟨_, rfl, p, _, rfl, hpo, by decide, by decide, fun r o r0 r1 po => ?_⟩
      refine ⟨acc.map V.int, (by rw [upd_ne eDp]; exact h2), (by rw [List.length_map]; exact small1000 (by omega)), acc ++ [r], (by rw [upd_same, List.map_append]; rfl), (by rw [List.length_append, hlen]; rfl), fun x hx => ?_, (PoolAt.upd ⟨o, upd_same, po⟩ eDp.symm), ((hk.trans (Kept.upd p _ _)).set nD)⟩
      rcases List.mem_append.mp hx with z | z
      · exact hb x z
      · rw [List.mem_singleton.mp z]
        omega
    · rintro H2 ⟨acc, h2, hlen, hb, hpo, hk⟩
      refine ⟨D, _, rfl, SqL.of h2, fun t H3 sm nt pt => ?_⟩
      have etp : t ≠ p := pool_ne hpo nt
      refine q t _ acc (hk.free etp nt) (hk.trans (Kept.same sm)) (hpo.same sm) pt (fun e => ⟨by rw [hlen, hm1 e], hb⟩) (fun e => ?_)
      have := hm2 e
      rw [this] at hlen
      exact List.length_eq_zero_iff.mp hlen
end
end Su
/-! ### C0: things of any kind -/
namespace Su
open PySem PySem.Spec PyProof.Rows L2
inductive G where
  | non
  | bl (b : Bool)
  | int (i : Int)
  | str (s : Str)
  | lst (l : List G)
  | tup (l : List G)
  | dct
/-- a tuple whose methods may be called, or one of empty slots alone -/
def TupW (H : Hp) (a : Addr) (vs : List V) : Prop := PTup H a vs ∨ (H a = some (.tup vs) ∧ ∀ v ∈ vs, v = V.int (-1))
theorem TupW.sq {K : PySem.W.Frag} {H : Hp} {a : Addr} {vs : List V} (h : TupW H a vs) : SqT K H a vs := by
  rcases h with h | h
  · exact h.sq
  · exact .inl (.inl h.1)
mutual
/-- the value is such a thing; its lists stand apart from p -/
inductive Tg (p : Addr) (H : Hp) : V → G → Prop
  | non : Tg p H .non .non
  | bl (b : Bool) : Tg p H (.bl b) (.bl b)
  | int (i : Int) : Tg p H (.int i) (.int i)
  | str (s : Str) : Tg p H (.str s) (.str s)
  | lst {a : Addr} {vs : List V} {ds : List G} (n : a ≠ p) (e : H a = some (.lst vs)) (t : TgL p H vs ds) : Tg p H (.ref a) (.lst ds)
  | tup {a : Addr} {vs : List V} {ds : List G} (e : TupW H a vs) (t : TgL p H vs ds) : Tg p H (.ref a) (.tup ds)
  | dct {a : Addr} {kvs : List (Key × V)} (e : H a = some (.dK kvs)) : Tg p H (.ref a) .dct
inductive TgL (p : Addr) (H : Hp) : List V → List G → Prop
  | nil : TgL p H [] []
  | cons {v : V} {vs : List V} {d : G} {ds : List G} (h : Tg p H v d) (t : TgL p H vs ds) : TgL p H (v :: vs) (d :: ds)
end
/-- what keeps such things -/
structure Keeps (p : Addr) (H H' : Hp) : Prop where
  ls : ∀ a vs, a ≠ p → H a = some (.lst vs) → H' a = some (.lst vs)
  tw : ∀ a vs, TupW H a vs → TupW H' a vs
  dk : ∀ a kvs, H a = some (.dK kvs) → H' a = some (.dK kvs)
theorem Keeps.of {p : Addr} {H H' : Hp} (k : Kept p H H') (hp : PoolAt H p) : Keeps p H H' := by
  obtain ⟨o, e, g, m, rfl, _⟩ := hp
  refine ⟨fun a vs n z => k _ _ z n, fun a vs h => ?_, fun a kvs z => k _ _ z (ne_of z e (by intro y; cases y))⟩
  rcases h with h | ⟨h, h2⟩
  · exact .inl (h.kept k ⟨_, e, g, m, rfl, by assumption⟩)
  · exact .inr ⟨k _ _ h (ne_of h e (by intro y; cases y)), h2⟩
theorem Keeps.same {p : Addr} {H H' : Hp} (s : Same H H') : Keeps p H H' := by
  refine ⟨fun a vs n z => s _ _ z, fun a vs h => ?_, fun a kvs z => s _ _ z⟩
  rcases h with h | ⟨h, h2⟩
  · exact .inl (h.same s)
  · exact .inr ⟨s _ _ h, h2⟩
mutual
theorem Tg.keep {p : Addr} {H H' : Hp} (k : Keeps p H H') : ∀ {v : V} {g : G}, Tg p H v g → Tg p H' v g
  | _, _, .non => .non
  | _, _, .bl b => .bl b
  | _, _, .int i => .int i
  | _, _, .str s => .str s
  | _, _, .lst n e t => .lst n (k.ls _ _ n e) (TgL.keep k t)
  | _, _, .tup e t => .tup (k.tw _ _ e) (TgL.keep k t)
  | _, _, .dct e => .dct (k.dk _ _ e)
theorem TgL.keep {p : Addr} {H H' : Hp} (k : Keeps p H H') : ∀ {vs : List V} {gs : List G}, TgL p H vs gs → TgL p H' vs gs
  | _, _, .nil => .nil
  | _, _, .cons h t => .cons (Tg.keep k h) (TgL.keep k t)
end
theorem TgL.len {p : Addr} {H : Hp} : ∀ {vs : List V} {gs : List G}, TgL p H vs gs → vs.length = gs.length
  | _, _, .nil => rfl
  | _, _, .cons _ t => by
    rw [List.length_cons, List.length_cons, TgL.len t]
theorem TgL.get {p : Addr} {H : Hp} : ∀ {vs : List V} {gs : List G}, TgL p H vs gs → ∀ {i : Nat} {v : V}, vs[i]? = some v → ∃ g, gs[i]? = some g ∧ Tg p H v g
  | _, _, .nil, i, v, e => by simp at e
  | _, _, .cons h t, 0, v, e => by
    obtain rfl := (by simpa using e : _ = v)
    exact ⟨_, rfl, h⟩
  | _, _, .cons h t, i + 1, v, e => TgL.get t (i := i) (by simpa using e)
theorem TgL.ints {p : Addr} {H : Hp} : ∀ ns : List Int, TgL p H (ns.map V.int) (ns.map G.int)
  | [] => .nil
  | n :: ns => .cons (.int n) (TgL.ints ns)
theorem TgL.app {p : Addr} {H : Hp} : ∀ {vs ws : List V} {gs hs : List G}, TgL p H vs gs → TgL p H ws hs → TgL p H (vs ++ ws) (gs ++ hs)
  | _, _, _, _, .nil, h => h
  | _, _, _, _, .cons x t, h => .cons x (TgL.app t h)
/-! kinds -/
def tyG : G → String
  | .non => "NoneType"
  | .bl _ => "bool"
  | .int _ => "int"
  | .str _ => "str"
  | .lst _ => "list"
  | .tup _ => "tuple"
  | .dct => "dict"
theorem Tg.ty {K : PySem.W.Frag} {p : Addr} {H : Hp} {v : V} {g : G} (h : Tg p H v g) : TyX K H v (.type (tyG g)) := by
  cases h with
  | non => exact .base .non
  | bl b => exact .base (.bl b)
  | int i => exact .base (.int i)
  | str s => exact .base (.str s)
  | lst n e t => exact .base (.lst e)
  | tup e t =>
    rcases e with ⟨o, e, _⟩ | ⟨e, _⟩
    · exact .fTuple e
    · exact .base (.tup e)
  | dct e => exact .base (.dK e)
def isInt : G → Bool
  | .non => false
  | .bl _ => true
  | .int _ => true
  | .str _ => false
  | .lst _ => false
  | .tup _ => false
  | .dct => false
theorem kit_int {K : PySem.W.Frag} (g : G) : PySem.W.kitOne K (.type (tyG g)) (.type "int") = some (isInt g) := by
  refine kit_ty ?_
  cases g
  · exact (by decide +kernel : kitB "NoneType" "int" = some false)
  · exact (by decide +kernel : kitB "bool" "int" = some true)
  · exact (by decide +kernel : kitB "int" "int" = some true)
  · exact (by decide +kernel : kitB "str" "int" = some false)
  · exact (by decide +kernel : kitB "list" "int" = some false)
  · exact (by decide +kernel : kitB "tuple" "int" = some false)
  · exact (by decide +kernel : kitB "dict" "int" = some false)
def isBool : G → Bool
  | .non => false
  | .bl _ => true
  | .int _ => false
  | .str _ => false
  | .lst _ => false
  | .tup _ => false
  | .dct => false
theorem kit_bool {K : PySem.W.Frag} (g : G) : PySem.W.kitOne K (.type (tyG g)) (.type "bool") = some (isBool g) := by
  refine kit_ty ?_
  cases g
  · exact (by decide +kernel : kitB "NoneType" "bool" = some false)
  · exact (by decide +kernel : kitB "bool" "bool" = some true)
  · exact (by decide +kernel : kitB "int" "bool" = some false)
  · exact (by decide +kernel : kitB "str" "bool" = some false)
  · exact (by decide +kernel : kitB "list" "bool" = some false)
  · exact (by decide +kernel : kitB "tuple" "bool" = some false)
  · exact (by decide +kernel : kitB "dict" "bool" = some false)
def isStr : G → Bool
  | .non => false
  | .bl _ => false
  | .int _ => false
  | .str _ => true
  | .lst _ => false
  | .tup _ => false
  | .dct => false
theorem kit_str {K : PySem.W.Frag} (g : G) : PySem.W.kitOne K (.type (tyG g)) (.type "str") = some (isStr g) := by
  refine kit_ty ?_
  cases g
  · exact (by decide +kernel : kitB "NoneType" "str" = some false)
  · exact (by decide +kernel : kitB "bool" "str" = some false)
  · exact (by decide +kernel : kitB "int" "str" = some false)
  · exact (by decide +kernel : kitB "str" "str" = some true)
  · exact (by decide +kernel : kitB "list" "str" = some false)
  · exact (by decide +kernel : kitB "tuple" "str" = some false)
  · exact (by decide +kernel : kitB "dict" "str" = some false)
def isTuple : G → Bool
  | .non => false
  | .bl _ => false
  | .int _ => false
  | .str _ => false
  | .lst _ => false
  | .tup _ => true
  | .dct => false
theorem kit_tuple {K : PySem.W.Frag} (g : G) : PySem.W.kitOne K (.type (tyG g)) (.type "tuple") = some (isTuple g) := by
  refine kit_ty ?_
  cases g
  · exact (by decide +kernel : kitB "NoneType" "tuple" = some false)
  · exact (by decide +kernel : kitB "bool" "tuple" = some false)
  · exact (by decide +kernel : kitB "int" "tuple" = some false)
  · exact (by decide +kernel : kitB "str" "tuple" = some false)
  · exact (by decide +kernel : kitB "list" "tuple" = some false)
  · exact (by decide +kernel : kitB "tuple" "tuple" = some true)
  · exact (by decide +kernel : kitB "dict" "tuple" = some false)
section
variable {X : Cx}
/-- len(set(l)), l a list of ints -/
def dd (ns : List Int) : List Int := PyProof.Rows.firstMet (fun i => ns.getD i 0) ns.length
def tLenSet (K : PySem.W.Frag) (ta : TE) : TE := fun σ H Q => ta σ H fun x H1 => ∃ (l : Addr) (ns : List Int), x = .ref l ∧ SqL K H1 l (ns.map V.int) ∧ ns.length ≤ 1000 ∧ Q (.int ((dd ns).length : Nat)) H1
theorem pe_lenSet {a : Expr} {ta : TE} {p p2 q pos : Pos} (hg : Gl X "len") (hm : X.mg "len" = none) (hg2 : Gl X "set") (hm2 : X.mg "set" = none) (ha : PE X a ta) (hc : X.calm = true := by rfl)
    (na : starEach [a] X.env = (false, eval a X.env) :: starEach [] X.env := by rfl) : PE X (.Call (.Name "len" p) [.Call (.Name "set" p2) [a] [] q] [] pos) (tLenSet X.K ta) := by
  refine ⟨fun pins s σ H Q I h => ?_⟩
  refine Call_ (ld_blt I hg hm boot_len ?_)
  refine PyProof.Rows.callWith_builtin1 (PyProof.Rows.args_cons ?_ rfl) rfl rfl
  refine Call_ (ld_blt I hg2 hm2 boot_set ?_)
  refine PyProof.Rows.callWith_type1 (PyProof.Rows.args_cons (thn (ha.run pins s σ H _ I h) fun v s1 ⟨x, H1, I1, r1, q1⟩ => PyProof.Rows.args_nil ?_) na) na rfl
  obtain ⟨l, ns, rfl, hq, hl, q1⟩ := q1
  cases r1
  obtain ⟨its, r, pl, hz⟩ := I1.list hq
  have hlen : its.toArray.size = ns.length := by rw [List.size_toArray, ← r.length, List.length_map]
  refine call_set_list (I1.ok.hd hc) pl.isList (by simpa using ints_of r) (by rw [hlen]; unfold scanBound; omega) fun h' tk hS hk => ?_
  refine PyProof.Rows.args_nil ?_
  rw [hlen] at hS
  have hle := PyProof.Rows.firstMet_length_le (fun i => ns.getD i 0) ns.length
  obtain ⟨o, es, ep, t, ho, hex, hd, _, _, _, hf, hn⟩ := hS
  have I2 : Inv X pins σ H1 { s1 with heap := h', toks := tk } := I1.kept fun b o e => hk b o (Heap.lt_size e) e
  exact call_len_set ho hex hd hf (by rw [hn]; omega) ⟨.int ((dd ns).length : Nat), H1, I2.tok _, ⟨_, by rw [hn]; rfl⟩, q1⟩
end
end Su
namespace Su
open PySem PySem.Spec PyProof.Rows L2
abbrev wayVs : List V := [.str "last", .str "first", .str "tree"]
abbrev sizeVs : List V := [.int 1, .int 2, .int 4, .int 8]
structure Gb (K : PySem.W.Frag) (mg : Str → Option Value) : Prop where
  last : ∃ t, mg "LAST_ROOM" = some (.int 99 t)
  most : ∃ t, mg "MOST_SLOTS" = some (.int 8 t)
  empty : ∃ t, mg "EMPTY" = some (.int (-1) t)
  ways : ∃ a, mg "WAYS" = some (.ref a) ∧ ∀ H, SqT K H a wayVs
  sizes : ∃ a, mg "TREE_SIZES" = some (.ref a) ∧ ∀ H, SqT K H a sizeVs
def wholeG : G → Bool
  | .int _ => true
  | _ => false
def roomG : G → Bool
  | .int i => decide (0 ≤ i) && decide (i ≤ 99)
  | _ => false
def slotG : G → Bool
  | .int i => (decide (0 ≤ i) && decide (i ≤ 99)) || decide (i = -1)
  | _ => false
def bitG : G → Bool
  | .int i => decide (0 ≤ i) && decide (i ≤ 1)
  | _ => false
def wayG : G → Bool
  | .str s => inV (.str s) wayVs
  | _ => false
def sizeG : G → Str → Bool
  | .int n, s => (decide (1 ≤ n) && decide (n ≤ 8)) && (!decide (s = "tree") || inV (.int n) sizeVs)
  | _, _ => false
def bitsN (n : Int) (s : Str) : Int := if s = "tree" then n - 1 else 0
def spWhole : Sp := fun vs H Q _ => ∃ (p : Addr) (v : V) (g : G), vs = [v] ∧ Tg p H v g ∧ Q (.bl (wholeG g)) H
def spRoom : Sp := fun vs H Q _ => ∃ (p : Addr) (v : V) (g : G), vs = [v] ∧ Tg p H v g ∧ Q (.bl (roomG g)) H
def spSlot : Sp := fun vs H Q _ => ∃ (p : Addr) (v : V) (g : G), vs = [v] ∧ Tg p H v g ∧ Q (.bl (slotG g)) H
def spBit : Sp := fun vs H Q _ => ∃ (p : Addr) (v : V) (g : G), vs = [v] ∧ Tg p H v g ∧ Q (.bl (bitG g)) H
def spWay : Sp := fun vs H Q _ => ∃ (p : Addr) (v : V) (g : G), vs = [v] ∧ Tg p H v g ∧ Q (.bl (wayG g)) H
def spSize : Sp := fun vs H Q _ => ∃ (p : Addr) (v : V) (g : G) (s : Str), vs = [v, .str s] ∧ Tg p H v g ∧ Q (.bl (sizeG g s)) H
def spHow : Sp := fun vs H Q _ => ∃ (n : Int) (s : Str), vs = [.int n, .str s] ∧ Q (.int (bitsN n s)) H
theorem iteB {c : Bool} {A B : Prop} (h1 : c = true → A) (h2 : c = false → B) : if c = true then A else B := by
  cases c
  · exact iteF (h2 rfl)
  · exact iteT (h1 rfl)
theorem scIsWhole : FnScope ["thing"] ["thing"] (defScope sIsWhole) := ⟨rfl, rfl, rfl, by decide +kernel, rfl, by decide +kernel, by decide +kernel⟩
theorem scIsRoom : FnScope ["thing"] ["thing"] (defScope sIsRoom) := ⟨rfl, rfl, rfl, by decide +kernel, rfl, by decide +kernel, by decide +kernel⟩
theorem scIsWay : FnScope ["thing"] ["thing"] (defScope sIsWay) := ⟨rfl, rfl, rfl, by decide +kernel, rfl, by decide +kernel, by decide +kernel⟩
theorem scIsSize : FnScope ["thing", "way"] ["thing", "way"] (defScope sIsSize) := ⟨rfl, rfl, rfl, by decide +kernel, rfl, by decide +kernel, by decide +kernel⟩
theorem scHowMany : FnScope ["size", "way"] ["size", "way"] (defScope sHowMany) := ⟨rfl, rfl, rfl, by decide +kernel, rfl, by decide +kernel, by decide +kernel⟩
theorem scIsSlot : FnScope ["thing"] ["thing"] (defScope sIsSlot) := ⟨rfl, rfl, rfl, by decide +kernel, rfl, by decide +kernel, by decide +kernel⟩
theorem scIsBit : FnScope ["thing"] ["thing"] (defScope sIsBit) := ⟨rfl, rfl, rfl, by decide +kernel, rfl, by decide +kernel, by decide +kernel⟩
theorem scWhole : FnScope ["_law_thing"] ["_law_thing"] (defScope sWhole) := ⟨rfl, rfl, rfl, by decide +kernel, rfl, by decide +kernel, by decide +kernel⟩
section
variable {P : Program} {w : World} {K : PySem.W.Frag} {mg : Str → Option Value} {base : Heap}
theorem ok_whole (T : At K mg "is_whole" sIsWhole ["thing"]) (B : Bt mg) : Cal P w K mg base 1 "is_whole" ["thing"] spWhole := by
  refine cal_of T scIsWhole (fun vs H Q E h => ?_) (fun f cdv A outer s H vs Q E hr h => ?_)
  · obtain ⟨p, v, g, rfl, _⟩ := h
    rfl
  · obtain ⟨p, v, g, rfl, hv, q⟩ := h
    refine ⟨_, (pss_one (ps_ret (pe_and (pe_callB call_isi (by rfl) B.isinstance (by decide +kernel) (pa_cons (pv 0) (pa_cons (pe_bltn (v := .ty "int") (u := .type "int") (by rfl) B.int (by decide +kernel) rfl) pa_nil))) (pe_one (pe_not (pe_callB call_isi (by rfl) B.isinstance (by decide +kernel) (pa_cons (pv 0) (pa_cons (pe_bltn (v := .ty "bool") (u := .type "bool") (by rfl) B.bool (by decide +kernel) rfl) pa_nil)))))))), ?_⟩
    refine ⟨_, rfl, v, .ty "int", _, _, _, rfl, .ty "int", hv.ty, kit_int g, _, rfl, iteB (fun e => ?_) (fun e => ?_)⟩
    · refine ⟨_, rfl, v, .ty "bool", _, _, _, rfl, .ty "bool", hv.ty, kit_bool g, _, rfl, ?_⟩
      have z : (!isBool g) = wholeG g := by
        cases g <;> first | rfl | cases e
      rw [z]
      exact q
    · have z : false = wholeG g := by
        cases g <;> first | rfl | cases e
      rw [z]
      exact q
theorem ok_lwhole (T : At K mg "_law_whole" sWhole ["_law_thing"]) (B : Bt mg) : Cal P w K mg base 1 "_law_whole" ["_law_thing"] spWhole := by
  refine cal_of T scWhole (fun vs H Q E h => ?_) (fun f cdv A outer s H vs Q E hr h => ?_)
  · obtain ⟨p, v, g, rfl, _⟩ := h
    rfl
  · obtain ⟨p, v, g, rfl, hv, q⟩ := h
    refine ⟨_, (pss_one (ps_ret (pe_and (pe_callB call_isi (by rfl) B.isinstance (by decide +kernel) (pa_cons (pv 0) (pa_cons (pe_bltn (v := .ty "int") (u := .type "int") (by rfl) B.int (by decide +kernel) rfl) pa_nil))) (pe_one (pe_not (pe_callB call_isi (by rfl) B.isinstance (by decide +kernel) (pa_cons (pv 0) (pa_cons (pe_bltn (v := .ty "bool") (u := .type "bool") (by rfl) B.bool (by decide +kernel) rfl) pa_nil)))))))), ?_⟩
    refine ⟨_, rfl, v, .ty "int", _, _, _, rfl, .ty "int", hv.ty, kit_int g, _, rfl, iteB (fun e => ?_) (fun e => ?_)⟩
    · refine ⟨_, rfl, v, .ty "bool", _, _, _, rfl, .ty "bool", hv.ty, kit_bool g, _, rfl, ?_⟩
      have z : (!isBool g) = wholeG g := by
        cases g <;> first | rfl | cases e
      rw [z]
      exact q
    · have z : false = wholeG g := by
        cases g <;> first | rfl | cases e
      rw [z]
      exact q
theorem whole_int {p : Addr} {H : Hp} {v : V} {g : G} (h : Tg p H v g) (e : wholeG g = true) : ∃ i, v = .int i ∧ g = .int i := by
  cases h with
  | int i => exact ⟨i, rfl, rfl⟩
  | _ => cases e
theorem ok_room (T : At K mg "is_room" sIsRoom ["thing"]) (D : Gb K mg) (c_is_whole : Cal P w K mg base 1 "is_whole" ["thing"] spWhole) : Cal P w K mg base 2 "is_room" ["thing"] spRoom := by
  obtain ⟨tl, mLast⟩ := D.last
  refine cal_of T scIsRoom (fun vs H Q E h => ?_) (fun f cdv A outer s H vs Q E hr h => ?_)
  · obtain ⟨p, v, g, rfl, _⟩ := h
    rfl
  · obtain ⟨p, v, g, rfl, hv, q⟩ := h
    refine ⟨_, (pss_one (ps_ret (pe_and (pe_own c_is_whole hr (by decide) (by rfl) (pa_cons (pv 0) pa_nil)) (pe_one (pe_chain op_le op_le pe_int (pv 0) (pe_glob (v := .int 99) rfl mLast ⟨_, rfl⟩)))))), ?_⟩
    refine ⟨_, rfl, p, v, g, rfl, hv, _, rfl, iteB (fun e => ?_) (fun e => ?_)⟩
    · obtain ⟨i, rfl, rfl⟩ := whole_int hv e
      refine ⟨_, rfl, _, _, rfl, rfl, _, rfl, iteB (fun e1 => ?_) (fun e1 => ?_)⟩
      · refine ⟨_, _, rfl, rfl, ?_⟩
        have z : decide (i ≤ 99) = roomG (.int i) := by
          show decide (i ≤ 99) = (decide (0 ≤ i) && decide (i ≤ 99))
          rw [e1, Bool.true_and]
        rw [← z] at q
        exact q
      · have z : false = roomG (.int i) := by
          show false = (decide (0 ≤ i) && decide (i ≤ 99))
          rw [e1, Bool.false_and]
        rw [z]
        exact q
    · have z : false = roomG g := by
        cases g <;> first | rfl | cases e
      rw [z]
      exact q
theorem ok_bit (T : At K mg "is_bit" sIsBit ["thing"]) (c_is_whole : Cal P w K mg base 1 "is_whole" ["thing"] spWhole) : Cal P w K mg base 2 "is_bit" ["thing"] spBit := by
  refine cal_of T scIsBit (fun vs H Q E h => ?_) (fun f cdv A outer s H vs Q E hr h => ?_)
  · obtain ⟨p, v, g, rfl, _⟩ := h
    rfl
  · obtain ⟨p, v, g, rfl, hv, q⟩ := h
    refine ⟨_, (pss_one (ps_ret (pe_and (pe_own c_is_whole hr (by decide) (by rfl) (pa_cons (pv 0) pa_nil)) (pe_one (pe_chain op_le op_le pe_int (pv 0) pe_int))))), ?_⟩
    refine ⟨_, rfl, p, v, g, rfl, hv, _, rfl, iteB (fun e => ?_) (fun e => ?_)⟩
    · obtain ⟨i, rfl, rfl⟩ := whole_int hv e
      refine ⟨_, rfl, _, _, rfl, rfl, _, rfl, iteB (fun e1 => ?_) (fun e1 => ?_)⟩
      · refine ⟨_, _, rfl, rfl, ?_⟩
        have z : decide (i ≤ 1) = bitG (.int i) := by
          show decide (i ≤ 1) = (decide (0 ≤ i) && decide (i ≤ 1))
          rw [e1, Bool.true_and]
        rw [← z] at q
        exact q
      · have z : false = bitG (.int i) := by
          show false = (decide (0 ≤ i) && decide (i ≤ 1))
          rw [e1, Bool.false_and]
        rw [z]
        exact q
    · have z : false = bitG g := by
        cases g <;> first | rfl | cases e
      rw [z]
      exact q
theorem ok_slot (T : At K mg "is_slot" sIsSlot ["thing"]) (D : Gb K mg) (c_is_whole : Cal P w K mg base 1 "is_whole" ["thing"] spWhole) (c_is_room : Cal P w K mg base 2 "is_room" ["thing"] spRoom) : Cal P w K mg base 3 "is_slot" ["thing"] spSlot := by
  obtain ⟨te, mEmpty⟩ := D.empty
  refine cal_of T scIsSlot (fun vs H Q E h => ?_) (fun f cdv A outer s H vs Q E hr h => ?_)
  · obtain ⟨p, v, g, rfl, _⟩ := h
    rfl
  · obtain ⟨p, v, g, rfl, hv, q⟩ := h
    refine ⟨_, (pss_one (ps_ret (pe_or (pe_own c_is_room hr (by decide) (by rfl) (pa_cons (pv 0) pa_nil)) (pe_one (pe_and (pe_own c_is_whole hr (by decide) (by rfl) (pa_cons (pv 0) pa_nil)) (pe_one (pe_cmpR op_eq (pv 0) (pe_glob (v := .int (-1)) rfl mEmpty ⟨_, rfl⟩) (nomark _)))))))), ?_⟩
    refine ⟨_, rfl, p, v, g, rfl, hv, _, rfl, iteB (fun e => ?_) (fun e => ?_)⟩
    · have z : true = slotG g := by
        cases g with
        | int i =>
          show true = ((decide (0 ≤ i) && decide (i ≤ 99)) || decide (i = -1))
          rw [show (decide (0 ≤ i) && decide (i ≤ 99)) = true from e, Bool.true_or]
        | _ => cases e
      rw [z]
      exact q
    · refine ⟨_, rfl, p, v, g, rfl, hv, _, rfl, iteB (fun e1 => ?_) (fun e1 => ?_)⟩
      · obtain ⟨i, rfl, rfl⟩ := whole_int hv e1
        refine ⟨_, rfl, rfl, ?_⟩
        have z : decide (V.int i = V.int (-1)) = slotG (.int i) := by
          show decide (V.int i = V.int (-1)) = ((decide (0 ≤ i) && decide (i ≤ 99)) || decide (i = -1))
          rw [show (decide (0 ≤ i) && decide (i ≤ 99)) = false from e, Bool.false_or]
          by_cases y : i = -1
          · subst y
            rfl
          · rw [decide_eq_false y, decide_eq_false (fun h => y (V.int.inj h))]
        rw [z]
        exact q
      · have z : false = slotG g := by
          cases g <;> first | rfl | cases e1
        rw [z]
        exact q
theorem ok_way (T : At K mg "is_way" sIsWay ["thing"]) (B : Bt mg) (D : Gb K mg) : Cal P w K mg base 1 "is_way" ["thing"] spWay := by
  obtain ⟨aWays, mWays, hW⟩ := D.ways
  refine cal_of T scIsWay (fun vs H Q E h => ?_) (fun f cdv A outer s H vs Q E hr h => ?_)
  · obtain ⟨p, v, g, rfl, _⟩ := h
    rfl
  · obtain ⟨p, v, g, rfl, hv, q⟩ := h
    refine ⟨_, (pss_one (ps_ret (pe_and (pe_callB call_isi (by rfl) B.isinstance (by decide +kernel) (pa_cons (pv 0) (pa_cons (pe_bltn (v := .ty "str") (u := .type "str") (by rfl) B.str (by decide +kernel) rfl) pa_nil))) (pe_one (pe_cmpR op_in_seq (pv 0) (pe_glob (v := .ref aWays) rfl mWays rfl) (by rfl)))))), ?_⟩
    refine ⟨_, rfl, v, .ty "str", _, _, _, rfl, .ty "str", hv.ty, kit_str g, _, rfl, iteB (fun e => ?_) (fun e => ?_)⟩
    · cases hv with
      | str s =>
        refine ⟨_, rfl, aWays, wayVs, rfl, .inr (hW H), rfl, rfl, ?_⟩
        exact q
      | _ => cases e
    · have z : false = wayG g := by
        cases g <;> first | rfl | cases e
      rw [z]
      exact q
theorem ok_size (T : At K mg "is_size" sIsSize ["thing", "way"]) (D : Gb K mg) (c_is_whole : Cal P w K mg base 1 "is_whole" ["thing"] spWhole) : Cal P w K mg base 2 "is_size" ["thing", "way"] spSize := by
  obtain ⟨tm, mMost⟩ := D.most
  obtain ⟨aSizes, mSizes, hZ⟩ := D.sizes
  refine cal_of T scIsSize (fun vs H Q E h => ?_) (fun f cdv A outer s H vs Q E hr h => ?_)
  · obtain ⟨p, v, g, s, rfl, _⟩ := h
    rfl
  · obtain ⟨p, v, g, s, rfl, hv, q⟩ := h
    refine ⟨_, (pss_cons (ps_if (PW.pt (pw_or (pt_not (pt_val (pe_own c_is_whole hr (by decide) (by rfl) (pa_cons (pv 0) pa_nil)))) (pw_or1 (pt_not (pt_chain op_le op_le pe_int (pv 0) (pe_glob (v := .int 8) rfl mMost ⟨_, rfl⟩)))))) (pss_one (ps_ret pe_bl)) pss_nil)
      (pss_one (ps_ret (pe_or (pe_cmpR op_ne (pv 1) pe_str (nomark _)) (pe_one (pe_cmpR op_in_seq (pv 0) (pe_glob (v := .ref aSizes) rfl mSizes rfl) (by rfl))))))), ?_⟩
    refine ⟨_, rfl, p, v, g, rfl, hv, _, rfl, iteB (fun e => ?_) (fun e => ?_)⟩
    · have z : false = sizeG g s := by
        cases g <;> first | rfl | cases e
      rw [z]
      exact q
    · have e' : wholeG g = true := by
        cases y : wholeG g with
        | true => rfl
        | false =>
          rw [y] at e
          cases e
      obtain ⟨i, rfl, rfl⟩ := whole_int hv e'
      have q : Q (.bl ((decide (1 ≤ i) && decide (i ≤ 8)) && (!decide (s = "tree") || inV (.int i) sizeVs))) H := q
      refine ⟨_, rfl, _, _, rfl, rfl, _, rfl, iteB (fun e1 => ?_) (fun e1 => ?_)⟩
      · rw [e1, Bool.true_and] at q
        refine ⟨_, _, rfl, rfl, _, rfl, iteB (fun e2 => ?_) (fun e2 => ?_)⟩
        · have e3 : decide (i ≤ 8) = false := by simpa using e2
          rw [e3, Bool.false_and] at q
          exact q
        · have e3 : decide (i ≤ 8) = true := by simpa using e2
          rw [e3, Bool.true_and] at q
          refine ⟨_, rfl, rfl, _, rfl, iteB (fun e4 => ?_) (fun e4 => ?_)⟩
          · have e5 : decide (s = "tree") = false := by
              cases y : decide (s = ("tree" : Str)) with
              | false => rfl
              | true =>
                rw [of_decide_eq_true y] at e4
                exact absurd e4 (by decide)
            rw [e5] at q
            exact q
          · have e5 : decide (s = "tree") = true := by
              cases y : decide (V.str s = V.str "tree") with
              | false =>
                rw [y] at e4
                cases e4
              | true => exact decide_eq_true (V.str.inj (of_decide_eq_true y))
            rw [e5] at q
            exact ⟨_, rfl, aSizes, sizeVs, rfl, .inr (hZ H), rfl, rfl, q⟩
      · rw [e1, Bool.false_and, Bool.false_and] at q
        exact ⟨_, rfl, iteT q⟩
theorem ok_how (T : At K mg "how_many_bits" sHowMany ["size", "way"]) : Cal P w K mg base 1 "how_many_bits" ["size", "way"] spHow := by
  refine cal_of T scHowMany (fun vs H Q E h => ?_) (fun f cdv A outer s H vs Q E hr h => ?_)
  · obtain ⟨n, s, rfl, _⟩ := h
    rfl
  · obtain ⟨n, s, rfl, q⟩ := h
    refine ⟨_, (pss_one (ps_ret (pe_ifExp (pt_cmpR op_eq (pv 1) pe_str (nomark _)) (pe_op op_sub (pv 0) pe_int) pe_int))), ?_⟩
    unfold bitsN at q
    refine ⟨_, rfl, rfl, _, rfl, iteB (fun e => ?_) (fun e => ?_)⟩
    · rw [if_pos (V.str.inj (of_decide_eq_true e))] at q
      exact ⟨_, rfl, _, _, rfl, rfl, q⟩
    · rw [if_neg (fun z => by rw [z] at e; exact absurd e (by decide))] at q
      exact q
end
end Su
namespace Su
open PySem PySem.Spec PyProof.Rows L2
def numG : G → Int
  | .int i => i
  | _ => 0
/-- the rooms among slots -/
def roomsOf (ds : List G) : List Int := (ds.map numG).filter fun i => !decide (i = -1)
def areSlotsG : G → Int → Bool
  | .tup ds, n => decide ((ds.length : Int) = n) && (ds.all slotG && decide ((dd (roomsOf ds)).length = (roomsOf ds).length))
  | _, _ => false
def areBitsG : G → Int → Str → Bool
  | .tup ds, n, s => decide ((ds.length : Int) = bitsN n s) && ds.all bitG
  | _, _, _ => false
/-- its tuples are not long -/
def few : G → Prop
  | .tup ds => ds.length ≤ 100
  | _ => True
def few2 : G → Prop
  | .tup ds => ∀ d ∈ ds, few d
  | _ => True
def layG (g gs gw : G) : Bool := match gs, gw, g with
  | .int n, .str s, .tup [d1, d2] => wayG (.str s) && (sizeG (.int n) s && (areSlotsG d1 n && areBitsG d2 n s))
  | _, _, _ => false
def spSlots : Sp := fun vs H Q _ => ∃ (p : Addr) (v : V) (g : G) (n : Int), vs = [v, .int n] ∧ Tg p H v g ∧ few g ∧ ∀ H', Same H H' → Q (.bl (areSlotsG g n)) H'
def spBits : Sp := fun vs H Q _ => ∃ (p : Addr) (v : V) (g : G) (n : Int) (s : Str), vs = [v, .int n, .str s] ∧ Tg p H v g ∧ few g ∧ ∀ H', Same H H' → Q (.bl (areBitsG g n s)) H'
def spLay : Sp := fun vs H Q _ => ∃ (p : Addr) (v vs' vw : V) (g gs gw : G), vs = [v, vs', vw] ∧ Tg p H v g ∧ Tg p H vs' gs ∧ Tg p H vw gw ∧ few2 g ∧ ∀ H', Same H H' → Q (.bl (layG g gs gw)) H'
theorem tg_tup {p : Addr} {H : Hp} {v : V} {g : G} (h : Tg p H v g) (e : isTuple g = true) : ∃ a vs ds, v = .ref a ∧ g = .tup ds ∧ TupW H a vs ∧ TgL p H vs ds := by
  cases h with
  | tup e2 t => exact ⟨_, _, _, rfl, rfl, e2, t⟩
  | _ => cases e
theorem iteNT {c A B : Prop} [Decidable c] (hc : ¬ c) (h : A) : if (!decide c) = true then A else B := by
  rw [if_pos (by simp [hc])]
  exact h
theorem all_map (f : G → Bool) (ds : List G) : ((ds.map f).all id) = ds.all f := by
  rw [List.all_map]
  rfl
theorem bTrue {b : Bool} (h : (!b) = false) : b = true := by
  cases b
  · cases h
  · rfl
theorem bFalse {b : Bool} (h : (!b) = true) : b = false := by
  cases b
  · rfl
  · cases h
theorem dec_int' (a b : Int) : decide (V.int a = V.int b) = decide (a = b) := by
  by_cases h : a = b
  · subst h
    rw [decide_eq_true rfl, decide_eq_true rfl]
  · rw [decide_eq_false h, decide_eq_false (fun z => h (V.int.inj z))]
theorem scAreSlots : FnScope ["thing", "size", "rooms", "slot"] ["thing", "size"] (defScope sAreSlots) := ⟨rfl, rfl, rfl, by decide +kernel, rfl, by decide +kernel, by decide +kernel⟩
theorem scAreBits : FnScope ["thing", "size", "way", "bit"] ["thing", "size", "way"] (defScope sAreBits) := ⟨rfl, rfl, rfl, by decide +kernel, rfl, by decide +kernel, by decide +kernel⟩
theorem scIsLay : FnScope ["thing", "size", "way"] ["thing", "size", "way"] (defScope sIsLay) := ⟨rfl, rfl, rfl, by decide +kernel, rfl, by decide +kernel, by decide +kernel⟩
section
variable {P : Program} {w : World} {K : PySem.W.Frag} {mg : Str → Option Value} {base : Heap}
theorem ok_slots (T : At K mg "are_slots" sAreSlots ["thing", "size"]) (B : Bt mg) (D : Gb K mg) (c_is_slot : Cal P w K mg base 3 "is_slot" ["thing"] spSlot) : Cal P w K mg base 4 "are_slots" ["thing", "size"] spSlots := by
  obtain ⟨te, mEmpty⟩ := D.empty
  refine cal_of T scAreSlots (fun vs H Q E h => ?_) (fun f cdv A outer s H vs Q E hr h => ?_)
  · obtain ⟨p, v, g, n, rfl, _⟩ := h
    rfl
  · obtain ⟨p, v, g, n, rfl, hv, hf, q⟩ := h
    refine ⟨_, (pss_cons (ps_if (PW.pt (pw_or (pt_not (pt_val (pe_callB call_isi (by rfl) B.isinstance (by decide +kernel) (pa_cons (pv 0) (pa_cons (pe_bltn (v := .ty "tuple") (u := .type "tuple") (by rfl) B.tuple (by decide +kernel) rfl) pa_nil))))) (pw_or1 (pt_cmpR op_ne (pe_callB call_len_seq (by rfl) B.len PySem.boot_len (pa_cons (pv 0) pa_nil)) (pv 1) (nomark _))))) (pss_one (ps_ret pe_bl)) pss_nil)
      (pss_cons (ps_if (pt_not (pt_val (pe_callB (cr_all rfl) (by rfl) B.all (by decide +kernel) (pa_cons (pe_lc (own := [("slot", 3)]) (g := gName 3) (tt := tYes) (te := (tCall spSlot [] E0 (tCons (tVar 3) tNil))) (by rfl) scAreSlots.nd (pi_tup (pv 0)) (blkOk_by (own := [("slot", 3)]) (N := ["thing", "size", "rooms", "slot"]) (sc := defScope sAreSlots) (by decide +kernel)) (fun _ _ _ _ _ => (pg_name (i := 3) scAreSlots.nd rfl (Or.inl rfl))) (fun _ _ _ _ _ => pts_nil) (fun _ _ _ _ _ => (pe_own c_is_slot hr (by decide) (by rfl) (pa_cons (pv 3) pa_nil)))) pa_nil)))) (pss_one (ps_ret pe_bl)) pss_nil)
      (pss_cons (ps_setLc (i := 2) (own := [("slot", 3)]) (g := gName 3) (tt := (tTest (tOp rNe (tVar 3) (tC (.int (-1)))))) (te := (tVar 3)) (by rfl) scAreSlots.nd rfl rfl (sw_true rfl rfl rfl (by decide +kernel)) (pi_tup (pv 0)) (blkOk_by (own := [("slot", 3)]) (N := ["thing", "size", "rooms", "slot"]) (sc := defScope sAreSlots) (by decide +kernel)) (fun _ _ _ _ _ => (pg_name (i := 3) scAreSlots.nd rfl (Or.inl rfl))) (fun _ _ _ _ _ => pts_one (pt_cmpR op_ne (pv 3) (pe_glob (v := .int (-1)) rfl mEmpty ⟨_, rfl⟩) (nomark _))) (fun _ _ _ _ _ => (pv 3)))
      (pss_one (ps_ret (pe_cmpR op_eq (pe_lenSet (by rfl) B.len (by rfl) B.set (pv 2)) (pe_callB call_len_seq (by rfl) B.len PySem.boot_len (pa_cons (pv 2) pa_nil)) (nomark _))))))), ?_⟩
    refine ⟨_, rfl, v, .ty "tuple", _, _, _, rfl, .ty "tuple", hv.ty, kit_tuple g, _, rfl, iteB (fun e => ?_) (fun e => ?_)⟩
    · have z : false = areSlotsG g n := by
        have e' := bFalse e
        cases g <;> first | rfl | cases e'
      have q' := q H (Same.refl H)
      rw [← z] at q'
      exact q'
    obtain ⟨a, ws, ds, rfl, rfl, tw, tl⟩ := tg_tup hv (bTrue e)
    have q : ∀ H', Same H H' → Q (.bl (decide ((ds.length : Int) = n) && (ds.all slotG && decide ((dd (roomsOf ds)).length = (roomsOf ds).length)))) H' := q
    have hf : ds.length ≤ 100 := hf
    have hwl : ws.length = ds.length := tl.len
    refine ⟨_, rfl, a, _, rfl, .inr tw.sq, _, rfl, rfl, _, rfl, iteB (fun e1 => ?_) (fun e1 => ?_)⟩
    · have z : decide ((ds.length : Int) = n) = false := by
        have y := bFalse e1
        rw [dec_int', hwl] at y
        exact y
      have q' := q H (Same.refl H)
      rw [z, Bool.false_and] at q'
      exact q'
    have z1 : decide ((ds.length : Int) = n) = true := by
      have y := bTrue e1
      rw [dec_int', hwl] at y
      exact y
    rw [z1] at q
    -- all([is_slot(slot) for slot in thing])
    refine ⟨_, rfl, a, rfl, ⟨_, tw.sq⟩, fun D nD => ?_⟩
    refine lc_tup (K := K) (a := a) (xs := ws) (fun i H2 => Same H H2 ∧ H2 D = some (.lst (((ds.take i).map slotG).map V.bl))) ?_ ?_ ?_ ?_
    · exact ⟨same_upd nD, upd_same⟩
    · rintro i H2 _ ⟨s2, _⟩
      exact ((Keeps.same (p := p) s2).tw _ _ tw).sq
    · rintro i x H2 hx ⟨s2, hD⟩
      obtain ⟨g0, eg, hg0⟩ := tl.get hx
      refine ⟨rfl, tyes ?_⟩
      refine ⟨_, rfl, p, x, g0, rfl, hg0.keep (Keeps.same s2), _, hD, ?_, ?_, ?_⟩
      · rw [List.length_map, List.length_map, List.length_take]
        exact small1000 (by omega)
      · intro c o ec
        rw [upd_ne (ne_of_none ec nD)]
        exact s2 _ _ ec
      · rw [upd_same, List.take_add_one, eg, List.map_append, List.map_append]
        rfl
    · rintro H2 ⟨s2, hD⟩
      rw [hwl, List.take_length] at hD
      refine ⟨D, ds.map slotG, rfl, SqL.of hD, _, rfl, ?_⟩
      rw [all_map]
      refine iteB (fun e2 => ?_) (fun e2 => ?_)
      · have q' := q H2 s2
        rw [bFalse e2] at q'
        exact q'
      have e3 := bTrue e2
      rw [e3] at q
      -- rooms
      have tw2 := (Keeps.same (p := p) s2).tw _ _ tw
      refine ⟨_, rfl, a, rfl, ⟨_, tw2.sq⟩, fun D2 nD2 => ?_⟩
      refine lc_tup (K := K) (a := a) (xs := ws) (fun i H3 => Same H2 H3 ∧ H3 D2 = some (.lst ((roomsOf (ds.take i)).map V.int))) ?_ ?_ ?_ ?_
      · exact ⟨same_upd nD2, upd_same⟩
      · rintro i H3 _ ⟨s3, _⟩
        exact ((Keeps.same (p := p) s3).tw _ _ tw2).sq
      · rintro i x H3 hx ⟨s3, hD3⟩
        obtain ⟨g0, eg, hg0⟩ := tl.get hx
        have hsg : slotG g0 = true := List.all_eq_true.mp e3 g0 (List.mem_of_getElem? eg)
        obtain ⟨j, rfl, rfl⟩ : ∃ j, x = .int j ∧ g0 = .int j := by
          cases hg0 with
          | int j => exact ⟨j, rfl, rfl⟩
          | _ => cases hsg
        have et : roomsOf (ds.take (i + 1)) = roomsOf (ds.take i) ++ ([j].filter fun i => !decide (i = -1)) := by
          unfold roomsOf
          rw [List.take_add_one, eg, List.map_append, List.filter_append]
          rfl
        refine ⟨rfl, _, rfl, rfl, _, rfl, ?_⟩
        by_cases ee : j = -1
        · refine iteNS (congrArg V.int ee) ⟨s3, ?_⟩
          rw [et, List.filter_cons_of_neg (by simpa using ee), List.filter_nil, List.append_nil]
          exact hD3
        · refine iteNT (fun y => ee (V.int.inj y)) ?_
          refine ⟨_, rfl, _, hD3, ?_, ?_, ?_⟩
          · rw [List.length_map]
            have h1 := List.length_filter_le (fun i : Int => !decide (i = -1)) ((ds.take i).map numG)
            rw [List.length_map, List.length_take] at h1
            exact small1000 (show (roomsOf (ds.take i)).length ≤ 1000 by unfold roomsOf; omega)
          · intro c o ec
            rw [upd_ne (ne_of_none ec nD2)]
            exact s3 _ _ ec
          · rw [upd_same, et, List.filter_cons_of_pos (by simpa using ee), List.filter_nil, List.map_append]
            rfl
      · rintro H3 ⟨s3, hD3⟩
        rw [hwl, List.take_length] at hD3
        have hrl : (roomsOf ds).length ≤ 1000 := by
          have h1 := List.length_filter_le (fun i : Int => !decide (i = -1)) (ds.map numG)
          rw [List.length_map] at h1
          unfold roomsOf
          omega
        refine ⟨_, rfl, D2, roomsOf ds, rfl, SqL.of hD3, hrl, _, rfl, D2, _, rfl, .inl (SqL.of hD3), rfl, ?_⟩
        rw [dec_int', List.length_map]
        have q' := q H3 (s2.trans s3)
        rw [show decide (((dd (roomsOf ds)).length : Int) = ((roomsOf ds).length : Int)) = decide ((dd (roomsOf ds)).length = (roomsOf ds).length) by
          by_cases y : (dd (roomsOf ds)).length = (roomsOf ds).length
          · rw [decide_eq_true y, decide_eq_true (by omega)]
          · rw [decide_eq_false y, decide_eq_false (by omega)]]
        exact q'
theorem ok_bits (T : At K mg "are_bits" sAreBits ["thing", "size", "way"]) (B : Bt mg) (c_is_bit : Cal P w K mg base 2 "is_bit" ["thing"] spBit) (c_how_many_bits : Cal P w K mg base 1 "how_many_bits" ["size", "way"] spHow) : Cal P w K mg base 3 "are_bits" ["thing", "size", "way"] spBits := by
  refine cal_of T scAreBits (fun vs H Q E h => ?_) (fun f cdv A outer s H vs Q E hr h => ?_)
  · obtain ⟨p, v, g, n, z, rfl, _⟩ := h
    rfl
  · obtain ⟨p, v, g, n, y, rfl, hv, hf, q⟩ := h
    refine ⟨_, (pss_cons (ps_if (PW.pt (pw_or (pt_not (pt_val (pe_callB call_isi (by rfl) B.isinstance (by decide +kernel) (pa_cons (pv 0) (pa_cons (pe_bltn (v := .ty "tuple") (u := .type "tuple") (by rfl) B.tuple (by decide +kernel) rfl) pa_nil))))) (pw_or1 (pt_cmpR op_ne (pe_callB call_len_seq (by rfl) B.len PySem.boot_len (pa_cons (pv 0) pa_nil)) (pe_own c_how_many_bits hr (by decide) (by rfl) (pa_cons (pv 1) (pa_cons (pv 2) pa_nil))) (nomark _))))) (pss_one (ps_ret pe_bl)) pss_nil)
      (pss_one (ps_ret (pe_callB (cr_all rfl) (by rfl) B.all (by decide +kernel) (pa_cons (pe_lc (own := [("bit", 3)]) (g := gName 3) (tt := tYes) (te := (tCall spBit [] E0 (tCons (tVar 3) tNil))) (by rfl) scAreBits.nd (pi_tup (pv 0)) (blkOk_by (own := [("bit", 3)]) (N := ["thing", "size", "way", "bit"]) (sc := defScope sAreBits) (by decide +kernel)) (fun _ _ _ _ _ => (pg_name (i := 3) scAreBits.nd rfl (Or.inl rfl))) (fun _ _ _ _ _ => pts_nil) (fun _ _ _ _ _ => (pe_own c_is_bit hr (by decide) (by rfl) (pa_cons (pv 3) pa_nil)))) pa_nil))))), ?_⟩
    refine ⟨_, rfl, v, .ty "tuple", _, _, _, rfl, .ty "tuple", hv.ty, kit_tuple g, _, rfl, iteB (fun e => ?_) (fun e => ?_)⟩
    · have z : false = areBitsG g n y := by
        have e' := bFalse e
        cases g <;> first | rfl | cases e'
      have q' := q H (Same.refl H)
      rw [← z] at q'
      exact q'
    obtain ⟨a, ws, ds, rfl, rfl, tw, tl⟩ := tg_tup hv (bTrue e)
    have q : ∀ H', Same H H' → Q (.bl (decide ((ds.length : Int) = bitsN n y) && ds.all bitG)) H' := q
    have hf : ds.length ≤ 100 := hf
    have hwl : ws.length = ds.length := tl.len
    refine ⟨_, rfl, a, _, rfl, .inr tw.sq, _, rfl, _, rfl, n, y, rfl, rfl, _, rfl, iteB (fun e1 => ?_) (fun e1 => ?_)⟩
    · have z : decide ((ds.length : Int) = bitsN n y) = false := by
        have y := bFalse e1
        rw [dec_int', hwl] at y
        exact y
      have q' := q H (Same.refl H)
      rw [z, Bool.false_and] at q'
      exact q'
    have z1 : decide ((ds.length : Int) = bitsN n y) = true := by
      have y := bTrue e1
      rw [dec_int', hwl] at y
      exact y
    rw [z1] at q
    refine ⟨_, rfl, a, rfl, ⟨_, tw.sq⟩, fun D nD => ?_⟩
    refine lc_tup (K := K) (a := a) (xs := ws) (fun i H2 => Same H H2 ∧ H2 D = some (.lst (((ds.take i).map bitG).map V.bl))) ?_ ?_ ?_ ?_
    · exact ⟨same_upd nD, upd_same⟩
    · rintro i H2 _ ⟨s2, _⟩
      exact ((Keeps.same (p := p) s2).tw _ _ tw).sq
    · rintro i x H2 hx ⟨s2, hD⟩
      obtain ⟨g0, eg, hg0⟩ := tl.get hx
      refine ⟨rfl, tyes ?_⟩
      refine ⟨_, rfl, p, x, g0, rfl, hg0.keep (Keeps.same s2), _, hD, ?_, ?_, ?_⟩
      · rw [List.length_map, List.length_map, List.length_take]
        exact small1000 (by omega)
      · intro c o ec
        rw [upd_ne (ne_of_none ec nD)]
        exact s2 _ _ ec
      · rw [upd_same, List.take_add_one, eg, List.map_append, List.map_append]
        rfl
    · rintro H2 ⟨s2, hD⟩
      rw [hwl, List.take_length] at hD
      refine ⟨D, ds.map bitG, rfl, SqL.of hD, ?_⟩
      rw [all_map]
      exact q H2 s2
theorem tg_str {p : Addr} {H : Hp} {v : V} {g : G} (h : Tg p H v g) (e : wayG g = true) : ∃ s, v = .str s ∧ g = .str s := by
  cases h with
  | str s => exact ⟨s, rfl, rfl⟩
  | _ => cases e
theorem tg_size {p : Addr} {H : Hp} {v : V} {g : G} {s : Str} (h : Tg p H v g) (e : sizeG g s = true) : ∃ i, v = .int i ∧ g = .int i := by
  cases h with
  | int i => exact ⟨i, rfl, rfl⟩
  | _ => cases e
theorem layG_way {g gs gw : G} (e : wayG gw = false) : layG g gs gw = false := by
  unfold layG
  split
  · rw [e, Bool.false_and]
  · rfl
theorem layG_size {g gs : G} {s : Str} (e : sizeG gs s = false) : layG g gs (.str s) = false := by
  cases gs with
  | int n =>
    cases g with
    | tup ds =>
      match ds with
      | [] => rfl
      | [_] => rfl
      | [d1, d2] =>
        show (wayG (.str s) && (sizeG (.int n) s && (areSlotsG d1 n && areBitsG d2 n s))) = false
        rw [e, Bool.false_and, Bool.and_false]
      | _ :: _ :: _ :: _ => rfl
    | _ => rfl
  | _ => rfl
theorem ok_lay (T : At K mg "is_lay" sIsLay ["thing", "size", "way"]) (B : Bt mg) (c_is_way : Cal P w K mg base 1 "is_way" ["thing"] spWay) (c_is_size : Cal P w K mg base 2 "is_size" ["thing", "way"] spSize)
    (c_are_slots : Cal P w K mg base 4 "are_slots" ["thing", "size"] spSlots) (c_are_bits : Cal P w K mg base 3 "are_bits" ["thing", "size", "way"] spBits) : Cal P w K mg base 5 "is_lay" ["thing", "size", "way"] spLay := by
  refine cal_of T scIsLay (fun vs H Q E h => ?_) (fun f cdv A outer s H vs Q E hr h => ?_)
  · obtain ⟨p, v, v2, v3, g, gs, gw, rfl, _⟩ := h
    rfl
  · obtain ⟨p, v, v2, v3, g, gs, gw, rfl, hv, hs, hw, hf, q⟩ := h
    refine ⟨_, (pss_cons (ps_if (PW.pt (pw_or (pt_not (pt_val (pe_own c_is_way hr (by decide) (by rfl) (pa_cons (pv 2) pa_nil)))) (pw_or1 (pt_not (pt_val (pe_own c_is_size hr (by decide) (by rfl) (pa_cons (pv 1) (pa_cons (pv 2) pa_nil)))))))) (pss_one (ps_ret pe_bl)) pss_nil)
      (pss_cons (ps_if (PW.pt (pw_or (pt_not (pt_val (pe_callB call_isi (by rfl) B.isinstance (by decide +kernel) (pa_cons (pv 0) (pa_cons (pe_bltn (v := .ty "tuple") (u := .type "tuple") (by rfl) B.tuple (by decide +kernel) rfl) pa_nil))))) (pw_or1 (pt_cmpR op_ne (pe_callB call_len_seq (by rfl) B.len PySem.boot_len (pa_cons (pv 0) pa_nil)) pe_int (nomark _))))) (pss_one (ps_ret pe_bl)) pss_nil)
      (pss_one (ps_ret (pe_and (pe_own c_are_slots hr (by decide) (by rfl) (pa_cons (pe_ix ix_tup (pv 0) pe_int (fun _ _ => rfl)) (pa_cons (pv 1) pa_nil))) (pe_one (pe_own c_are_bits hr (by decide) (by rfl) (pa_cons (pe_ix ix_tup (pv 0) pe_int (fun _ _ => rfl)) (pa_cons (pv 1) (pa_cons (pv 2) pa_nil)))))))))), ?_⟩
    refine ⟨_, rfl, p, v3, gw, rfl, hw, _, rfl, iteB (fun e => ?_) (fun e => ?_)⟩
    · have q' := q H (Same.refl H)
      rw [layG_way (bFalse e)] at q'
      exact q'
    obtain ⟨st, rfl, rfl⟩ := tg_str hw (bTrue e)
    refine ⟨_, rfl, _, rfl, p, v2, gs, st, rfl, hs, _, rfl, iteB (fun e1 => ?_) (fun e1 => ?_)⟩
    · have q' := q H (Same.refl H)
      rw [layG_size (bFalse e1)] at q'
      exact q'
    obtain ⟨n, rfl, rfl⟩ := tg_size hs (bTrue e1)
    refine ⟨_, rfl, v, .ty "tuple", _, _, _, rfl, .ty "tuple", hv.ty, kit_tuple g, _, rfl, iteB (fun e2 => ?_) (fun e2 => ?_)⟩
    · have z : layG g (.int n) (.str st) = false := by
        have e' := bFalse e2
        cases g <;> first | rfl | cases e'
      have q' := q H (Same.refl H)
      rw [z] at q'
      exact q'
    obtain ⟨a, ws, ds, rfl, rfl, tw, tl⟩ := tg_tup hv (bTrue e2)
    have hwl : ws.length = ds.length := tl.len
    refine ⟨_, rfl, a, _, rfl, .inr tw.sq, rfl, _, rfl, iteB (fun e3 => ?_) (fun e3 => ?_)⟩
    · have y := bFalse e3
      rw [dec_int', hwl] at y
      have y2 := of_decide_eq_false y
      have z : layG (.tup ds) (.int n) (.str st) = false := by
        match ds, y2 with
        | [], _ => rfl
        | [_], _ => rfl
        | [_, _], y2 => exact absurd rfl y2
        | _ :: _ :: _ :: _, _ => rfl
      have q' := q H (Same.refl H)
      rw [z] at q'
      exact q'
    have y := bTrue e3
    rw [dec_int', hwl] at y
    have y2 := of_decide_eq_true y
    match ds, tl, hf, q, y2 with
    | [], _, _, _, y2 => exact absurd y2 (show ¬ ((0 : Nat) : Int) = 2 by decide)
    | [_], _, _, _, y2 => exact absurd y2 (show ¬ ((1 : Nat) : Int) = 2 by decide)
    | _ :: _ :: _ :: _, _, _, _, y2 =>
      rw [List.length_cons, List.length_cons, List.length_cons] at y2
      omega
    | [d1, d2], tl, hf, q, _ =>
      cases tl with
      | cons h1 t1 =>
        cases t1 with
        | cons h2 t2 =>
          cases t2
          rename_i w1 w2
          have q : ∀ H', Same H H' → Q (.bl (wayG (.str st) && (sizeG (.int n) st && (areSlotsG d1 n && areBitsG d2 n st)))) H' := q
          rw [bTrue e, bTrue e1] at q
          refine ⟨_, rfl, a, _, _, _, rfl, rfl, tw.sq, atI_nat (j := 0) rfl, _, rfl, p, w1, d1, n, rfl, h1, hf d1 List.mem_cons_self, fun H1 s1 => ?_⟩
          refine ⟨_, rfl, iteB (fun e5 => ?_) (fun e5 => ?_)⟩
          · rw [e5] at q
            refine ⟨_, rfl, a, _, _, _, rfl, rfl, ((Keeps.same (p := p) s1).tw _ _ tw).sq, atI_nat (j := 1) rfl, _, rfl, _, rfl, p, w2, d2, n, st, rfl, h2.keep (Keeps.same s1), hf d2 (List.mem_cons_of_mem _ List.mem_cons_self), fun H2 s2 => ?_⟩
            exact q H2 (s1.trans s2)
          · rw [e5] at q
            exact q H1 s1
end
end Su
namespace Su
open PySem PySem.Spec PyProof.Rows L2
mutual
def toD : G → PyData
  | .non => .none
  | .bl b => .bool b
  | .int i => .int i
  | .str s => .str s
  | .lst l => .list (toDs l)
  | .tup l => .tuple (toDs l)
  | .dct => .none
def toDs : List G → List PyData
  | [] => []
  | g :: gs => toD g :: toDs gs
end
mutual
def okD : G → Bool
  | .dct => false
  | .lst l => okDs l
  | .tup l => okDs l
  | _ => true
def okDs : List G → Bool
  | [] => true
  | g :: gs => okD g && okDs gs
end
mutual
theorem Tg.dp {K : PySem.W.Frag} {p : Addr} {H : Hp} : ∀ {v : V} {g : G}, Tg p H v g → okD g = true → Dp K H v (toD g)
  | _, _, .non, _ => .non
  | _, _, .bl b, _ => .bl b
  | _, _, .int i, _ => .int i
  | _, _, .str s, _ => .str s
  | _, _, .lst n e t, h => .lst (SqL.of e) (TgL.dp t (by simpa only [okD] using h))
  | _, _, .tup e t, h => .tup e.sq (TgL.dp t (by simpa only [okD] using h))
  | _, _, .dct _, h => by simp [okD] at h
theorem TgL.dp {K : PySem.W.Frag} {p : Addr} {H : Hp} : ∀ {vs : List V} {gs : List G}, TgL p H vs gs → okDs gs = true → DpAll K H vs (toDs gs)
  | _, _, .nil, _ => .nil
  | _, _, .cons x t, h => by
    simp only [okDs, Bool.and_eq_true] at h
    exact .cons (Tg.dp x h.1) (TgL.dp t h.2)
end
theorem toDs_map : ∀ gs : List G, toDs gs = gs.map toD
  | [] => rfl
  | g :: gs => by
    show toD g :: toDs gs = toD g :: gs.map toD
    rw [toDs_map gs]
theorem okDs_all : ∀ gs : List G, okDs gs = gs.all okD
  | [] => rfl
  | g :: gs => by
    show (okD g && okDs gs) = (okD g && gs.all okD)
    rw [okDs_all gs]
theorem FineL.of_all {n m : Nat} : ∀ ds : List PyData, (∀ d ∈ ds, Fine d n m) → FineL ds n ((m + 1) * ds.length)
  | [], _ => FineL.nil
  | d :: ds, h => by
    have a := FineL.cons (h d List.mem_cons_self) (FineL.of_all ds fun y hy => h y (List.mem_cons_of_mem _ hy))
    have e : m + 1 + (m + 1) * ds.length = (m + 1) * (d :: ds).length := by
      rw [List.length_cons, Nat.mul_add, Nat.mul_one, Nat.add_comm]
    rw [e] at a
    exact a
theorem eqv_nilD (ds : List PyData) : PyData.eqv (.list ds) (.list []) = ds.isEmpty := by
  cases ds with
  | nil => rfl
  | cons x l => rfl
/-- a thing that may stand in a tuple -/
structure OkE (g : G) : Prop where
  ok : okD g = true
  fi : Fine (toD g) 4 4000
def OkM : G → Prop
  | .tup es => es.length ≤ 100 ∧ ∀ e ∈ es, OkE e
  | _ => True
def OkL : G → Prop
  | .tup ds => ∀ d ∈ ds, OkM d
  | _ => True
/-- a list of such things beside [] -/
theorem OkE.list {gs : List G} (h : ∀ g ∈ gs, OkE g) : okDs gs = true ∧ SeqAt.shaped (.list (toDs gs)) = true := by
  refine ⟨?_, ?_⟩
  · rw [okDs_all, List.all_eq_true]
    exact fun g hg => (h g hg).ok
  · rw [toDs_map]
    refine (Fine.list (FineL.of_all (n := 4) (m := 4000) (gs.map toD) fun d hd => ?_)).shaped (by decide)
    obtain ⟨g, hg, rfl⟩ := List.mem_map.mp hd
    exact (h g hg).fi
theorem shaped_nil : SeqAt.shaped (.list []) = true := by
  have f2 : Fine (.list []) 1 0 := Fine.list FineL.nil
  exact f2.shaped (by decide)
/-! len(set(l)) -/
theorem fold_len : ∀ (l acc : List Int), (l.foldl step_dedup acc).length ≤ acc.length + l.length ∧ ((l.foldl step_dedup acc).length = acc.length + l.length ↔ (∀ x ∈ l, x ∉ acc) ∧ l.Nodup)
  | [], acc => ⟨Nat.le_refl _, ⟨fun _ => ⟨fun x hx => (List.not_mem_nil hx).elim, List.nodup_nil⟩, fun _ => rfl⟩⟩
  | y :: l, acc => by
    rw [List.foldl_cons]
    by_cases h : y ∈ acc
    · have e : step_dedup acc y = acc := by
        unfold step_dedup
        rw [if_pos]
        exact List.any_eq_true.mpr ⟨y, h, by simp⟩
      rw [e]
      have ih := (fold_len l acc).1
      refine ⟨by rw [List.length_cons]; omega, fun z => ?_, fun z => absurd h (z.1 y List.mem_cons_self)⟩
      rw [List.length_cons] at z
      omega
    · have e : step_dedup acc y = acc ++ [y] := by
        unfold step_dedup
        rw [if_neg]
        intro z
        obtain ⟨x, hx, hxy⟩ := List.any_eq_true.mp z
        have e2 : x = y := by simpa using hxy
        exact h (e2 ▸ hx)
      rw [e]
      obtain ⟨i1, i2⟩ := fold_len l (acc ++ [y])
      have el : (acc ++ [y]).length + l.length = acc.length + (y :: l).length := by
        rw [List.length_append, List.length_cons]
        show acc.length + 1 + l.length = acc.length + (l.length + 1)
        omega
      rw [el] at i1 i2
      refine ⟨i1, i2.trans ⟨fun z => ⟨fun x hx => ?_, ?_⟩, fun z => ⟨fun x hx hx2 => ?_, ?_⟩⟩⟩
      · rcases List.mem_cons.mp hx with q | q
        · rw [q]
          exact h
        · exact fun w => z.1 x q (List.mem_append_left _ w)
      · exact List.nodup_cons.mpr ⟨fun w => z.1 y w (List.mem_append_right _ List.mem_cons_self), z.2⟩
      · rcases List.mem_append.mp hx2 with q | q
        · exact z.1 x (List.mem_cons_of_mem _ hx) q
        · have e3 := List.mem_singleton.mp q
          exact (List.nodup_cons.mp z.2).1 (e3 ▸ hx)
      · exact (List.nodup_cons.mp z.2).2
theorem dd_fold (ns : List Int) : dd ns = ns.foldl step_dedup [] := by
  unfold dd PyProof.Rows.firstMet
  congr 1
  refine List.ext_getElem? fun i => ?_
  rw [List.getElem?_map]
  by_cases h : i < ns.length
  · rw [List.getElem?_range h, List.getElem?_eq_getElem h]
    simp [List.getD_eq_getElem?_getD, h]
  · rw [List.getElem?_eq_none (by rw [List.length_range]; omega), List.getElem?_eq_none (by omega)]
    rfl
theorem dd_nodup (ns : List Int) : (dd ns).length = ns.length ↔ ns.Nodup := by
  rw [dd_fold]
  have h := (fold_len ns []).2
  rw [List.length_nil, Nat.zero_add] at h
  exact h.trans ⟨fun z => z.2, fun z => ⟨fun x _ => List.not_mem_nil, z⟩⟩
/-- no room twice, as the law says it -/
theorem rooms_nodup (ns : List Int) : (ns.filter fun i => !decide (i = -1)).Nodup ↔ ∀ i, i ≠ -1 → ns.count i ≤ 1 := by
  rw [List.nodup_iff_count]
  constructor
  · intro h i hi
    have := h i
    rw [List.count_filter (by simpa using hi)] at this
    exact this
  · intro h i
    by_cases hi : i = -1
    · subst hi
      rw [List.count_eq_zero.mpr (fun z => by have := (List.mem_filter.mp z).2; simp at this)]
      exact Nat.zero_le _
    · rw [List.count_filter (by simpa using hi)]
      exact h i hi
section
variable {X : Cx}
/-- t.count(n) -/
def rTCount : V → List V → Hp → VK → Prop := fun x xs H Q => ∃ (p : Addr) (ns : List Int) (k : Int), x = .ref p ∧ xs = [.int k] ∧ PTup H p (ns.map V.int) ∧ Q (.int (ns.count k : Nat)) H
theorem countP_int (ns : List Int) (k : Int) : ((ns.map PyData.int).countP fun y => PyData.eqv y (.int k)) = ns.count k := by
  rw [List.countP_map, List.count]
  congr 1
theorem plain_ints : ∀ ns : List Int, PyData.plainAll (ns.map PyData.int) = true
  | [] => by first | rfl | simp [PyData.plainAll]
  | n :: ns => by
    rw [List.map_cons]
    have ih := plain_ints ns
    first
      | simp only [PyData.plainAll, PyData.plain, ih, Bool.and_self]
      | simp [PyData.plainAll, PyData.plain, ih]
theorem mt_tcount (hu : X.A.units + 1 < cLine) : MtR X "tuple.count" rTCount := by
  intro pins s σ H x xs v us Q I rx rs h
  obtain ⟨p, ns, k, rfl, rfl, hq, q⟩ := h
  cases rx
  obtain ⟨u, rfl, t, rfl⟩ := vals1 rs
  obtain ⟨its, r, pl, hz⟩ := I.tuple (hq.sq (K := X.K))
  obtain ⟨as, ra⟩ := Dp.readsAll I (ns.map PyData.int) _ _ (dp_ints ns) r
  refine PySem.SeqAt.count_tuple_data (vs := its.toArray) pl (by simpa using ra) (Reads.int k t) (plain_ints ns) (by first | rfl | simp [PyData.plain]) (by
    have e : (PyData.int k).depth = 0 := by simp [PyData.depth]
    rw [e, Nat.min_zero]
    omega) ?_
  rw [countP_int]
  exact ⟨.int (ns.count k : Nat), H, I.tok _, ⟨_, rfl⟩, q⟩
end
end Su
namespace Su
open PySem PySem.Spec PyProof.Rows L2
def spLLay : Sp := fun vs H Q _ => ∃ (p : Addr) (v vs' vw : V) (g gs gw : G), vs = [v, vs', vw] ∧ Tg p H v g ∧ Tg p H vs' gs ∧ Tg p H vw gw ∧ OkL g ∧ ∀ H', Same H H' → Q (.bl (layG g gs gw)) H'
/-- the values of things that pass a look, in their order -/
theorem TgL.filt {p : Addr} {H : Hp} {f : G → Bool} : ∀ {vs : List V} {gs : List G}, TgL p H vs gs → ∀ {ws : List V} {hs : List G}, TgL p H ws hs → ∀ {v : V} {g : G}, Tg p H v g → f g = true → TgL p H (ws ++ [v]) (hs ++ [g].filter f) := by
  intro vs gs _ ws hs h v g hv hf
  rw [List.filter_cons_of_pos hf, List.filter_nil]
  exact h.app (.cons hv .nil)
theorem slot_rng (i : Int) : slotG (.int i) = (decide (-1 ≤ i) && decide (i ≤ 99)) := by
  show ((decide (0 ≤ i) && decide (i ≤ 99)) || decide (i = -1)) = (decide (-1 ≤ i) && decide (i ≤ 99))
  rw [Bool.eq_iff_iff]
  simp only [Bool.or_eq_true, Bool.and_eq_true, decide_eq_true_eq]
  omega
theorem ints_all : ∀ {es : List G} {p : Addr} {H : Hp} {vs : List V}, TgL p H vs es → (∀ e ∈ es, wholeG e = true) → ∃ ns : List Int, es = ns.map G.int ∧ vs = ns.map V.int
  | [], _, _, _, .nil, _ => ⟨[], rfl, rfl⟩
  | g :: es, p, H, _, .cons h t, a => by
    obtain ⟨i, rfl, rfl⟩ := whole_int h (a g List.mem_cons_self)
    obtain ⟨ns, rfl, rfl⟩ := ints_all t fun e he => a e (List.mem_cons_of_mem _ he)
    exact ⟨i :: ns, rfl, rfl⟩
theorem tg_isStr {p : Addr} {H : Hp} {v : V} {g : G} (h : Tg p H v g) (e : isStr g = true) : ∃ s, v = .str s ∧ g = .str s := by
  cases h with
  | str s => exact ⟨s, rfl, rfl⟩
  | _ => cases e
theorem layG_str {g gs gw : G} (e : isStr gw = false) : layG g gs gw = false := layG_way (by cases gw <;> first | rfl | cases e)
theorem layG_whole {g gs gw : G} (e : wholeG gs = false) : layG g gs gw = false := by
  cases gs <;> first | rfl | cases e
theorem layG_two {ds : List G} {n : Int} {s : Str} (h : ¬ ds.length = 2) : layG (.tup ds) (.int n) (.str s) = false := by
  match ds, h with
  | [], _ => rfl
  | [_], _ => rfl
  | [_, _], h => exact absurd rfl h
  | _ :: _ :: _ :: _, _ => rfl
theorem sizeG_eq (n : Int) (s : Str) : sizeG (.int n) s = ((decide (1 ≤ n) && decide (n ≤ 8)) && (!decide (s = "tree") || inV (.int n) sizeVs)) := rfl
theorem dec_str (a b : Str) : decide (V.str a = V.str b) = decide (a = b) := by
  by_cases h : a = b
  · subst h
    rw [decide_eq_true rfl, decide_eq_true rfl]
  · rw [decide_eq_false h, decide_eq_false (fun z => h (V.str.inj z))]
theorem filt_empty {α : Type} (f : α → Bool) : ∀ l : List α, (l.filter fun g => !f g).isEmpty = l.all f
  | [] => rfl
  | x :: l => by
    rw [List.filter_cons, List.all_cons, ← filt_empty f l]
    cases f x <;> rfl
theorem toDs_empty (gs : List G) : (toDs gs).isEmpty = gs.isEmpty := by
  cases gs <;> rfl
theorem map_empty {α β : Type} (f : α → β) (l : List α) : (l.map f).isEmpty = l.isEmpty := by
  cases l <;> rfl
theorem rooms_ints (ns : List Int) : roomsOf (ns.map G.int) = ns.filter fun i => !decide (i = -1) := by
  unfold roomsOf
  rw [List.map_map]
  congr 1
  exact List.map_id' ns
theorem dup_iff (ns : List Int) (h : ∀ i ∈ ns, -1 ≤ i) : (ns.filter fun i => decide (0 ≤ i) && decide (1 < ns.count i)).isEmpty = decide ((dd (roomsOf (ns.map G.int))).length = (roomsOf (ns.map G.int)).length) := by
  rw [rooms_ints, Bool.eq_iff_iff, decide_eq_true_eq, dd_nodup, rooms_nodup, List.isEmpty_iff, List.filter_eq_nil_iff]
  constructor
  · intro z i hi
    by_cases hm : i ∈ ns
    · have := z i hm
      have h1 := h i hm
      simp only [Bool.and_eq_true, decide_eq_true_eq, not_and] at this
      have := this (by omega)
      omega
    · rw [List.count_eq_zero.mpr hm]
      exact Nat.zero_le _
  · intro z i hm
    simp only [Bool.and_eq_true, decide_eq_true_eq, not_and]
    intro h0
    have := z i (by omega)
    omega
theorem bits_in (ms : List Int) : ((ms.filter fun i => !inV (V.int i) [V.int 0, V.int 1]).isEmpty) = (ms.map G.int).all bitG := by
  rw [filt_empty (fun i => inV (V.int i) [V.int 0, V.int 1]) ms, List.all_map]
  congr 1
  funext i
  show ((0 == i) || ((1 == i) || false)) = (decide (0 ≤ i) && decide (i ≤ 1))
  rw [Bool.eq_iff_iff]
  simp only [Bool.or_eq_true, Bool.and_eq_true, decide_eq_true_eq, beq_iff_eq, Bool.or_false]
  omega
theorem scLawLay : FnScope ["_law_thing", "_law_big_here", "_law_sort_here", "_law_cells_here", "_law_marks_here", "_law_cell", "_law_mark"] ["_law_thing", "_law_big_here", "_law_sort_here"] (defScope sLawLay) := ⟨rfl, rfl, rfl, by decide +kernel, rfl, by decide +kernel, by decide +kernel⟩
section
variable {P : Program} {w : World} {K : PySem.W.Frag} {mg : Str → Option Value} {base : Heap}
theorem ok_llay (T : At K mg "_law_is_lay" sLawLay ["_law_thing", "_law_big_here", "_law_sort_here"]) (B : Bt mg) (c_whole : Cal P w K mg base 1 "_law_whole" ["_law_thing"] spWhole) : Cal P w K mg base 2 "_law_is_lay" ["_law_thing", "_law_big_here", "_law_sort_here"] spLLay := by
  refine cal_of T scLawLay (fun vs H Q E h => ?_) (fun f cdv A outer s H vs Q E hr h => ?_)
  · obtain ⟨p, v, v2, v3, g, gs, gw, rfl, _⟩ := h
    rfl
  · obtain ⟨p, v, v2, v3, g, gs, gw, rfl, hv, hs, hw, hok, q⟩ := h
    have hu1 : A.units + 3 + 1 < cLine := by
      have := hr.un
      show _ < _
      exact Nat.lt_of_le_of_lt (by show A.units + 3 + 1 ≤ A.units + 3 + 16 * 1 + 200; omega) this
    refine ⟨_, (pss_cons (ps_if (PW.pt (pw_or (pt_not (pt_val (pe_callB call_isi (by rfl) B.isinstance (by decide +kernel) (pa_cons (pv 2) (pa_cons (pe_bltn (v := .ty "str") (u := .type "str") (by rfl) B.str (by decide +kernel) rfl) pa_nil))))) (pw_or (pt_cmpR op_notIn_seq (pv 2) (pe_tupF (pa_cons pe_str (pa_cons pe_str (pa_cons pe_str pa_nil)))) (by rfl)) (pw_or (pt_not (pt_val (pe_own c_whole hr (by decide) (by rfl) (pa_cons (pv 1) pa_nil)))) (pw_or1 (pt_not (pt_chain op_le op_le pe_int (pv 1) pe_int))))))) (pss_one (ps_ret pe_bl)) pss_nil)
      (pss_cons (ps_if (PW.pt (pw_or (PW.pt (pw_and (pt_cmpR op_eq (pv 2) pe_str (nomark _)) (pw_and1 (pt_cmpR op_notIn_seq (pv 1) (pe_tupF (pa_cons pe_int (pa_cons pe_int (pa_cons pe_int (pa_cons pe_int pa_nil))))) (by rfl))))) (pw_or (pt_not (pt_val (pe_callB call_isi (by rfl) B.isinstance (by decide +kernel) (pa_cons (pv 0) (pa_cons (pe_bltn (v := .ty "tuple") (u := .type "tuple") (by rfl) B.tuple (by decide +kernel) rfl) pa_nil))))) (pw_or1 (pt_cmpR op_ne (pe_callB call_len_seq (by rfl) B.len PySem.boot_len (pa_cons (pv 0) pa_nil)) pe_int (nomark _)))))) (pss_one (ps_ret pe_bl)) pss_nil)
      (pss_cons (ps_asg (pv 0) (pg_tup (by rfl) (pgs_cons (pg_name (i := 3) scLawLay.nd rfl (Or.inr rfl)) (pgs_cons (pg_name (i := 4) scLawLay.nd rfl (Or.inl rfl)) pgs_nil))))
      (pss_cons (ps_if (PW.pt (pw_or (pt_not (pt_val (pe_callB call_isi (by rfl) B.isinstance (by decide +kernel) (pa_cons (pv 3) (pa_cons (pe_bltn (v := .ty "tuple") (u := .type "tuple") (by rfl) B.tuple (by decide +kernel) rfl) pa_nil))))) (pw_or (pt_not (pt_val (pe_callB call_isi (by rfl) B.isinstance (by decide +kernel) (pa_cons (pv 4) (pa_cons (pe_bltn (v := .ty "tuple") (u := .type "tuple") (by rfl) B.tuple (by decide +kernel) rfl) pa_nil))))) (pw_or1 (pt_cmpR op_ne (pe_callB call_len_seq (by rfl) B.len PySem.boot_len (pa_cons (pv 3) pa_nil)) (pv 1) (nomark _)))))) (pss_one (ps_ret pe_bl)) pss_nil)
      (pss_cons (ps_if (pt_cmpR (op_neD hr.units) (pe_lc (own := [("_law_cell", 5)]) (g := gName 5) (tt := _) (te := (tVar 5)) (by rfl) scLawLay.nd (pi_tup (pv 3)) (blkOk_by (own := [("_law_cell", 5)]) (N := ["_law_thing", "_law_big_here", "_law_sort_here", "_law_cells_here", "_law_marks_here", "_law_cell", "_law_mark"]) (sc := defScope sLawLay) (by decide +kernel)) (fun _ _ _ _ _ => (pg_name (i := 5) scLawLay.nd rfl (Or.inl rfl))) (fun _ _ _ _ _ => pts_one (PW.pt (pw_or (pt_not (pt_val (pe_own c_whole hr (by decide) (by rfl) (pa_cons (pv 5) pa_nil)))) (pw_or1 (pt_not (pt_chain op_le op_le (pe_un un_neg pe_int) (pv 5) pe_int)))))) (fun _ _ _ _ _ => (pv 5))) (pe_lst pa_nil) (nomark _)) (pss_one (ps_ret pe_bl)) pss_nil)
      (pss_cons (ps_if (pt_cmpR (op_neD hr.units) (pe_lc (own := [("_law_cell", 5)]) (g := gName 5) (tt := _) (te := (tVar 5)) (by rfl) scLawLay.nd (pi_tup (pv 3)) (blkOk_by (own := [("_law_cell", 5)]) (N := ["_law_thing", "_law_big_here", "_law_sort_here", "_law_cells_here", "_law_marks_here", "_law_cell", "_law_mark"]) (sc := defScope sLawLay) (by decide +kernel)) (fun _ _ _ _ _ => (pg_name (i := 5) scLawLay.nd rfl (Or.inl rfl))) (fun _ _ _ _ _ => pts_one (PW.pt (pw_and (pt_cmpR op_ge (pv 5) pe_int (nomark _)) (pw_and1 (pt_cmpR op_gt (pe_mT PySem.F.slot_tuple_count PySem.F.type_tuple_count (mt_tcount hu1) (pv 3) (pa_cons (pv 5) pa_nil)) pe_int (nomark _)))))) (fun _ _ _ _ _ => (pv 5))) (pe_lst pa_nil) (nomark _)) (pss_one (ps_ret pe_bl)) pss_nil)
      (pss_cons (ps_if (pt_cmpR (op_neD hr.units) (pe_lc (own := [("_law_mark", 6)]) (g := gName 6) (tt := _) (te := (tVar 6)) (by rfl) scLawLay.nd (pi_tup (pv 4)) (blkOk_by (own := [("_law_mark", 6)]) (N := ["_law_thing", "_law_big_here", "_law_sort_here", "_law_cells_here", "_law_marks_here", "_law_cell", "_law_mark"]) (sc := defScope sLawLay) (by decide +kernel)) (fun _ _ _ _ _ => (pg_name (i := 6) scLawLay.nd rfl (Or.inl rfl))) (fun _ _ _ _ _ => pts_one (pt_not (pt_val (pe_own c_whole hr (by decide) (by rfl) (pa_cons (pv 6) pa_nil))))) (fun _ _ _ _ _ => (pv 6))) (pe_lst pa_nil) (nomark _)) (pss_one (ps_ret pe_bl)) pss_nil)
      (pss_one (ps_ret (pe_and (pe_cmpR op_eq (pe_callB call_len_seq (by rfl) B.len PySem.boot_len (pa_cons (pv 4) pa_nil)) (pe_ix ix_list (pe_lst (pa_cons pe_int (pa_cons (pe_op op_sub (pv 1) pe_int) pa_nil))) (pe_callTy call_int1 (by rfl) B.int (by decide +kernel) (pa_cons (pe_cmpR op_eq (pv 2) pe_str (nomark _)) pa_nil)) (fun _ _ => rfl)) (nomark _)) (pe_one (pe_cmpR (op_eqD hr.units) (pe_lc (own := [("_law_mark", 6)]) (g := gName 6) (tt := (tTest (tOp (rIn K true) (tVar 6) (tTupF (tCons (tC (.int 0)) (tCons (tC (.int 1)) tNil)))))) (te := (tVar 6)) (by rfl) scLawLay.nd (pi_tup (pv 4)) (blkOk_by (own := [("_law_mark", 6)]) (N := ["_law_thing", "_law_big_here", "_law_sort_here", "_law_cells_here", "_law_marks_here", "_law_cell", "_law_mark"]) (sc := defScope sLawLay) (by decide +kernel)) (fun _ _ _ _ _ => (pg_name (i := 6) scLawLay.nd rfl (Or.inl rfl))) (fun _ _ _ _ _ => pts_one (pt_cmpR op_notIn_seq (pv 6) (pe_tupF (pa_cons pe_int (pa_cons pe_int pa_nil))) (by rfl))) (fun _ _ _ _ _ => (pv 6))) (pe_lst pa_nil) (nomark _))))))))))))), ?_⟩
    have fin : ∀ H', Same H H' → layG g gs gw = false → Q (.bl false) H' := fun H' sm z => by
      have y := q H' sm
      rw [z] at y
      exact y
    refine ⟨_, rfl, v3, .ty "str", _, _, _, rfl, .ty "str", hw.ty, kit_str gw, _, rfl, iteB (fun e => ?_) (fun e => ?_)⟩
    · exact fin H (Same.refl H) (layG_str (bFalse e))
    obtain ⟨st, rfl, rfl⟩ := tg_isStr hw (bTrue e)
    refine ⟨_, rfl, (by show 3 ≤ sizeLine; decide), fun t1 H1 s1 n1 p1 => ?_⟩
    refine ⟨t1, wayVs, rfl, .inr p1.sq, rfl, rfl, _, rfl, iteB (fun e1 => ?_) (fun e1 => ?_)⟩
    · have e1' : (!inV (V.str st) wayVs) = true := e1
      exact fin H1 s1 (layG_way (bFalse e1'))
    have hway : wayG (.str st) = true := bTrue (show (!inV (V.str st) wayVs) = false from e1)
    refine ⟨_, rfl, p, v2, gs, rfl, hs.keep (Keeps.same s1), _, rfl, iteB (fun e2 => ?_) (fun e2 => ?_)⟩
    · exact fin H1 s1 (layG_whole (bFalse e2))
    obtain ⟨n, rfl, rfl⟩ := whole_int hs (bTrue e2)
    refine ⟨_, rfl, _, _, rfl, rfl, _, rfl, iteB (fun e3 => ?_) (fun e3 => ?_)⟩
    rotate_left
    · exact ⟨_, rfl, iteT (fin H1 s1 (layG_size (by rw [sizeG_eq, e3, Bool.false_and, Bool.false_and])))⟩
    refine ⟨_, _, rfl, rfl, _, rfl, iteB (fun e4 => ?_) (fun e4 => ?_)⟩
    · exact fin H1 s1 (layG_size (by rw [sizeG_eq, show decide (n ≤ 8) = false from bFalse e4, Bool.and_false, Bool.false_and]))
    have hn : 1 ≤ n ∧ n ≤ 8 := ⟨of_decide_eq_true e3, of_decide_eq_true (bTrue e4)⟩
    -- the tree's sizes
    refine ⟨_, rfl, rfl, _, rfl, iteB (fun e5 => ?_) (fun e5 => ?_)⟩
    rotate_left
    have hz : sizeG (.int n) st = true := by
      rw [dec_str] at e5
      rw [sizeG_eq, e3, show decide (n ≤ 8) = true from decide_eq_true hn.2, e5]
      rfl
    obtain ⟨Hc, eHc, sc⟩ : ∃ Hc, Hc = H1 ∧ Same H Hc := ⟨H1, rfl, s1⟩
    rw [← eHc]
    rotate_left
    refine ⟨_, rfl, (by show 4 ≤ sizeLine; decide), fun t2 Hc s2 n2 p2 => ?_⟩
    refine ⟨t2, sizeVs, rfl, .inr p2.sq, rfl, rfl, _, rfl, iteB (fun e6 => ?_) (fun e6 => ?_)⟩
    · rw [dec_str] at e5
      have e6' : (!inV (V.int n) sizeVs) = true := e6
      exact fin Hc (s1.trans s2) (layG_size (by rw [sizeG_eq, e5, bFalse e6']; simp))
    have hz : sizeG (.int n) st = true := by
      have e6' : (!inV (V.int n) sizeVs) = false := e6
      rw [sizeG_eq, e3, show decide (n ≤ 8) = true from decide_eq_true hn.2, bTrue e6', Bool.or_true]
      rfl
    have sc : Same H Hc := s1.trans s2
    all_goals
      have hvc := hv.keep (Keeps.same (p := p) sc)
      refine ⟨_, rfl, v, .ty "tuple", _, _, _, rfl, .ty "tuple", hvc.ty, kit_tuple g, _, rfl, iteB (fun e7 => ?_) (fun e7 => ?_)⟩
      · refine fin Hc sc ?_
        have e' := bFalse e7
        cases g <;> first | rfl | cases e'
      obtain ⟨a, ws, ds, rfl, rfl, tw, tl⟩ := tg_tup hvc (bTrue e7)
      have hwl : ws.length = ds.length := tl.len
      refine ⟨_, rfl, a, _, rfl, .inr tw.sq, rfl, _, rfl, iteB (fun e8 => ?_) (fun e8 => ?_)⟩
      · have y := bFalse e8
        rw [dec_int', hwl] at y
        have y2 := of_decide_eq_false y
        exact fin Hc sc (layG_two (by omega))
      have y := bTrue e8
      rw [dec_int', hwl] at y
      have y2 := of_decide_eq_true y
      obtain ⟨d1, d2, rfl⟩ : ∃ d1 d2, ds = [d1, d2] := by
        match ds, y2 with
        | [], y2 => exact absurd y2 (show ¬ ((0 : Nat) : Int) = 2 by decide)
        | [_], y2 => exact absurd y2 (show ¬ ((1 : Nat) : Int) = 2 by decide)
        | [d1, d2], _ => exact ⟨d1, d2, rfl⟩
        | _ :: _ :: _ :: _, y2 =>
          rw [List.length_cons, List.length_cons, List.length_cons] at y2
          omega
      obtain ⟨w1, w2, rfl, h1, h2⟩ : ∃ w1 w2, ws = [w1, w2] ∧ Tg p Hc w1 d1 ∧ Tg p Hc w2 d2 := by
        cases tl with
        | cons h1 t1 =>
          cases t1 with
          | cons h2 t2 =>
            cases t2
            exact ⟨_, _, rfl, h1, h2⟩
      have hla : layG (.tup [d1, d2]) (.int n) (.str st) = (areSlotsG d1 n && areBitsG d2 n st) := by
        show (wayG (.str st) && (sizeG (.int n) st && (areSlotsG d1 n && areBitsG d2 n st))) = (areSlotsG d1 n && areBitsG d2 n st)
        rw [hway, hz]
        rfl
      rw [hla] at fin q
      have ok1 : OkM d1 := hok d1 List.mem_cons_self
      have ok2 : OkM d2 := hok d2 (List.mem_cons_of_mem _ List.mem_cons_self)
      refine ⟨_, rfl, a, _, rfl, tw.sq, rfl, _, _, rfl, _, _, rfl, rfl, ?_⟩
      refine ⟨_, rfl, w1, .ty "tuple", _, _, _, rfl, .ty "tuple", h1.ty, kit_tuple d1, _, rfl, iteB (fun e9 => ?_) (fun e9 => ?_)⟩
      · refine fin Hc sc ?_
        have e' := bFalse e9
        cases d1 <;> first | rfl | cases e'
      obtain ⟨a1, us1, es1, rfl, rfl, tw1, tl1⟩ := tg_tup h1 (bTrue e9)
      refine ⟨_, rfl, w2, .ty "tuple", _, _, _, rfl, .ty "tuple", h2.ty, kit_tuple d2, _, rfl, iteB (fun e10 => ?_) (fun e10 => ?_)⟩
      · refine fin Hc sc ?_
        have e' := bFalse e10
        have z : areBitsG d2 n st = false := by
          cases d2 <;> first | rfl | cases e'
        rw [z, Bool.and_false]
      obtain ⟨a2, us2, es2, rfl, rfl, tw2, tl2⟩ := tg_tup h2 (bTrue e10)
      have hl1 : us1.length = es1.length := tl1.len
      have hl2 : us2.length = es2.length := tl2.len
      refine ⟨_, rfl, a1, _, rfl, .inr tw1.sq, _, rfl, rfl, _, rfl, iteB (fun e11 => ?_) (fun e11 => ?_)⟩
      · refine fin Hc sc ?_
        have y := bFalse e11
        rw [dec_int', hl1] at y
        show ((decide ((es1.length : Int) = n) && _) && _) = false
        rw [y, Bool.false_and, Bool.false_and]
      have hlen1 : decide ((es1.length : Int) = n) = true := by
        have y := bTrue e11
        rw [dec_int', hl1] at y
        exact y
      have hsl : areSlotsG (.tup es1) n = (es1.all slotG && decide ((dd (roomsOf es1)).length = (roomsOf es1).length)) := by
        show (decide ((es1.length : Int) = n) && (es1.all slotG && decide ((dd (roomsOf es1)).length = (roomsOf es1).length))) = _
        rw [hlen1, Bool.true_and]
      rw [hsl] at fin q
      -- slots that are none
      refine ⟨_, rfl, a1, rfl, ⟨_, tw1.sq⟩, fun D nD => ?_⟩
      refine lc_tup (K := K) (a := a1) (xs := us1) (fun i H3 => Same Hc H3 ∧ ∃ vs' hs', H3 D = some (.lst vs') ∧ TgL p Hc vs' hs' ∧ hs' = (es1.take i).filter (fun g => !slotG g)) ?_ ?_ ?_ ?_
      · exact ⟨same_upd nD, [], [], upd_same, .nil, rfl⟩
      · rintro i H3 _ ⟨s3, _⟩
        exact ((Keeps.same (p := p) s3).tw _ _ tw1).sq
      · rintro i x H3 hx ⟨s3, vs', hs', hD, tl3, eh⟩
        obtain ⟨g0, eg, hg0⟩ := tl1.get hx
        have hil : i < es1.length := (List.getElem?_eq_some_iff.mp eg).1
        have et : es1.take (i + 1) = es1.take i ++ [g0] := by
          rw [List.take_add_one, eg]
          rfl
        have hlv : vs'.length < sizeLine := by
          rw [tl3.len, eh]
          have z := List.length_filter_le (fun g => !slotG g) (es1.take i)
          rw [List.length_take] at z
          exact small1000 (by have := ok1.1; omega)
        have yes : slotG g0 = false → ∃ acc, H3 D = some (.lst acc) ∧ acc.length < sizeLine ∧ Same Hc (upd H3 D (.lst (acc ++ [x]))) ∧ ∃ vs' hs', (upd H3 D (.lst (acc ++ [x]))) D = some (.lst vs') ∧ TgL p Hc vs' hs' ∧ hs' = (es1.take (i + 1)).filter (fun g => !slotG g) := fun z => by
          refine ⟨vs', hD, hlv, fun c o ec => ?_, vs' ++ [x], hs' ++ [g0], upd_same, tl3.app (.cons hg0 .nil), ?_⟩
          · rw [upd_ne (ne_of_none ec nD)]
            exact s3 _ _ ec
          · rw [et, List.filter_append, eh, List.filter_cons_of_pos (by rw [z]; rfl), List.filter_nil]
        have no : slotG g0 = true → Same Hc H3 ∧ ∃ vs' hs', H3 D = some (.lst vs') ∧ TgL p Hc vs' hs' ∧ hs' = (es1.take (i + 1)).filter (fun g => !slotG g) := fun z => by
          refine ⟨s3, vs', hs', hD, tl3, ?_⟩
          rw [et, List.filter_append, ← eh, List.filter_cons_of_neg (by rw [z]; decide), List.filter_nil, List.append_nil]
        refine ⟨rfl, _, rfl, p, x, g0, rfl, hg0.keep (Keeps.same s3), _, rfl, iteB (fun ea => ?_) (fun ea => ?_)⟩
        · refine iteT ⟨_, rfl, yes ?_⟩
          have e' := bFalse ea
          cases g0 <;> first | rfl | cases e'
        obtain ⟨j, rfl, rfl⟩ := whole_int hg0 (bTrue ea)
        refine ⟨1, rfl, _, rfl, _, _, rfl, rfl, _, rfl, iteB (fun eb => ?_) (fun eb => ?_)⟩
        · refine ⟨_, _, rfl, rfl, _, rfl, iteB (fun ec => ?_) (fun ec => ?_)⟩
          · exact ⟨_, rfl, yes (by rw [slot_rng, show decide (-1 ≤ j) = true from eb, show decide (j ≤ 99) = false from bFalse ec]; rfl)⟩
          · exact no (by rw [slot_rng, show decide (-1 ≤ j) = true from eb, show decide (j ≤ 99) = true from bTrue ec]; rfl)
        · exact ⟨_, rfl, iteT ⟨_, rfl, yes (by rw [slot_rng, show decide (-1 ≤ j) = false from eb]; rfl)⟩⟩
      · rintro H3 ⟨s3, vs', hs', hD, tl3, eh⟩
        rw [hl1, List.take_length] at eh
        refine ⟨Nat.zero_le _, fun c nc => ?_⟩
        have ecD : D ≠ c := ne_of_none hD nc
        have s4 : Same Hc (upd H3 c (.lst [])) := s3.trans (same_upd nc)
        have okl := OkE.list (gs := hs') (fun g hg => ok1.2 g ((List.mem_filter.mp (eh ▸ hg)).1))
        refine ⟨_, _, .lst (SqL.of (by rw [upd_ne ecD]; exact hD)) (TgL.dp (tl3.keep (Keeps.same (p := p) s4)) okl.1), .lst (SqL.of upd_same) .nil, okl.2, shaped_nil, _, rfl, ?_⟩
        rw [eqv_nilD, toDs_empty, eh, filt_empty]
        refine iteB (fun ed => ?_) (fun ed => ?_)
        · refine fin _ (sc.trans s4) ?_
          rw [bFalse ed, Bool.false_and, Bool.false_and]
        have hall : es1.all slotG = true := bTrue ed
        rw [hall, Bool.true_and] at fin q
        have hwh : ∀ e ∈ es1, wholeG e = true := fun e he => by
          have z := List.all_eq_true.mp hall e he
          cases e <;> first | rfl | cases z
        obtain ⟨ns, rfl, rfl⟩ := ints_all tl1 hwh
        have hrg : ∀ i ∈ ns, -1 ≤ i ∧ i < 100 := fun i hi => by
          have z := List.all_eq_true.mp hall (.int i) (List.mem_map.mpr ⟨i, hi, rfl⟩)
          rw [slot_rng, Bool.and_eq_true, decide_eq_true_eq, decide_eq_true_eq] at z
          omega
        generalize upd H3 c (.lst []) = Hd at s4
        have tw1d := (Keeps.same (p := p) s4).tw _ _ tw1
        have hns : ns.length ≤ 100 := by
          have z := ok1.1
          rw [List.length_map] at z
          exact z
        -- rooms twice
        refine ⟨_, rfl, a1, rfl, ⟨_, tw1d.sq⟩, fun D2 nD2 => ?_⟩
        refine lc_tup (K := K) (a := a1) (xs := ns.map V.int) (fun i H5 => Same Hd H5 ∧ H5 D2 = some (.lst (((ns.take i).filter fun i => decide (0 ≤ i) && decide (1 < ns.count i)).map V.int))) ?_ ?_ ?_ ?_
        · exact ⟨same_upd nD2, upd_same⟩
        · rintro i H5 _ ⟨s5, _⟩
          exact ((Keeps.same (p := p) s5).tw _ _ tw1d).sq
        · rintro i x H5 hx ⟨s5, hD5⟩
          rw [List.getElem?_map] at hx
          obtain ⟨j, ej, rfl⟩ := Option.map_eq_some_iff.mp hx
          have hjm : j ∈ ns := List.mem_of_getElem? ej
          have et : ns.take (i + 1) = ns.take i ++ [j] := by
            rw [List.take_add_one, ej]
            rfl
          have no : (decide (0 ≤ j) && decide (1 < ns.count j)) = false → Same Hd H5 ∧ H5 D2 = some (.lst (((ns.take (i + 1)).filter fun i => decide (0 ≤ i) && decide (1 < ns.count i)).map V.int)) := fun z => by
            refine ⟨s5, ?_⟩
            rw [et, List.filter_append, List.filter_cons_of_neg (by rw [z]; decide), List.filter_nil, List.append_nil]
            exact hD5
          refine ⟨rfl, _, rfl, _, _, rfl, rfl, _, rfl, iteB (fun ea => ?_) (fun ea => ?_)⟩
          · have ptd : PTup H5 a1 (ns.map V.int) := by
              rcases (Keeps.same (p := p) s5).tw _ _ tw1d with z | ⟨_, z⟩
              · exact z
              · have y := V.int.inj (z (V.int j) (List.mem_map.mpr ⟨j, hjm, rfl⟩))
                have y2 : 0 ≤ j := of_decide_eq_true ea
                omega
            refine ⟨_, rfl, ⟨a1, _, rfl, ptd⟩, _, rfl, a1, ns, j, rfl, rfl, ptd, _, _, rfl, rfl, _, rfl, ?_⟩
            have e1 : decide ((1 : Int) < ((ns.count j : Nat) : Int)) = decide (1 < ns.count j) := by
              by_cases z : 1 < ns.count j
              · rw [decide_eq_true z, decide_eq_true (by omega)]
              · rw [decide_eq_false z, decide_eq_false (by omega)]
            rw [e1]
            refine iteB (fun eb => ?_) (fun eb => ?_)
            · refine ⟨_, rfl, _, hD5, ?_, ?_, ?_⟩
              · rw [List.length_map]
                have z := List.length_filter_le (fun i => decide (0 ≤ i) && decide (1 < ns.count i)) (ns.take i)
                rw [List.length_take] at z
                exact small1000 (by omega)
              · intro c o ec
                rw [upd_ne (ne_of_none ec nD2)]
                exact s5 _ _ ec
              · rw [upd_same, et, List.filter_append, List.filter_cons_of_pos (by rw [show decide (0 ≤ j) = true from ea, eb]; rfl), List.filter_nil, List.map_append]
                rfl
            · exact no (by rw [eb, Bool.and_false])
          · exact iteF (no (by rw [show decide (0 ≤ j) = false from ea, Bool.false_and]))
        · rintro H5 ⟨s5, hD5⟩
          rw [List.length_map, List.take_length] at hD5
          refine ⟨Nat.zero_le _, fun c nc => ?_⟩
          have ecD : D2 ≠ c := ne_of_none hD5 nc
          have s6 : Same Hc (upd H5 c (.lst [])) := (s4.trans s5).trans (same_upd nc)
          have f1 : Fine (.list ((ns.filter fun i => decide (0 ≤ i) && decide (1 < ns.count i)).map PyData.int)) 1 _ := Fine.list (fine_ints fun x hx => hrg x (List.mem_filter.mp hx).1)
          refine ⟨_, _, .lst (SqL.of (by rw [upd_ne ecD]; exact hD5)) (dp_ints _), .lst (SqL.of upd_same) .nil, f1.shaped (by decide), shaped_nil, _, rfl, ?_⟩
          rw [eqv_nilD, map_empty, dup_iff ns fun i hi => (hrg i hi).1]
          refine iteB (fun ee => ?_) (fun ee => ?_)
          · refine fin _ (sc.trans s6) ?_
            rw [bFalse ee, Bool.false_and]
          rw [bTrue ee, Bool.true_and] at fin q
          have q : ∀ H', Same H H' → Q (.bl (decide ((es2.length : Int) = bitsN n st) && es2.all bitG)) H' := q
          have fin : ∀ H', Same H H' → (decide ((es2.length : Int) = bitsN n st) && es2.all bitG) = false → Q (.bl false) H' := fin
          generalize upd H5 c (.lst []) = He at s6
          have tw2e := (Keeps.same (p := p) s6).tw _ _ tw2
          -- marks that are no numbers
          refine ⟨_, rfl, a2, rfl, ⟨_, tw2e.sq⟩, fun D3 nD3 => ?_⟩
          refine lc_tup (K := K) (a := a2) (xs := us2) (fun i H7 => Same He H7 ∧ ∃ vs' hs', H7 D3 = some (.lst vs') ∧ TgL p Hc vs' hs' ∧ hs' = (es2.take i).filter (fun g => !wholeG g)) ?_ ?_ ?_ ?_
          · exact ⟨same_upd nD3, [], [], upd_same, .nil, rfl⟩
          · rintro i H7 _ ⟨s7, _⟩
            exact ((Keeps.same (p := p) s7).tw _ _ tw2e).sq
          · rintro i x H7 hx ⟨s7, vs', hs', hD, tl3, eh⟩
            obtain ⟨g0, eg, hg0⟩ := tl2.get hx
            have et : es2.take (i + 1) = es2.take i ++ [g0] := by
              rw [List.take_add_one, eg]
              rfl
            refine ⟨rfl, _, rfl, p, x, g0, rfl, hg0.keep (Keeps.same (s6.trans s7)), _, rfl, iteB (fun ea => ?_) (fun ea => ?_)⟩
            · refine ⟨_, rfl, vs', hD, ?_, ?_, vs' ++ [x], hs' ++ [g0], upd_same, tl3.app (.cons hg0 .nil), ?_⟩
              · rw [tl3.len, eh]
                have z := List.length_filter_le (fun g => !wholeG g) (es2.take i)
                rw [List.length_take] at z
                exact small1000 (by have := ok2.1; omega)
              · intro c o ec
                rw [upd_ne (ne_of_none ec nD3)]
                exact s7 _ _ ec
              · rw [et, List.filter_append, eh, List.filter_cons_of_pos (p := fun g => !wholeG g) ea, List.filter_nil]
            · refine ⟨s7, vs', hs', hD, tl3, ?_⟩
              rw [et, List.filter_append, ← eh, List.filter_cons_of_neg (by rw [ea]; decide), List.filter_nil, List.append_nil]
          · rintro H7 ⟨s7, vs', hs', hD, tl3, eh⟩
            rw [hl2, List.take_length] at eh
            refine ⟨Nat.zero_le _, fun c nc => ?_⟩
            have ecD : D3 ≠ c := ne_of_none hD nc
            have s8 : Same Hc (upd H7 c (.lst [])) := (s6.trans s7).trans (same_upd nc)
            have okl := OkE.list (gs := hs') (fun g hg => ok2.2 g (List.mem_filter.mp (eh ▸ hg)).1)
            refine ⟨_, _, .lst (SqL.of (by rw [upd_ne ecD]; exact hD)) (TgL.dp (tl3.keep (Keeps.same (p := p) s8)) okl.1), .lst (SqL.of upd_same) .nil, okl.2, shaped_nil, _, rfl, ?_⟩
            rw [eqv_nilD, toDs_empty, eh, filt_empty]
            refine iteB (fun ef => ?_) (fun ef => ?_)
            · refine fin _ (sc.trans s8) ?_
              have z : es2.all bitG = false := by
                have z1 := bFalse ef
                rw [List.all_eq_false] at z1 ⊢
                obtain ⟨x, hx, hx2⟩ := z1
                refine ⟨x, hx, fun z2 => hx2 ?_⟩
                cases x <;> first | rfl | cases z2
              rw [z, Bool.and_false]
            obtain ⟨ms, rfl, rfl⟩ := ints_all tl2 fun e he => List.all_eq_true.mp (bTrue ef) e he
            rw [List.length_map] at q
            generalize upd H7 c (.lst []) = Hf at s8
            have tw2f := (Keeps.same (p := p) s8).tw _ _ tw2
            have hms : ms.length ≤ 100 := by
              have z := ok2.1
              rw [List.length_map] at z
              exact z
            have hat : atI [V.int 0, V.int (n - 1)] (if decide (V.str st = V.str "tree") = true then (1 : Int) else 0) = some (V.int (bitsN n st)) := by
              unfold bitsN
              by_cases z : st = "tree"
              · rw [if_pos (decide_eq_true (congrArg V.str z)), if_pos z]
                rfl
              · rw [if_neg (fun y => z (V.str.inj (of_decide_eq_true y))), if_neg z]
                rfl
            refine ⟨_, rfl, a2, _, rfl, .inr tw2f.sq, _, rfl, _, _, rfl, rfl, (by show 2 ≤ sizeLine; decide), fun l nl => ?_⟩
            have sg : Same Hc (upd Hf l (.lst [V.int 0, V.int (n - 1)])) := s8.trans (same_upd nl)
            refine ⟨_, rfl, rfl, .inr ⟨_, rfl, l, _, _, _, rfl, rfl, SqL.of upd_same, hat, rfl, _, rfl, ?_⟩⟩
            rw [dec_int', List.length_map]
            refine iteB (fun eg => ?_) (fun eg => ?_)
            rotate_left
            · have z := q _ (sc.trans sg)
              rw [eg, Bool.false_and] at z
              exact z
            rw [eg, Bool.true_and] at q
            generalize upd Hf l (.lst [V.int 0, V.int (n - 1)]) = Hg at sg
            have tw2g := (Keeps.same (p := p) sg).tw _ _ tw2
            refine ⟨_, rfl, a2, rfl, ⟨_, tw2g.sq⟩, fun D4 nD4 => ?_⟩
            refine lc_tup (K := K) (a := a2) (xs := ms.map V.int) (fun i H9 => Same Hg H9 ∧ H9 D4 = some (.lst (((ms.take i).filter fun i => !inV (V.int i) [V.int 0, V.int 1]).map V.int))) ?_ ?_ ?_ ?_
            · exact ⟨same_upd nD4, upd_same⟩
            · rintro i H9 _ ⟨s9, _⟩
              exact ((Keeps.same (p := p) s9).tw _ _ tw2g).sq
            · rintro i x H9 hx ⟨s9, hD9⟩
              rw [List.getElem?_map] at hx
              obtain ⟨j, ej, rfl⟩ := Option.map_eq_some_iff.mp hx
              have et : ms.take (i + 1) = ms.take i ++ [j] := by
                rw [List.take_add_one, ej]
                rfl
              refine ⟨rfl, _, rfl, (by show 2 ≤ sizeLine; decide), fun t HA sA nt pt => ?_⟩
              have hDA := sA _ _ hD9
              refine ⟨t, [V.int 0, V.int 1], rfl, .inr pt.sq, rfl, rfl, _, rfl, iteB (fun eh => ?_) (fun eh => ?_)⟩
              · have eh' : (!inV (V.int j) [V.int 0, V.int 1]) = true := eh
                refine ⟨_, rfl, _, hDA, ?_, ?_, ?_⟩
                · rw [List.length_map]
                  have z := List.length_filter_le (fun i => !inV (V.int i) [V.int 0, V.int 1]) (ms.take i)
                  rw [List.length_take] at z
                  exact small1000 (by omega)
                · intro c o ec
                  rw [upd_ne (ne_of_none ec nD4)]
                  exact sA _ _ (s9 _ _ ec)
                · rw [upd_same, et, List.filter_append, List.filter_cons_of_pos (p := fun i => !inV (V.int i) [V.int 0, V.int 1]) eh', List.filter_nil, List.map_append]
                  rfl
              · have eh' : (!inV (V.int j) [V.int 0, V.int 1]) = false := eh
                refine ⟨s9.trans sA, ?_⟩
                rw [et, List.filter_append, List.filter_cons_of_neg (by rw [eh']; decide), List.filter_nil, List.append_nil]
                exact hDA
            · rintro H9 ⟨s9, hD9⟩
              rw [List.length_map, List.take_length] at hD9
              refine ⟨Nat.zero_le _, fun c nc => ?_⟩
              have ecD : D4 ≠ c := ne_of_none hD9 nc
              have sz : Same Hc (upd H9 c (.lst [])) := (sg.trans s9).trans (same_upd nc)
              have okl := OkE.list (gs := (ms.filter fun i => !inV (V.int i) [V.int 0, V.int 1]).map G.int) (fun g hg => by
                obtain ⟨i, hi, rfl⟩ := List.mem_map.mp hg
                exact ok2.2 _ (List.mem_map.mpr ⟨i, (List.mem_filter.mp hi).1, rfl⟩))
              have e9 : toDs ((ms.filter fun i => !inV (V.int i) [V.int 0, V.int 1]).map G.int) = (ms.filter fun i => !inV (V.int i) [V.int 0, V.int 1]).map PyData.int := by
                rw [toDs_map, List.map_map]
                rfl
              rw [e9] at okl
              refine ⟨_, _, .lst (SqL.of (by rw [upd_ne ecD]; exact hD9)) (dp_ints _), .lst (SqL.of upd_same) .nil, okl.2, shaped_nil, ?_⟩
              rw [eqv_nilD, map_empty, bits_in]
              exact q _ (sc.trans sz)
end
end Su
namespace Su
open PySem PySem.Spec PyProof.Rows L2
/-- a thing in a tuple; a slots' or bits' place; a whole thing -/
def ElemL (p : Addr) (H : Hp) (vs : List V) : Prop := ∃ es, TgL p H vs es ∧ ∀ e ∈ es, OkE e
structure OkD5 (d : G) : Prop where
  m : OkM d
  ok : okD d = true
  fi : Fine (toD d) 5 81000
def Mid (p : Addr) (H : Hp) (v : V) : Prop := ∃ d, Tg p H v d ∧ OkD5 d
structure OkT (g : G) : Prop where
  l : OkL g
  ok : okD g = true
  fi : Fine (toD g) 6 250000
def Good (p : Addr) (H : Hp) (v : V) : Prop := ∃ g, Tg p H v g ∧ OkT g
theorem OkT.few {g : G} (h : OkT g) : few2 g := by
  have z := h.l
  cases g with
  | tup ds =>
    intro d hd
    have y := z d hd
    cases d with
    | tup es => exact y.1
    | _ => trivial
  | _ => trivial
theorem ElemL.keep {p : Addr} {H H' : Hp} {vs : List V} (h : ElemL p H vs) (k : Keeps p H H') : ElemL p H' vs := by
  obtain ⟨es, t, o⟩ := h
  exact ⟨es, t.keep k, o⟩
theorem Mid.keep {p : Addr} {H H' : Hp} {v : V} (h : Mid p H v) (k : Keeps p H H') : Mid p H' v := by
  obtain ⟨d, t, o⟩ := h
  exact ⟨d, t.keep k, o⟩
theorem Good.keep {p : Addr} {H H' : Hp} {v : V} (h : Good p H v) (k : Keeps p H H') : Good p H' v := by
  obtain ⟨d, t, o⟩ := h
  exact ⟨d, t.keep k, o⟩
theorem ElemL.nil {p : Addr} {H : Hp} : ElemL p H [] := ⟨[], .nil, fun _ h => (List.not_mem_nil h).elim⟩
theorem ElemL.app {p : Addr} {H : Hp} {vs ws : List V} (a : ElemL p H vs) (b : ElemL p H ws) : ElemL p H (vs ++ ws) := by
  obtain ⟨es, t, o⟩ := a
  obtain ⟨fs, u, r⟩ := b
  exact ⟨es ++ fs, t.app u, fun e he => (List.mem_append.mp he).elim (o e) (r e)⟩
theorem ElemL.cons {p : Addr} {H : Hp} {v : V} {g : G} {vs : List V} (h : Tg p H v g) (o : OkE g) (b : ElemL p H vs) : ElemL p H (v :: vs) := by
  obtain ⟨fs, u, r⟩ := b
  exact ⟨g :: fs, .cons h u, fun e he => (List.mem_cons.mp he).elim (fun z => z ▸ o) (r e)⟩
theorem ElemL.mem {p : Addr} {H : Hp} {vs : List V} (h : ElemL p H vs) {v : V} (hv : v ∈ vs) : ElemL p H [v] := by
  obtain ⟨es, t, o⟩ := h
  obtain ⟨i, hi⟩ := List.mem_iff_getElem?.mp hv
  obtain ⟨g, eg, hg⟩ := t.get hi
  exact ElemL.cons hg (o g (List.mem_of_getElem? eg)) .nil
theorem OkE.int {i : Int} (h1 : -1000000 ≤ i) (h2 : i ≤ 1000000) : OkE (.int i) := ⟨rfl, (Fine.int h1 h2).up (by decide) (by decide)⟩
theorem OkE.bl (b : Bool) : OkE (.bl b) := ⟨rfl, (Fine.bool b).up (by decide) (by decide)⟩
theorem OkE.non : OkE .non := ⟨rfl, Fine.none.up (by decide) (by decide)⟩
theorem fine_seven : Fine (.str "7") 0 10 := ⟨by simp [PyData.showable], by simp [PyData.hasDict], by simp [PyData.depth], by simp only [PyData.leavesShort]; decide +kernel, by simp only [PyData.weight]; decide +kernel, by simp only [PyData.canLay0]; decide +kernel⟩
theorem OkE.seven : OkE (.str "7") := ⟨rfl, fine_seven.up (by decide) (by decide)⟩
theorem OkE.three : OkE (.lst [.int 3]) := ⟨rfl, (Fine.list (FineL.cons (Fine.int (i := 3) (by decide) (by decide)) FineL.nil)).up (by decide) (by decide)⟩
theorem ElemL.ints {p : Addr} {H : Hp} (ns : List Int) (h : ∀ i ∈ ns, -1000000 ≤ i ∧ i ≤ 1000000) : ElemL p H (ns.map V.int) :=
  ⟨ns.map G.int, TgL.ints ns, fun e he => by
    obtain ⟨i, hi, rfl⟩ := List.mem_map.mp he
    exact OkE.int (h i hi).1 (h i hi).2⟩
theorem ds5 {es : List G} (o : ∀ e ∈ es, OkE e) (hl : es.length ≤ 20) : okDs es = true ∧ FineL (toDs es) 4 80020 := by
  refine ⟨?_, ?_⟩
  · rw [okDs_all, List.all_eq_true]
    exact fun g hg => (o g hg).ok
  · have z := FineL.of_all (n := 4) (m := 4000) (es.map toD) fun d hd => by
      obtain ⟨g, hg, rfl⟩ := List.mem_map.mp hd
      exact (o g hg).fi
    rw [toDs_map]
    rw [List.length_map] at z
    exact ⟨z.sh, z.nd, z.dp, z.lv, Nat.le_trans z.wt (by omega), z.cl⟩
theorem Mid.tup {p a : Addr} {H : Hp} {vs : List V} (h : TupW H a vs) (e : ElemL p H vs) (hl : vs.length ≤ 20) : Mid p H (.ref a) := by
  obtain ⟨es, t, o⟩ := e
  have hl' : es.length ≤ 20 := by
    rw [← t.len]
    exact hl
  obtain ⟨d1, d2⟩ := ds5 o hl'
  exact ⟨.tup es, .tup h t, ⟨⟨by omega, o⟩, d1, (Fine.tuple d2).up (by decide) (by decide)⟩⟩
theorem Mid.lst {p a : Addr} {H : Hp} {vs : List V} (n : a ≠ p) (h : H a = some (.lst vs)) (e : ElemL p H vs) (hl : vs.length ≤ 20) : Mid p H (.ref a) := by
  obtain ⟨es, t, o⟩ := e
  have hl' : es.length ≤ 20 := by
    rw [← t.len]
    exact hl
  obtain ⟨d1, d2⟩ := ds5 o hl'
  exact ⟨.lst es, .lst n h t, ⟨trivial, d1, (Fine.list d2).up (by decide) (by decide)⟩⟩
theorem Mid.non {p : Addr} {H : Hp} : Mid p H .non := ⟨.non, .non, trivial, rfl, Fine.none.up (by decide) (by decide)⟩
def MidL (p : Addr) (H : Hp) (vs : List V) : Prop := ∃ ds, TgL p H vs ds ∧ ∀ d ∈ ds, OkD5 d
theorem MidL.nil {p : Addr} {H : Hp} : MidL p H [] := ⟨[], .nil, fun _ h => (List.not_mem_nil h).elim⟩
theorem MidL.cons {p : Addr} {H : Hp} {v : V} {vs : List V} (h : Mid p H v) (b : MidL p H vs) : MidL p H (v :: vs) := by
  obtain ⟨g, t, o⟩ := h
  obtain ⟨fs, u, r⟩ := b
  exact ⟨g :: fs, .cons t u, fun e he => (List.mem_cons.mp he).elim (fun z => z ▸ o) (r e)⟩
theorem ds6 {ds : List G} (o : ∀ d ∈ ds, OkD5 d) (hl : ds.length ≤ 3) : okDs ds = true ∧ FineL (toDs ds) 5 243003 := by
  refine ⟨?_, ?_⟩
  · rw [okDs_all, List.all_eq_true]
    exact fun g hg => (o g hg).ok
  · have z := FineL.of_all (n := 5) (m := 81000) (ds.map toD) fun d hd => by
      obtain ⟨g, hg, rfl⟩ := List.mem_map.mp hd
      exact (o g hg).fi
    rw [toDs_map]
    rw [List.length_map] at z
    exact ⟨z.sh, z.nd, z.dp, z.lv, Nat.le_trans z.wt (by omega), z.cl⟩
theorem Good.tup {p a : Addr} {H : Hp} {vs : List V} (h : PTup H a vs) (e : MidL p H vs) (hl : vs.length ≤ 3) : Good p H (.ref a) := by
  obtain ⟨ds, t, o⟩ := e
  have hl' : ds.length ≤ 3 := by
    rw [← t.len]
    exact hl
  obtain ⟨d1, d2⟩ := ds6 o hl'
  exact ⟨.tup ds, .tup (.inl h) t, ⟨fun d hd => (o d hd).m, d1, (Fine.tuple d2).up (by decide) (by decide)⟩⟩
theorem Good.lst {p a : Addr} {H : Hp} {vs : List V} (n : a ≠ p) (h : H a = some (.lst vs)) (e : MidL p H vs) (hl : vs.length ≤ 3) : Good p H (.ref a) := by
  obtain ⟨ds, t, o⟩ := e
  have hl' : ds.length ≤ 3 := by
    rw [← t.len]
    exact hl
  obtain ⟨d1, d2⟩ := ds6 o hl'
  exact ⟨.lst ds, .lst n h t, ⟨trivial, d1, (Fine.list d2).up (by decide) (by decide)⟩⟩
theorem Good.non {p : Addr} {H : Hp} : Good p H .non := ⟨.non, .non, trivial, rfl, Fine.none.up (by decide) (by decide)⟩
def AllG (p : Addr) (H : Hp) (vs : List V) : Prop := ∀ v ∈ vs, Good p H v
theorem AllG.push {p : Addr} {H H' : Hp} {vs : List V} {v : V} (a : AllG p H vs) (s : Same H H') (g : Good p H' v) : AllG p H' (vs ++ [v]) := fun x hx =>
  (List.mem_append.mp hx).elim (fun z => (a x z).keep (Keeps.same s)) fun z => by
    rw [List.mem_singleton.mp z]
    exact g
theorem AllG.keep {p : Addr} {H H' : Hp} {vs : List V} (a : AllG p H vs) (k : Keeps p H H') : AllG p H' vs := fun x hx => (a x hx).keep k
theorem cut_len (xs : List V) (lo hi : Option Int) : (cutV xs lo hi).length ≤ xs.length := cutV_length xs lo hi
theorem cutV_sub (ns : List Int) (lo hi : Option Int) : ∃ ms : List Int, cutV (ns.map V.int) lo hi = ms.map V.int ∧ (∀ x ∈ ms, x ∈ ns) ∧ ms.length ≤ ns.length := by
  unfold cutV
  refine ⟨(ns.drop (HT.sIx (ns.map V.int).length 0 lo)).take (HT.sIx (ns.map V.int).length (ns.map V.int).length hi - HT.sIx (ns.map V.int).length 0 lo), by rw [List.map_take, List.map_drop], fun x hx => List.mem_of_mem_drop (List.mem_of_mem_take hx), ?_⟩
  rw [List.length_take, List.length_drop]
  omega
def spBent : Sp := fun vs H Q _ => ∃ (p a b : Addr) (xs bs : List Int), vs = [.ref p, .ref a, .ref b] ∧ PoolAt H p ∧ PTup H a (xs.map V.int) ∧ PTup H b (bs.map V.int) ∧ 0 < xs.length ∧ xs.length ≤ 8 ∧ bs.length ≤ 8 ∧ (∀ x ∈ xs, -1 ≤ x ∧ x < 100) ∧ (∀ x ∈ bs, x = 0 ∨ x = 1) ∧
  ∀ (v : V) (H' : Hp), Kept p H H' → PoolAt H' p → Good p H' v → Q v H'
theorem scBent : FnScope ["_law_pool_here", "_law_cells_here", "_law_marks_here", "_law_at", "_law_odd", "_law_put", "_law_bits", "_law_some"] ["_law_pool_here", "_law_cells_here", "_law_marks_here"] (defScope sBent) := ⟨rfl, rfl, rfl, by decide +kernel, rfl, by decide +kernel, by decide +kernel⟩
section
variable {P : Program} {w : World} {K : PySem.W.Frag} {mg : Str → Option Value} {base : Heap}
theorem ok_bent (T : At K mg "_law_bent" sBent ["_law_pool_here", "_law_cells_here", "_law_marks_here"]) (B : Bt mg) (c_take : Cal P w K mg base 1 "_law_take" ["_law_pool_here", "_law_many"] spTake) : Cal P w K mg base 2 "_law_bent" ["_law_pool_here", "_law_cells_here", "_law_marks_here"] spBent := by
  refine cal_of T scBent (fun vs H Q E h => ?_) (fun f cdv A outer s H vs Q E hr h => ?_)
  · obtain ⟨p, a, b, xs, bs, rfl, _⟩ := h
    rfl
  · obtain ⟨p, a, b, xs, bs, rfl, hp, hx, hb, h0, h8, hb8, hxr, hbr, q⟩ := h
    refine ⟨_, (pss_cons (ps_set (i := 3) scBent.nd rfl (Or.inl rfl) (pe_own c_take hr (by decide) (by rfl) (pa_cons (pv 0) (pa_cons (pe_callB call_len_seq (by rfl) B.len PySem.boot_len (pa_cons (pv 1) pa_nil)) pa_nil))))
      (pss_cons (ps_set (i := 4) scBent.nd rfl (Or.inl rfl) (pe_ix ix_list (pe_lst (pa_cons pe_bl (pa_cons pe_non (pa_cons pe_str (pa_cons pe_int (pa_cons (pe_un un_neg pe_int) (pa_cons (pe_ix ix_tup (pe_op op_catF (pv 1) (pv 1)) (pe_op op_add (pv 3) pe_int) (fun _ _ => rfl)) (pa_cons (pe_lst (pa_cons pe_int pa_nil)) (pa_cons (pe_cmpR op_eq pe_int pe_int (nomark _)) pa_nil))))))))) (pe_own c_take hr (by decide) (by rfl) (pa_cons (pv 0) (pa_cons pe_int pa_nil))) (fun _ _ => rfl)))
      (pss_cons (ps_set (i := 5) scBent.nd rfl (Or.inl rfl) (pe_op op_catF (pe_op op_catF (pe_slice sl_tupF (pv 1) po_none (po_some (pv 3))) (pe_tupF (pa_cons (pv 4) pa_nil))) (pe_slice sl_tupF (pv 1) (po_some (pe_op op_add (pv 3) pe_int)) po_none)))
      (pss_cons (ps_set (i := 6) scBent.nd rfl (Or.inl rfl) (pe_op op_catF (pe_slice sl_tupF (pv 2) po_none (po_some (pe_un un_neg pe_int))) (pe_tupF (pa_cons (pe_ix ix_list (pe_lst (pa_cons pe_int (pa_cons pe_bl (pa_cons pe_non (pa_cons (pe_un un_neg pe_int) pa_nil))))) (pe_own c_take hr (by decide) (by rfl) (pa_cons (pv 0) (pa_cons pe_int pa_nil))) (fun _ _ => rfl)) pa_nil))))
      (pss_cons (ps_set (i := 7) scBent.nd rfl (Or.inl rfl) (pe_lst (pa_cons (pe_tupF (pa_cons (pv 1) (pa_cons (pv 2) pa_nil))) (pa_cons (pe_tupF (pa_cons (pv 5) (pa_cons (pv 2) pa_nil))) (pa_cons (pe_tupF (pa_cons (pv 5) (pa_cons (pv 2) pa_nil))) (pa_cons (pe_tupF (pa_cons (pe_op op_catF (pv 1) (pe_tupF (pa_cons (pe_un un_neg pe_int) pa_nil))) (pa_cons (pv 2) pa_nil))) (pa_cons (pe_tupF (pa_cons (pe_slice sl_tupF (pv 1) po_none (po_some (pe_un un_neg pe_int))) (pa_cons (pv 2) pa_nil))) (pa_cons (pe_tupF (pa_cons (pv 1) (pa_cons (pv 6) pa_nil))) pa_nil))))))))
      (pss_cons (ps_set (i := 7) scBent.nd rfl (Or.inl rfl) (pe_op op_cat (pv 7) (pe_lst (pa_cons (pe_tupF (pa_cons (pe_callTy call_list_of (by rfl) B.list (by decide +kernel) (pa_cons (pv 1) pa_nil)) (pa_cons (pv 2) pa_nil))) (pa_cons (pe_tupF (pa_cons (pv 1) (pa_cons (pe_callTy call_list_of (by rfl) B.list (by decide +kernel) (pa_cons (pv 2) pa_nil)) pa_nil))) (pa_cons (pe_tupF (pa_cons (pv 1) (pa_cons (pe_op op_catF (pv 2) (pe_tupF (pa_cons pe_int pa_nil))) pa_nil))) (pa_cons (pe_tupF (pa_cons (pv 1) (pa_cons (pe_slice sl_tupF (pv 2) po_none (po_some (pe_un un_neg pe_int))) pa_nil))) pa_nil)))))))
      (pss_one (ps_ret (pe_ix ix_list (pe_op op_cat (pv 7) (pe_lst (pa_cons (pe_lst (pa_cons (pv 1) (pa_cons (pv 2) pa_nil))) (pa_cons (pe_tupF (pa_cons (pv 1) pa_nil)) (pa_cons (pe_tupF (pa_cons (pv 1) (pa_cons (pv 2) (pa_cons (pe_tupF pa_nil) pa_nil)))) (pa_cons (pe_tupF (pa_cons (pv 1) (pa_cons pe_non pa_nil))) (pa_cons pe_non pa_nil))))))) (pe_own c_take hr (by decide) (by rfl) (pa_cons (pv 0) (pa_cons pe_int pa_nil))) (fun _ _ => rfl)))))))))), ?_⟩
    have sm1 : ∀ {k : Nat}, k ≤ 1000 → k ≤ sizeLine := fun {k} h => Nat.le_of_lt (small1000 h)
    have hxi : ∀ i ∈ xs, -1000000 ≤ i ∧ i ≤ 1000000 := fun i hi => by
      have := hxr i hi
      omega
    have hbi : ∀ i ∈ bs, -1000000 ≤ i ∧ i ≤ 1000000 := fun i hi => by
      have := hbr i hi
      omega
    -- at
    refine ⟨_, rfl, _, rfl, a, _, rfl, .inr hx.sq, p, _, rfl, hp, (by rw [List.length_map]; omega), (by rw [List.length_map]; omega), fun r o r0 r1 po => ?_⟩
    rw [List.length_map] at r1
    have k1 : Kept p H (upd H p o) := Kept.upd p H o
    have hp1 : PoolAt (upd H p o) p := ⟨o, upd_same, po⟩
    have hx1 := hx.kept k1 hp
    have hb1 := hb.kept k1 hp
    generalize upd H p o = H1 at k1 hp1 hx1 hb1
    -- odd
    refine ⟨2, rfl, _, rfl, _, rfl, a, a, _, _, rfl, rfl, hx1, hx1, sm1 (by rw [List.length_map]; omega), fun v1 H2 s2 p2 => ?_⟩
    rw [← List.map_append] at p2
    have hz1 : (r + 1).toNat < (xs ++ xs).length := by
      rw [List.length_append]
      omega
    refine ⟨_, rfl, _, _, rfl, rfl, v1, (xs ++ xs).map V.int, r + 1, V.int (xs ++ xs)[(r + 1).toNat], rfl, rfl, p2.sq, atI_int (by omega) (by rw [List.getElem?_map, List.getElem?_eq_getElem hz1]; rfl), ?_⟩
    have hzm : (xs ++ xs)[(r + 1).toNat] ∈ xs := (List.mem_append.mp (List.getElem_mem hz1)).elim id id
    generalize (xs ++ xs)[(r + 1).toNat] = z at hzm
    refine ⟨(by show 1 ≤ sizeLine; decide), fun l3 nl3 => ?_⟩
    refine ⟨rfl, (by show 8 ≤ sizeLine; decide), fun l nl => ?_⟩
    have hp2 : PoolAt H2 p := hp1.same s2
    have e3p : l3 ≠ p := pool_ne hp2 nl3
    obtain ⟨ell3, nl0⟩ := free_upd nl
    have elp : l ≠ p := pool_ne hp2 nl0
    have s3 : Same H1 (upd H2 l3 (.lst [V.int 3])) := s2.trans (same_upd nl3)
    have el8 : ElemL p (upd H2 l3 (.lst [V.int 3])) [V.bl true, V.non, V.str "7", V.int 100, V.int (-2), V.int z, V.ref l3, V.bl (decide (V.int 1 = V.int 1))] :=
      .cons (.bl true) (.bl true) (.cons .non .non (.cons (.str "7") .seven (.cons (.int 100) (.int (by decide) (by decide)) (.cons (.int (-2)) (.int (by decide) (by decide)) (.cons (.int z) (.int (hxi z hzm).1 (hxi z hzm).2)
        (.cons (.lst e3p upd_same (.cons (.int 3) .nil)) .three (.cons (.bl _) (.bl _) .nil)))))))
    generalize hH3 : upd H2 l3 (.lst [V.int 3]) = H3 at s3 el8 nl
    refine ⟨_, rfl, p, _, rfl, (hp1.same s3).upd elp.symm, by decide, by decide, fun r2 o2 r20 r21 po2 => ?_⟩
    obtain ⟨v, hv, ev⟩ := cons_nil_fin (xs := [V.bl true, V.non, V.str "7", V.int 100, V.int (-2), V.int z, V.ref l3, V.bl (decide (V.int 1 = V.int 1))]) 8 rfl r20 r21
    refine ⟨l, _, r2, v, rfl, rfl, SqL.of (by rw [upd_ne elp, upd_same]), ev, ?_⟩
    have s4 := s3.trans (same_upd (o := HO.lst [V.bl true, V.non, V.str "7", V.int 100, V.int (-2), V.int z, V.ref l3, V.bl (decide (V.int 1 = V.int 1))]) nl)
    have hpl := (hp1.same s3).upd (o := HO.lst [V.bl true, V.non, V.str "7", V.int 100, V.int (-2), V.int z, V.ref l3, V.bl (decide (V.int 1 = V.int 1))]) elp.symm
    have el1 : ElemL p (upd (upd H3 l (.lst [V.bl true, V.non, V.str "7", V.int 100, V.int (-2), V.int z, V.ref l3, V.bl (decide (V.int 1 = V.int 1))])) p o2) [v] :=
      ((el8.mem hv).keep (Keeps.same (same_upd nl))).keep (Keeps.of (Kept.upd p _ o2) hpl)
    have k4 : Kept p H (upd (upd H3 l (.lst [V.bl true, V.non, V.str "7", V.int 100, V.int (-2), V.int z, V.ref l3, V.bl (decide (V.int 1 = V.int 1))])) p o2) := (k1.trans (Kept.same s4)).trans (Kept.upd p _ o2)
    have hp4 : PoolAt (upd (upd H3 l (.lst [V.bl true, V.non, V.str "7", V.int 100, V.int (-2), V.int z, V.ref l3, V.bl (decide (V.int 1 = V.int 1))])) p o2) p := ⟨o2, upd_same, po2⟩
    generalize upd (upd H3 l (.lst [V.bl true, V.non, V.str "7", V.int 100, V.int (-2), V.int z, V.ref l3, V.bl (decide (V.int 1 = V.int 1))])) p o2 = H4 at el1 k4 hp4
    clear hv ev s4 hpl el8 s3 s2 hp2 nl hH3 hp1 hx1 hb1 k1 p2
    have hx4 := hx.kept k4 hp
    have hb4 := hb.kept k4 hp
    -- put
    obtain ⟨ms1, em1, hm1, hl1⟩ := cutV_sub xs none (some r)
    obtain ⟨ms2, em2, hm2, hl2⟩ := cutV_sub xs (some (r + 1)) none
    refine ⟨_, rfl, _, rfl, _, rfl, a, _, rfl, hx4, fun v5 H5 s5 p5 => ?_⟩
    rw [em1] at p5
    refine ⟨_, rfl, (by show 1 ≤ sizeLine; decide), fun v6 H6 s6 n6 p6 => ?_⟩
    refine ⟨v5, v6, _, _, rfl, rfl, p5.same s6, p6, sm1 (by rw [List.length_map]; show ms1.length + 1 ≤ 1000; omega), fun v7 H7 s7 p7 => ?_⟩
    refine ⟨_, rfl, _, rfl, _, _, rfl, rfl, _, rfl, a, _, rfl, ((hx4.same s5).same s6).same s7, fun v8 H8 s8 p8 => ?_⟩
    have p8 : PTup H8 v8 (ms2.map V.int) := by
      rw [← em2]
      exact p8
    refine ⟨v7, v8, _, _, rfl, rfl, p7.same s8, p8, sm1 (by rw [List.length_append, List.length_map, List.length_map]; show ms1.length + 1 + ms2.length ≤ 1000; omega), fun pu H9 s9 p9 => ?_⟩
    have s49 : Same H4 H9 := (((s5.trans s6).trans s7).trans s8).trans s9
    have mpu : Mid p H9 (.ref pu) := Mid.tup (.inl p9) (((ElemL.ints ms1 fun i hi => hxi i (hm1 i hi)).app (el1.keep (Keeps.same s49))).app (ElemL.ints ms2 fun i hi => hxi i (hm2 i hi))) (by
      rw [List.length_append, List.length_append, List.length_map, List.length_map]
      show ms1.length + 1 + ms2.length ≤ 20
      omega)
    have k9 : Kept p H H9 := k4.trans (Kept.same s49)
    have hp9 : PoolAt H9 p := hp4.same s49
    have hb9 := hb4.same s49
    have hx9 := hx4.same s49
    clear s5 s6 s7 s8 s9 p5 p6 p7 p8 p9 s49 el1 hx4 hb4
    -- bits
    obtain ⟨ms3, em3, hm3, hl3⟩ := cutV_sub bs none (some (-1))
    refine ⟨_, rfl, 1, rfl, _, rfl, b, _, rfl, hb9, fun v10 HA sA pA => ?_⟩
    have pA : PTup HA v10 (ms3.map V.int) := by
      rw [← em3]
      exact pA
    refine ⟨1, rfl, (by show 4 ≤ sizeLine; decide), fun l4 nl4 => ?_⟩
    have e4p : l4 ≠ p := pool_ne (hp9.same sA) nl4
    refine ⟨_, rfl, p, _, rfl, (hp9.same sA).upd e4p.symm, by decide, by decide, fun r3 o3 r30 r31 po3 => ?_⟩
    obtain ⟨v, hv, ev⟩ := cons_nil_fin (xs := [V.int 2, V.bl true, V.non, V.int (-1)]) 4 rfl r30 r31
    refine ⟨l4, _, r3, v, rfl, rfl, SqL.of (by rw [upd_ne e4p, upd_same]), ev, ?_⟩
    have elv : ∀ Hz, ElemL p Hz [v] := fun Hz => (ElemL.cons (vs := [V.bl true, V.non, V.int (-1)]) (.int 2) (.int (by decide) (by decide)) (.cons (.bl true) (.bl true) (.cons .non .non (.cons (.int (-1)) (.int (by decide) (by decide)) .nil)))).mem hv
    have sB : Same H9 (upd HA l4 (.lst [V.int 2, V.bl true, V.non, V.int (-1)])) := sA.trans (same_upd nl4)
    have kB : Kept p H9 (upd (upd HA l4 (.lst [V.int 2, V.bl true, V.non, V.int (-1)])) p o3) := (Kept.same sB).trans (Kept.upd p _ o3)
    have hpB : PoolAt (upd (upd HA l4 (.lst [V.int 2, V.bl true, V.non, V.int (-1)])) p o3) p := ⟨o3, upd_same, po3⟩
    have pB : PTup (upd (upd HA l4 (.lst [V.int 2, V.bl true, V.non, V.int (-1)])) p o3) v10 (ms3.map V.int) := (pA.same (same_upd nl4)).kept (Kept.upd p _ o3) ((hp9.same sA).upd e4p.symm)
    generalize upd (upd HA l4 (.lst [V.int 2, V.bl true, V.non, V.int (-1)])) p o3 = HB at kB hpB pB
    refine ⟨(by show 1 ≤ sizeLine; decide), fun v12 HC sC nC pC => ?_⟩
    refine ⟨v10, v12, _, _, rfl, rfl, pB.same sC, pC, sm1 (by rw [List.length_map]; show ms3.length + 1 ≤ 1000; omega), fun bi HD sD pD => ?_⟩
    have sBD : Same HB HD := sC.trans sD
    have mbi : Mid p HD (.ref bi) := Mid.tup (.inl pD) ((ElemL.ints ms3 fun i hi => hbi i (hm3 i hi)).app (elv HD)) (by
      rw [List.length_append, List.length_map]
      show ms3.length + 1 ≤ 20
      omega)
    have kD : Kept p H HD := (k9.trans kB).trans (Kept.same sBD)
    have hpD : PoolAt HD p := hpB.same sBD
    have mpuD : Mid p HD (.ref pu) := (mpu.keep (Keeps.of kB hp9)).keep (Keeps.same sBD)
    have hxD := (hx9.kept kB hp9).same sBD
    have hbD := (hb9.kept kB hp9).same sBD
    clear mpu sA pA nl4 hv ev elv sB pB sC sD pC pD sBD kB hpB hp9 k9 hx9 hb9 hp4 k4
    have g0 : AllG p HD [] := fun x hx => (List.not_mem_nil hx).elim
    refine ⟨_, rfl, _, rfl, (by show 2 ≤ sizeLine; decide), fun t1 E1 s1 n1 p1 => ?_⟩
    have sD1 : Same HD E1 := (Same.refl HD).trans s1
    have g1 := AllG.push g0 s1 (Good.tup p1 (MidL.cons (Mid.tup (.inl (hxD.same sD1)) (ElemL.ints xs hxi) (by rw [List.length_map]; omega)) (MidL.cons (Mid.tup (.inl (hbD.same sD1)) (ElemL.ints bs hbi) (by rw [List.length_map]; omega)) MidL.nil)) (by show 2 ≤ 3; decide))
    refine ⟨_, rfl, _, rfl, (by show 2 ≤ sizeLine; decide), fun t2 E2 s2 n2 p2 => ?_⟩
    have sD2 : Same HD E2 := sD1.trans s2
    have g2 := AllG.push g1 s2 (Good.tup p2 (MidL.cons (mpuD.keep (Keeps.same sD2)) (MidL.cons (Mid.tup (.inl (hbD.same sD2)) (ElemL.ints bs hbi) (by rw [List.length_map]; omega)) MidL.nil)) (by show 2 ≤ 3; decide))
    refine ⟨_, rfl, _, rfl, (by show 2 ≤ sizeLine; decide), fun t3 E3 s3 n3 p3 => ?_⟩
    have sD3 : Same HD E3 := sD2.trans s3
    have g3 := AllG.push g2 s3 (Good.tup p3 (MidL.cons (mpuD.keep (Keeps.same sD3)) (MidL.cons (Mid.tup (.inl (hbD.same sD3)) (ElemL.ints bs hbi) (by rw [List.length_map]; omega)) MidL.nil)) (by show 2 ≤ 3; decide))
    refine ⟨_, rfl, 1, rfl, (by show 1 ≤ sizeLine; decide), fun t4 E4 s4 n4 p4 => ?_⟩
    have sD4 : Same HD E4 := sD3.trans s4
    have g4 := AllG.keep g3 (Keeps.same s4)
    refine ⟨a, t4, _, _, rfl, rfl, hxD.same sD4, p4, sm1 (by rw [List.length_map]; show xs.length + 1 ≤ 1000; omega), fun t5 E5 s5 p5 => ?_⟩
    have sD5 : Same HD E5 := sD4.trans s5
    have g5 := AllG.keep g4 (Keeps.same s5)
    have m4 : Mid p E5 (.ref t5) := Mid.tup (.inl p5) ((ElemL.ints xs hxi).app (.cons (.int (-1)) (.int (by decide) (by decide)) .nil)) (by rw [List.length_append, List.length_map]; show xs.length + 1 ≤ 20; omega)
    refine ⟨_, rfl, (by show 2 ≤ sizeLine; decide), fun t6 E6 s6 n6 p6 => ?_⟩
    have sD6 : Same HD E6 := sD5.trans s6
    have g6 := AllG.push g5 s6 (Good.tup p6 (MidL.cons (m4.keep (Keeps.same s6)) (MidL.cons (Mid.tup (.inl (hbD.same sD6)) (ElemL.ints bs hbi) (by rw [List.length_map]; omega)) MidL.nil)) (by show 2 ≤ 3; decide))
    obtain ⟨ms5, em5, hm5, hl5⟩ := cutV_sub xs none (some (-1))
    refine ⟨_, rfl, 1, rfl, _, rfl, a, _, rfl, hxD.same sD6, fun t7 E7 s7 p7 => ?_⟩
    have sD7 : Same HD E7 := sD6.trans s7
    have g7 := AllG.keep g6 (Keeps.same s7)
    have p7 : PTup E7 t7 (ms5.map V.int) := by
      rw [← em5]
      exact p7
    have m5 : Mid p E7 (.ref t7) := Mid.tup (.inl p7) (ElemL.ints ms5 fun i hi => hxi i (hm5 i hi)) (by rw [List.length_map]; omega)
    refine ⟨_, rfl, (by show 2 ≤ sizeLine; decide), fun t8 E8 s8 n8 p8 => ?_⟩
    have sD8 : Same HD E8 := sD7.trans s8
    have g8 := AllG.push g7 s8 (Good.tup p8 (MidL.cons (m5.keep (Keeps.same s8)) (MidL.cons (Mid.tup (.inl (hbD.same sD8)) (ElemL.ints bs hbi) (by rw [List.length_map]; omega)) MidL.nil)) (by show 2 ≤ 3; decide))
    refine ⟨_, rfl, _, rfl, (by show 2 ≤ sizeLine; decide), fun t9 E9 s9 n9 p9 => ?_⟩
    have sD9 : Same HD E9 := sD8.trans s9
    have g9 := AllG.push g8 s9 (Good.tup p9 (MidL.cons (Mid.tup (.inl (hxD.same sD9)) (ElemL.ints xs hxi) (by rw [List.length_map]; omega)) (MidL.cons (mbi.keep (Keeps.same sD9)) MidL.nil)) (by show 2 ≤ 3; decide))
    refine ⟨(by show 6 ≤ sizeLine; decide), fun L1 nL1 => ?_⟩
    have hL1 := @upd_same E9 L1 (.lst [V.ref t1, V.ref t2, V.ref t3, V.ref t6, V.ref t8, V.ref t9])
    have sL1 := same_upd (o := HO.lst [V.ref t1, V.ref t2, V.ref t3, V.ref t6, V.ref t8, V.ref t9]) nL1
    have gL1 := AllG.keep g9 (Keeps.same sL1)
    have sDL1 : Same HD _ := sD9.trans sL1
    generalize upd E9 L1 (.lst [V.ref t1, V.ref t2, V.ref t3, V.ref t6, V.ref t8, V.ref t9]) = F1 at hL1 sL1 gL1 sDL1
    have hFL := hL1
    refine ⟨_, rfl, ?_⟩
    refine ⟨_, rfl, a, _, rfl, .inr (hxD.same sDL1).sq, fun l7 nl7 => ?_⟩
    have e7p : l7 ≠ p := pool_ne (hpD.same sDL1) nl7
    have s10 := same_upd (o := HO.lst (xs.map V.int)) nl7
    have h7 := @upd_same F1 l7 (.lst (xs.map V.int))
    generalize upd F1 l7 (.lst (xs.map V.int)) = E10 at s10 h7
    have sD10 : Same HD E10 := sDL1.trans s10
    have g10 := AllG.keep gL1 (Keeps.same s10)
    have hFL := s10 _ _ hFL
    have m7 : Mid p E10 (.ref l7) := Mid.lst e7p h7 (ElemL.ints xs hxi) (by rw [List.length_map]; omega)
    refine ⟨_, rfl, (by show 2 ≤ sizeLine; decide), fun t11 E11 s11 n11 p11 => ?_⟩
    have sD11 : Same HD E11 := sD10.trans s11
    have g11 := AllG.push g10 s11 (Good.tup p11 (MidL.cons (m7.keep (Keeps.same s11)) (MidL.cons (Mid.tup (.inl (hbD.same sD11)) (ElemL.ints bs hbi) (by rw [List.length_map]; omega)) MidL.nil)) (by show 2 ≤ 3; decide))
    have hFL := s11 _ _ hFL
    refine ⟨_, rfl, _, rfl, b, _, rfl, .inr (hbD.same sD11).sq, fun l8 nl8 => ?_⟩
    have e8p : l8 ≠ p := pool_ne (hpD.same sD11) nl8
    have s12 := same_upd (o := HO.lst (bs.map V.int)) nl8
    have h8 := @upd_same E11 l8 (.lst (bs.map V.int))
    generalize upd E11 l8 (.lst (bs.map V.int)) = E12 at s12 h8
    have sD12 : Same HD E12 := sD11.trans s12
    have g12 := AllG.keep g11 (Keeps.same s12)
    have hFL := s12 _ _ hFL
    have m8 : Mid p E12 (.ref l8) := Mid.lst e8p h8 (ElemL.ints bs hbi) (by rw [List.length_map]; omega)
    refine ⟨(by show 2 ≤ sizeLine; decide), fun t13 E13 s13 n13 p13 => ?_⟩
    have sD13 : Same HD E13 := sD12.trans s13
    have g13 := AllG.push g12 s13 (Good.tup p13 (MidL.cons (Mid.tup (.inl (hxD.same sD13)) (ElemL.ints xs hxi) (by rw [List.length_map]; omega)) (MidL.cons (m8.keep (Keeps.same s13)) MidL.nil)) (by show 2 ≤ 3; decide))
    have hFL := s13 _ _ hFL
    refine ⟨_, rfl, _, rfl, (by show 1 ≤ sizeLine; decide), fun t14 E14 s14 n14 p14 => ?_⟩
    have sD14 : Same HD E14 := sD13.trans s14
    have g14 := AllG.keep g13 (Keeps.same s14)
    have hFL := s14 _ _ hFL
    refine ⟨b, t14, _, _, rfl, rfl, hbD.same sD14, p14, sm1 (by rw [List.length_map]; show bs.length + 1 ≤ 1000; omega), fun t15 E15 s15 p15 => ?_⟩
    have sD15 : Same HD E15 := sD14.trans s15
    have g15 := AllG.keep g14 (Keeps.same s15)
    have hFL := s15 _ _ hFL
    have m9 : Mid p E15 (.ref t15) := Mid.tup (.inl p15) ((ElemL.ints bs hbi).app (.cons (.int 0) (.int (by decide) (by decide)) .nil)) (by rw [List.length_append, List.length_map]; show bs.length + 1 ≤ 20; omega)
    refine ⟨(by show 2 ≤ sizeLine; decide), fun t16 E16 s16 n16 p16 => ?_⟩
    have sD16 : Same HD E16 := sD15.trans s16
    have g16 := AllG.push g15 s16 (Good.tup p16 (MidL.cons (Mid.tup (.inl (hxD.same sD16)) (ElemL.ints xs hxi) (by rw [List.length_map]; omega)) (MidL.cons (m9.keep (Keeps.same s16)) MidL.nil)) (by show 2 ≤ 3; decide))
    have hFL := s16 _ _ hFL
    refine ⟨_, rfl, _, rfl, 1, rfl, _, rfl, b, _, rfl, hbD.same sD16, fun t17 E17 s17 p17 => ?_⟩
    have sD17 : Same HD E17 := sD16.trans s17
    have g17 := AllG.keep g16 (Keeps.same s17)
    have hFL := s17 _ _ hFL
    have p17 : PTup E17 t17 (ms3.map V.int) := by
      rw [← em3]
      exact p17
    have m10 : Mid p E17 (.ref t17) := Mid.tup (.inl p17) (ElemL.ints ms3 fun i hi => hbi i (hm3 i hi)) (by rw [List.length_map]; omega)
    refine ⟨(by show 2 ≤ sizeLine; decide), fun t18 E18 s18 n18 p18 => ?_⟩
    have sD18 : Same HD E18 := sD17.trans s18
    have g18 := AllG.push g17 s18 (Good.tup p18 (MidL.cons (Mid.tup (.inl (hxD.same sD18)) (ElemL.ints xs hxi) (by rw [List.length_map]; omega)) (MidL.cons (m10.keep (Keeps.same s18)) MidL.nil)) (by show 2 ≤ 3; decide))
    have hFL := s18 _ _ hFL
    refine ⟨(by show 4 ≤ sizeLine; decide), fun L2 nL2 => ?_⟩
    have sL2 := same_upd (o := HO.lst [V.ref t11, V.ref t13, V.ref t16, V.ref t18]) nL2
    refine ⟨L1, L2, _, _, rfl, rfl, sL2 _ _ hFL, upd_same, (by show 10 ≤ sizeLine; decide), fun L3 nL3 => ?_⟩
    have sL3 := same_upd (o := HO.lst ([V.ref t1, V.ref t2, V.ref t3, V.ref t6, V.ref t8, V.ref t9] ++ [V.ref t11, V.ref t13, V.ref t16, V.ref t18])) nL3
    have hFM := @upd_same (upd E18 L2 (.lst [V.ref t11, V.ref t13, V.ref t16, V.ref t18])) L3 (.lst ([V.ref t1, V.ref t2, V.ref t3, V.ref t6, V.ref t8, V.ref t9] ++ [V.ref t11, V.ref t13, V.ref t16, V.ref t18]))
    have gL3 := AllG.keep g18 (Keeps.same (sL2.trans sL3))
    have sDL3 : Same HD _ := sD18.trans (sL2.trans sL3)
    generalize upd (upd E18 L2 (.lst [V.ref t11, V.ref t13, V.ref t16, V.ref t18])) L3 (.lst ([V.ref t1, V.ref t2, V.ref t3, V.ref t6, V.ref t8, V.ref t9] ++ [V.ref t11, V.ref t13, V.ref t16, V.ref t18])) = F3 at hFM gL3 sDL3
    refine ⟨_, rfl, ?_⟩
    refine ⟨_, rfl, _, rfl, (by show 2 ≤ sizeLine; decide), fun l11 nl11 => ?_⟩
    have e11p : l11 ≠ p := pool_ne (hpD.same sDL3) nl11
    have s19 := same_upd (o := HO.lst [V.ref a, V.ref b]) nl11
    have h11 := @upd_same F3 l11 (.lst [V.ref a, V.ref b])
    generalize upd F3 l11 (.lst [V.ref a, V.ref b]) = E19 at s19 h11
    have sD19 : Same HD E19 := sDL3.trans s19
    have hFM := s19 _ _ hFM
    have g19 := AllG.push gL3 s19 (Good.lst e11p h11 (MidL.cons (Mid.tup (.inl (hxD.same sD19)) (ElemL.ints xs hxi) (by rw [List.length_map]; omega)) (MidL.cons (Mid.tup (.inl (hbD.same sD19)) (ElemL.ints bs hbi) (by rw [List.length_map]; omega)) MidL.nil)) (by show 2 ≤ 3; decide))
    refine ⟨_, rfl, (by show 1 ≤ sizeLine; decide), fun t20 E20 s20 n20 p20 => ?_⟩
    have sD20 : Same HD E20 := sD19.trans s20
    have g20 := AllG.push g19 s20 (Good.tup p20 (MidL.cons (Mid.tup (.inl (hxD.same sD20)) (ElemL.ints xs hxi) (by rw [List.length_map]; omega)) MidL.nil) (by show 1 ≤ 3; decide))
    have hFM := s20 _ _ hFM
    refine ⟨_, rfl, _, rfl, (by show 0 ≤ sizeLine; decide), fun t21 E21 s21 n21 p21 => ?_⟩
    have sD21 : Same HD E21 := sD20.trans s21
    have g21 := AllG.keep g20 (Keeps.same s21)
    have hFM := s21 _ _ hFM
    have m13 : Mid p E21 (.ref t21) := Mid.tup (.inl p21) ElemL.nil (by show 0 ≤ 20; decide)
    refine ⟨(by show 3 ≤ sizeLine; decide), fun t22 E22 s22 n22 p22 => ?_⟩
    have sD22 : Same HD E22 := sD21.trans s22
    have g22 := AllG.push g21 s22 (Good.tup p22 (MidL.cons (Mid.tup (.inl (hxD.same sD22)) (ElemL.ints xs hxi) (by rw [List.length_map]; omega)) (MidL.cons (Mid.tup (.inl (hbD.same sD22)) (ElemL.ints bs hbi) (by rw [List.length_map]; omega)) (MidL.cons (m13.keep (Keeps.same s22)) MidL.nil))) (by show 3 ≤ 3; decide))
    have hFM := s22 _ _ hFM
    refine ⟨_, rfl, (by show 2 ≤ sizeLine; decide), fun t23 E23 s23 n23 p23 => ?_⟩
    have sD23 : Same HD E23 := sD22.trans s23
    have g23 := AllG.push g22 s23 (Good.tup p23 (MidL.cons (Mid.tup (.inl (hxD.same sD23)) (ElemL.ints xs hxi) (by rw [List.length_map]; omega)) (MidL.cons Mid.non MidL.nil)) (by show 2 ≤ 3; decide))
    have hFM := s23 _ _ hFM
    refine ⟨(by show 5 ≤ sizeLine; decide), fun L4 nL4 => ?_⟩
    have sL4 := same_upd (o := HO.lst [V.ref l11, V.ref t20, V.ref t22, V.ref t23, V.non]) nL4
    refine ⟨L3, L4, _, _, rfl, rfl, sL4 _ _ hFM, upd_same, (by show 15 ≤ sizeLine; decide), fun L5 nL5 => ?_⟩
    have gA := AllG.push g23 (Same.refl _) Good.non
    have sL5 := same_upd (o := HO.lst ([V.ref t1, V.ref t2, V.ref t3, V.ref t6, V.ref t8, V.ref t9] ++ [V.ref t11, V.ref t13, V.ref t16, V.ref t18] ++ [V.ref l11, V.ref t20, V.ref t22, V.ref t23, V.non])) nL5
    have hF5 := @upd_same (upd E23 L4 (.lst [V.ref l11, V.ref t20, V.ref t22, V.ref t23, V.non])) L5 (.lst ([V.ref t1, V.ref t2, V.ref t3, V.ref t6, V.ref t8, V.ref t9] ++ [V.ref t11, V.ref t13, V.ref t16, V.ref t18] ++ [V.ref l11, V.ref t20, V.ref t22, V.ref t23, V.non]))
    have gL5 := AllG.keep gA (Keeps.same (sL4.trans sL5))
    have sDL5 : Same HD _ := sD23.trans (sL4.trans sL5)
    generalize upd (upd E23 L4 (.lst [V.ref l11, V.ref t20, V.ref t22, V.ref t23, V.non])) L5 (.lst ([V.ref t1, V.ref t2, V.ref t3, V.ref t6, V.ref t8, V.ref t9] ++ [V.ref t11, V.ref t13, V.ref t16, V.ref t18] ++ [V.ref l11, V.ref t20, V.ref t22, V.ref t23, V.non])) = F5 at hF5 gL5 sDL5
    have hpF : PoolAt F5 p := hpD.same sDL5
    refine ⟨_, rfl, p, _, rfl, hpF, by decide, by decide, fun r5 o5 r50 r51 po5 => ?_⟩
    obtain ⟨v, hv, ev⟩ := cons_nil_fin (xs := [V.ref t1, V.ref t2, V.ref t3, V.ref t6, V.ref t8, V.ref t9] ++ [V.ref t11, V.ref t13, V.ref t16, V.ref t18] ++ [V.ref l11, V.ref t20, V.ref t22, V.ref t23, V.non]) 15 rfl r50 r51
    have e5p : L5 ≠ p := by
      obtain ⟨o9, ho9, g9, m9, rfl, _⟩ := hpF
      exact ne_of hF5 ho9 (by intro z; cases z)
    refine ⟨L5, _, r5, v, rfl, rfl, SqL.of (by rw [upd_ne e5p]; exact hF5), ev, ?_⟩
    exact q v _ ((kD.trans (Kept.same sDL5)).trans (Kept.upd p _ _)) ⟨o5, upd_same, po5⟩ ((gL5 v hv).keep (Keeps.of (Kept.upd p _ _) hpF))
end
end Su
namespace Su
open PySem PySem.Spec PyProof.Rows L2
theorem tuple_mul1 (l : Addr) (items : Array Value) (n : Nat) (dd : Option Addr) (sl : Array (Option Value)) (u : Tok) :
    Meets (Builtin.«tuple.__mul__» ⟨[.ref l, .int 1 u], []⟩) (fun _ R s => s.heap.get? l = some { cls := .type "tuple", dict := dd, data := .seq items n, slots := sl } ∧ R (.ok (.ret (Value.ref l))) s) :=
  .of_wp fun prog w A R s h => by
    obtain ⟨hp, g, d, tk, os⟩ := s
    obtain ⟨hl, h⟩ := h
    have f1 := AutoSeq1.idx_int
    wp_walk using wpAny_loadPart' hl
    exact ⟨_, rfl, h⟩
theorem rep_flat (v : V) : ∀ k : Nat, (List.replicate k [v]).flatten = List.replicate k v
  | 0 => rfl
  | k + 1 => by
    rw [List.replicate_succ, List.flatten_cons, rep_flat v k, List.replicate_succ]
    rfl
section
variable {X : Cx}
/-- (-1,) * k -/
def rMulM : R2 := fun x y H Q => ∃ (a : Addr) (k : Int), x = .ref a ∧ y = .int k ∧ PTup H a [V.int (-1)] ∧ 1 ≤ k ∧ k ≤ 8 ∧ ∀ v H', Same H H' → TupW H' v (List.replicate k.toNat (V.int (-1))) → Q (.ref v) H'
theorem op_mulM : OpR X (binaryOp .Mult) rMulM := by
  intro pins s σ H x y v u Q I rx ry h
  obtain ⟨a, k, rfl, rfl, ha, k1, k8, q⟩ := h
  by_cases hk : k = 1
  · subst hk
    cases rx
    obtain ⟨t, rfl⟩ := ry
    obtain ⟨its, r, ⟨⟨cls, dd, data, sl⟩, ho, hc, n, hd⟩, hs⟩ := I.tuple (ha.sq (K := X.K))
    simp only at hc hd
    subst hc hd
    refine wpAny_binaryOp_repeat_ref (T := "tuple") (U := "int") (by decide) ⟨_, ho, rfl⟩ (fun s' => typeIs_int s' 1 t) noFill_tuple_mul F.fills_int_mul F.slot_int_rmul repeat_tuple F.slot_int_index.lookup
      (call_meets F.slot_int_rmul (typeIs_int s 1 t) F.entry_int_rmul (F.args_int_rmul_2 _ _) (int_rmul_tuple 1 t a its.toArray n dd sl)
        ⟨ho, rfl, ⟨_, ho, rfl⟩, call_meets F.slot_tuple_mul ⟨_, ho, rfl⟩ F.entry_tuple_mul (F.args_tuple_mul_2 _ _) (tuple_mul1 a its.toArray n dd sl t) ⟨ho, ?_⟩⟩)
    exact ⟨.ref a, H, I, rfl, q a H (Same.refl H) (.inl ha)⟩
  · refine op_repT pins s σ H _ _ v u Q I rx ry ⟨a, k, _, rfl, rfl, ha.sq, by simp, by omega, by omega, by show 1 ≤ 1000; decide, fun c nc => ?_⟩
    refine q c _ (same_upd nc) (.inr ⟨?_, fun x hx => List.eq_of_mem_replicate hx⟩)
    rw [upd_same, rep_flat]
/-- repr of any thing -/
def rReprG : List V → Hp → VK → Prop := fun xs H Q => ∃ (p : Addr) (v : V) (g : G), xs = [v] ∧ Tg p H v g ∧ OkT g ∧ Q (.str (toD g).shown) H
theorem call_reprG (hg : X.A.guards = some []) (hu : X.A.units + 64 < cLine) : CallR X (.builtin "repr") rReprG := by
  intro pins s σ H xs us Q I r h
  obtain ⟨p, v, g, rfl, hv, ho, q⟩ := h
  have hlen := ho.fi.len (by decide)
  have hsh := ho.fi.sh
  cases hv with
  | non =>
    obtain ⟨u, rfl, r1⟩ := vals1 r
    cases r1
    exact PySem.P.repr_of_none ⟨.str _, H, I.tok _, ⟨_, rfl⟩, q⟩
  | bl b =>
    obtain ⟨u, rfl, r1⟩ := vals1 r
    cases r1
    refine PySem.P.repr_of_bool ⟨.str _, H, I.tok _, ⟨_, rfl⟩, ?_⟩
    have e : (toD (.bl b)).shown = (if b then "True" else "False" : Str) := PyData.shown_bool b
    rw [e] at q
    cases b <;> exact q
  | int i =>
    obtain ⟨u, rfl, t, rfl⟩ := vals1 r
    have hz : i.natAbs.log2 < 1920 := by
      simpa only [toD, PyData.showable, decide_eq_true_eq] using hsh
    refine PySem.P.repr_of_int hz ⟨.str _, H, I.tok _, ⟨_, rfl⟩, ?_⟩
    have e : (toD (.int i)).shown = ((toString i : String) : Str) := PyData.shown_int i
    rw [e] at q
    exact q
  | str x =>
    obtain ⟨u, rfl, t, rfl⟩ := vals1 r
    have e : (toD (.str x)).shown = reprText x := PyData.shown_str x
    rw [e] at q hlen
    exact PySem.P.repr_of_str ⟨.str _, H, I.tok _, ⟨_, rfl⟩, q⟩ hlen
  | lst n e t => exact call_reprD hg hu pins s σ H _ us Q I r ⟨_, _, 6, 250000, rfl, Tg.dp (.lst n e t) ho.ok, ho.fi, by decide, by decide, q⟩
  | tup e t => exact call_reprD hg hu pins s σ H _ us Q I r ⟨_, _, 6, 250000, rfl, Tg.dp (.tup e t) ho.ok, ho.fi, by decide, by decide, q⟩
  | dct e =>
    have := ho.ok
    cases this
variable {k j : Nat} {x : Str} {ks : List Str} {sp : Sp} {p pos : Pos} {kws : List Keyword} {t tk : TA} {gV : List V → List V → List V} {e : Expr} {es : List Expr}
theorem pe_ownKP (C : KCal X.prog X.w X.K X.mg X.base k x ks gV sp) (hr : Room j X.A) (hk : k ≤ j) (hg : Gl X x) (ha : PA X (e :: es) t) (hkw : PK X kws tk)
    (hall : (backToKw pos (keywordEach kws X.env)).all (·.1.isSome) = true := by rfl) (hks : (backToKw pos (keywordEach kws X.env)).filterMap (·.1) = ks := by rfl) (hdb : (x == ("__debug__" : Str)) = false := by decide) (he : starEach (e :: es) X.env = (false, eval e X.env) :: starEach es X.env := by rfl)
    (hpl : ((backTo pos (starEach (e :: es) X.env)).any (·.1) || (backToKw pos (keywordEach kws X.env)).any (·.1.isNone)) = false := by rfl) : PE X (.Call (.Name x p) (e :: es) kws pos) (tCallK sp gV E0 t tk) := by
  obtain ⟨f, fd, ps, g, F, hm, kp, b⟩ := C.ex
  exact pe_callK F (hr.mono hk) hg hm kp b (fun _ _ _ _ _ _ _ z => z.elim) ha hkw hall hks hdb he hpl
end
def gLay : List V → List V → List V
  | [a], [b, c] => [a, c, b]
  | _, _ => []
def spLaw (K : PySem.W.Frag) : Sp := fun vs H Q _ => ∃ (a : Addr) (ns : List Int), vs = [.ref a] ∧ SqL K H a (ns.map V.int) ∧ ns.length ≤ 63 ∧ ∀ H', Q (.bl true) H'
theorem fnG_fun {P : Program} {w : World} {K : PySem.W.Frag} {mg : Str → Option Value} {base : Heap} {x ql : Str} {st : Stmt} {f : Addr} {fd : FuncData} {N ps : List Str} {k : Nat} {sp : Sp} (F : Fun K x ql st f fd) (S : FnScope N ps (defScope st)) (len : ∀ vs H Q E, sp vs H Q E → vs.length = ps.length)
    (hb : ∀ (cdv : Value) (A : Around) (outer : List Env) (s : Shared) (H : Hp) (vs : List V) (Q : VK) (E : XK), (A.deeper (envOfC ql (defScope st) s.heap.objs.size f cdv)).guards = some [] → Room k (A.deeper (envOfC ql (defScope st) s.heap.objs.size f cdv)) → sp vs H Q E →
      ∃ t, PSs (cxOf CX0 P w K mg base N ql (defScope st) f cdv A outer s H E).nox (defBody st) t ∧ t { nx := fun _ H' => Q .non H', rt := Q } (start N vs) H) : FnG P w K mg base CX0 (k + 1) f fd ps sp := by
  obtain ⟨oc, od, kV, doc, pm, an, cdv, ct, osl, rfl, lk, hcd⟩ := F.ex
  refine fnG_of lk hcd S len fun A outer s H vs Q E hg hr hsp => ?_
  obtain ⟨t, h, q⟩ := hb cdv A outer s H vs Q E hg hr hsp
  exact ⟨t, h.nox, q⟩
structure Calls (P : Program) (w : World) (K : PySem.W.Frag) (mg : Str → Option Value) (base : Heap) : Prop where
  is_whole : Cal P w K mg base 1 "is_whole" ["thing"] spWhole
  is_room : Cal P w K mg base 2 "is_room" ["thing"] spRoom
  is_lay : Cal P w K mg base 5 "is_lay" ["thing", "size", "way"] spLay
  is_layK : KCal P w K mg base 5 "is_lay" ["way", "size"] gLay spLay
  pool : Cal P w K mg base 1 "_law_pool" ["_law_script", "_law_k"] (spPool K)
  take : Cal P w K mg base 1 "_law_take" ["_law_pool_here", "_law_many"] spTake
  whole : Cal P w K mg base 1 "_law_whole" ["_law_thing"] spWhole
  sort : Cal P w K mg base 2 "_law_sort" ["_law_pool_here"] spSort
  big : Cal P w K mg base 2 "_law_big" ["_law_pool_here", "_law_sort_here"] spBig
  places : Cal P w K mg base 3 "_law_places" ["_law_pool_here", "_law_many"] spPlaces
  cells : Cal P w K mg base 2 "_law_cells" ["_law_pool_here", "_law_big_here", "_law_some"] (spCells K)
  marks : Cal P w K mg base 2 "_law_marks" ["_law_pool_here", "_law_big_here", "_law_sort_here"] spMarks
  lay : Cal P w K mg base 2 "_law_is_lay" ["_law_thing", "_law_big_here", "_law_sort_here"] spLLay
  bent : Cal P w K mg base 2 "_law_bent" ["_law_pool_here", "_law_cells_here", "_law_marks_here"] spBent
theorem scLaw : FnScope ["_law_script", "_law_thing", "_law_found", "_law_due", "_law_k", "_law_pool_here", "_law_sort_here", "_law_big_here", "_law_cells_here", "_law_marks_here", "_law_odd", "_law_other", "_law_kept", "_law_one", "_law_two"] ["_law_script"] (defScope sLaw) := ⟨rfl, rfl, rfl, by decide +kernel, rfl, by decide +kernel, by decide +kernel⟩
section
variable {P : Program} {w : World} {K : PySem.W.Frag} {mg : Str → Option Value} {base : Heap}
theorem ok_law {f : Addr} {fd : FuncData} (F : Fun K "law" "law" sLaw f fd) (B : Bt mg) (C : Calls P w K mg base) : FnG P w K mg base CX0 6 f fd ["_law_script"] (spLaw K) := by
  obtain ⟨c_is_whole, c_is_room, c_is_lay, k_is_lay, c_pool, c_take, c_whole, c_sort, c_big, c_places, c_cells, c_marks, c_law_is_lay, c_bent⟩ := C
  refine fnG_fun F scLaw (fun vs H Q E h => ?_) (fun cdv A outer s H vs Q E hg hr h => ?_)
  · obtain ⟨a, ns, rfl, _⟩ := h
    rfl
  · obtain ⟨a, ns, rfl, hS, hlen, q⟩ := h
    refine ⟨_, (pss_cons (ps_for PassesOwn.never rfl (pi_list (pe_lst (pa_cons pe_non (pa_cons pe_bl (pa_cons pe_bl (pa_cons pe_str (pa_cons (pe_lst (pa_cons pe_int pa_nil)) (pa_cons (pe_tupF (pa_cons pe_int pa_nil)) (pa_cons pe_dnewK (pa_cons (pe_un un_neg pe_int) (pa_cons pe_int (pa_cons pe_int (pa_cons pe_int (pa_cons pe_int (pa_cons (pe_op op_pow pe_int pe_int) (pa_cons (pe_un un_neg (pe_op op_pow pe_int pe_int)) (pa_cons pe_str pa_nil))))))))))))))))) (pg_name (i := 1) scLaw.nd rfl (Or.inl rfl)) (pss_cons (ps_set (i := 2) scLaw.nd rfl (Or.inl rfl) (pe_lst (pa_cons (pe_own c_is_whole hr (by decide) (by rfl) (pa_cons (pv 1) pa_nil)) (pa_cons (pe_own c_is_room hr (by decide) (by rfl) (pa_cons (pv 1) pa_nil)) pa_nil))))
      (pss_cons (ps_set (i := 3) scLaw.nd rfl (Or.inl rfl) (pe_lst (pa_cons (pe_own c_whole hr (by decide) (by rfl) (pa_cons (pv 1) pa_nil)) (pa_cons (pe_and (pe_own c_whole hr (by decide) (by rfl) (pa_cons (pv 1) pa_nil)) (pe_one (pe_chain op_le op_le pe_int (pv 1) pe_int))) pa_nil))))
      (pss_one (ps_if (PW.pt (pw_or (pt_cmpR op_ne (pe_callB (call_reprD hg hr.units) (by rfl) B.repr (by decide +kernel) (pa_cons (pv 2) pa_nil)) (pe_callB (call_reprD hg hr.units) (by rfl) B.repr (by decide +kernel) (pa_cons (pv 3) pa_nil)) (nomark _)) (pw_or1 (pt_cmpR op_isnot_bl (pe_own c_is_lay hr (by decide) (by rfl) (pa_cons (pv 1) (pa_cons pe_int (pa_cons pe_str pa_nil)))) pe_bl (nomark _))))) (pss_one (ps_ret pe_bl)) pss_nil)))))
      (pss_cons (ps_for PassesOwn.never rfl (pi_range1 (by rfl) B.range (pa_cons (pe_callB (call_max2 rfl) (by rfl) B.max (by decide +kernel) (pa_cons pe_int (pa_cons (pe_callB (call_min2 rfl) (by rfl) B.min (by decide +kernel) (pa_cons (pe_callB call_len_seq (by rfl) B.len PySem.boot_len (pa_cons (pv 0) pa_nil)) (pa_cons pe_int pa_nil))) pa_nil))) pa_nil)) (pg_name (i := 4) scLaw.nd rfl (Or.inl rfl)) (pss_cons (ps_set (i := 5) scLaw.nd rfl (Or.inl rfl) (pe_own c_pool hr (by decide) (by rfl) (pa_cons (pv 0) (pa_cons (pv 4) pa_nil))))
      (pss_cons (ps_set (i := 6) scLaw.nd rfl (Or.inl rfl) (pe_own c_sort hr (by decide) (by rfl) (pa_cons (pv 5) pa_nil)))
      (pss_cons (ps_set (i := 7) scLaw.nd rfl (Or.inl rfl) (pe_own c_big hr (by decide) (by rfl) (pa_cons (pv 5) (pa_cons (pv 6) pa_nil))))
      (pss_cons (ps_set (i := 8) scLaw.nd rfl (Or.inl rfl) (pe_own c_cells hr (by decide) (by rfl) (pa_cons (pv 5) (pa_cons (pv 7) (pa_cons (pe_own c_places hr (by decide) (by rfl) (pa_cons (pv 5) (pa_cons pe_int pa_nil))) pa_nil)))))
      (pss_cons (ps_set (i := 9) scLaw.nd rfl (Or.inl rfl) (pe_own c_marks hr (by decide) (by rfl) (pa_cons (pv 5) (pa_cons (pv 7) (pa_cons (pv 6) pa_nil)))))
      (pss_cons (ps_set (i := 10) scLaw.nd rfl (Or.inl rfl) (pe_ix ix_list (pe_lst (pa_cons pe_int (pa_cons pe_int (pa_cons pe_bl (pa_cons pe_non (pa_cons pe_str (pa_cons pe_int (pa_cons (pe_lst (pa_cons pe_int pa_nil)) (pa_cons (pv 7) pa_nil))))))))) (pe_own c_take hr (by decide) (by rfl) (pa_cons (pv 5) (pa_cons pe_int pa_nil))) (fun _ _ => rfl)))
      (pss_cons (ps_set (i := 11) scLaw.nd rfl (Or.inl rfl) (pe_ix ix_list (pe_lst (pa_cons pe_str (pa_cons pe_non (pa_cons (pe_lst (pa_cons pe_str pa_nil)) (pa_cons pe_str (pa_cons pe_str (pa_cons pe_str (pa_cons pe_str (pa_cons pe_int pa_nil))))))))) (pe_own c_take hr (by decide) (by rfl) (pa_cons (pv 5) (pa_cons pe_int pa_nil))) (fun _ _ => rfl)))
      (pss_one (ps_for PassesOwn.never rfl (pi_list (pe_lst (pa_cons (pe_tupF (pa_cons (pv 8) (pa_cons (pv 9) pa_nil))) (pa_cons (pe_own c_bent hr (by decide) (by rfl) (pa_cons (pv 5) (pa_cons (pv 8) (pa_cons (pv 9) pa_nil)))) (pa_cons (pe_tupF (pa_cons (pe_op op_mulM (pe_tupF (pa_cons (pe_un un_neg pe_int) pa_nil)) (pv 7)) (pa_cons (pv 9) pa_nil))) pa_nil))))) (pg_name (i := 1) scLaw.nd rfl (Or.inl rfl)) (pss_cons (ps_set (i := 12) scLaw.nd rfl (Or.inl rfl) (pe_callB (call_reprG hg hr.units) (by rfl) B.repr (by decide +kernel) (pa_cons (pv 1) pa_nil)))
      (pss_one (ps_for PassesOwn.never rfl (pi_list (pe_lst (pa_cons (pe_tupF (pa_cons (pv 7) (pa_cons (pv 6) pa_nil))) (pa_cons (pe_tupF (pa_cons (pv 10) (pa_cons (pv 6) pa_nil))) (pa_cons (pe_tupF (pa_cons (pv 7) (pa_cons (pv 11) pa_nil))) pa_nil))))) (pg_tup (by rfl) (pgs_cons (pg_name (i := 13) scLaw.nd rfl (Or.inl rfl)) (pgs_cons (pg_name (i := 14) scLaw.nd rfl (Or.inl rfl)) pgs_nil))) (pss_cons (ps_set (i := 2) scLaw.nd rfl (Or.inl rfl) (pe_own c_is_lay hr (by decide) (by rfl) (pa_cons (pv 1) (pa_cons (pv 13) (pa_cons (pv 14) pa_nil)))))
      (pss_one (ps_if (PW.pt (pw_or (pt_not (pt_val (pe_callB call_isi (by rfl) B.isinstance (by decide +kernel) (pa_cons (pv 2) (pa_cons (pe_bltn (v := .ty "bool") (u := .type "bool") (by rfl) B.bool (by decide +kernel) rfl) pa_nil))))) (pw_or (pt_cmpR op_ne (pv 2) (pe_own c_law_is_lay hr (by decide) (by rfl) (pa_cons (pv 1) (pa_cons (pv 13) (pa_cons (pv 14) pa_nil)))) (nomark _)) (pw_or1 (pt_cmpR op_ne (pe_callB (call_reprG hg hr.units) (by rfl) B.repr (by decide +kernel) (pa_cons (pv 1) pa_nil)) (pv 12) (nomark _)))))) (pss_one (ps_ret pe_bl)) pss_nil))))))))))))))))
      (pss_one (ps_ret (pe_cmpR op_is_bl (pe_ownKP k_is_lay hr (by decide) (by rfl) (pa_cons (pe_tupF (pa_cons (pe_tupF (pa_cons pe_int pa_nil)) (pa_cons (pe_tupF pa_nil) pa_nil))) pa_nil) (pk_cons pe_str (pk_cons pe_int pk_nil))) pe_bl (nomark _)))))), ?_⟩
    -- the first list of things
    refine ⟨(by show 1 ≤ sizeLine; decide), fun l1 nl1 => ?_⟩
    refine ⟨(by show 1 ≤ sizeLine; decide), fun t1 H2 s2 n2 p2 => ?_⟩
    intro d nd
    refine ⟨1, rfl, _, _, rfl, rfl, ⟨by decide, by decide, by decide⟩, _, _, rfl, rfl, ⟨by decide, by decide, by decide⟩, _, rfl, (by show 15 ≤ sizeLine; decide), fun L nL => ?_⟩
    obtain ⟨eLd, nL2⟩ := free_upd nL
    have h1a : H2 l1 = some (.lst [V.int 1]) := s2 _ _ upd_same
    have e1d : l1 ≠ d := ne_of_none h1a nd
    have e1L : l1 ≠ L := ne_of_none h1a nL2
    have s3 : Same H2 (upd (upd H2 d (.dK [])) L (.lst [V.non, V.bl true, V.bl false, V.str "1", V.ref l1, V.ref t1, V.ref d, V.int (-1), V.int 0, V.int 1, V.int 99, V.int 100, V.int (10 ^ Int.toNat 30), V.int (-(10 ^ Int.toNat 30)), V.str ""])) := (same_upd nd).trans (same_upd nL)
    obtain ⟨gs, tl, hN⟩ : ∃ gs, TgL (l1 + 1) (upd (upd H2 d (.dK [])) L (.lst [V.non, V.bl true, V.bl false, V.str "1", V.ref l1, V.ref t1, V.ref d, V.int (-1), V.int 0, V.int 1, V.int 99, V.int 100, V.int (10 ^ Int.toNat 30), V.int (-(10 ^ Int.toNat 30)), V.str ""]))
        [V.non, V.bl true, V.bl false, V.str "1", V.ref l1, V.ref t1, V.ref d, V.int (-1), V.int 0, V.int 1, V.int 99, V.int 100, V.int (10 ^ Int.toNat 30), V.int (-(10 ^ Int.toNat 30)), V.str ""] gs ∧ ∀ g ∈ gs, few2 g ∧ layG g (.int 1) (.str "last") = false := by
      refine ⟨_, .cons .non (.cons (.bl true) (.cons (.bl false) (.cons (.str "1") (.cons (.lst (Nat.ne_of_lt (Nat.lt_succ_self l1)) (s3 _ _ h1a) (.cons (.int 1) .nil)) (.cons (.tup (.inl (p2.same s3)) (.cons (.int 1) .nil)) (.cons (.dct (kvs := []) (by rw [upd_ne eLd.symm, upd_same]))
        (.cons (.int (-1)) (.cons (.int 0) (.cons (.int 1) (.cons (.int 99) (.cons (.int 100) (.cons (.int (10 ^ Int.toNat 30)) (.cons (.int (-(10 ^ Int.toNat 30))) (.cons (.str "") .nil)))))))))))))), fun g hg => ?_⟩
      simp only [List.mem_cons, List.not_mem_nil, or_false] at hg
      rcases hg with rfl | rfl | rfl | rfl | rfl | rfl | rfl | rfl | rfl | rfl | rfl | rfl | rfl | rfl | rfl
      all_goals first
        | exact ⟨trivial, rfl⟩
        | exact ⟨fun d hd => by rw [List.mem_singleton.mp hd]; trivial, rfl⟩
    have hSL : SqL K (upd (upd H2 d (.dK [])) L (.lst [V.non, V.bl true, V.bl false, V.str "1", V.ref l1, V.ref t1, V.ref d, V.int (-1), V.int 0, V.int 1, V.int 99, V.int 100, V.int (10 ^ Int.toNat 30), V.int (-(10 ^ Int.toNat 30)), V.str ""])) L [V.non, V.bl true, V.bl false, V.str "1", V.ref l1, V.ref t1, V.ref d, V.int (-1), V.int 0, V.int 1, V.int 99, V.int 100, V.int (10 ^ Int.toNat 30), V.int (-(10 ^ Int.toNat 30)), V.str ""] := SqL.of upd_same
    have hS3 := s3.seq (s2.seq ((same_upd nl1).seq hS))
    refine ⟨L, rfl, ⟨_, hSL⟩, ?_⟩
    generalize hH3 : upd (upd H2 d (.dK [])) L (.lst [V.non, V.bl true, V.bl false, V.str "1", V.ref l1, V.ref t1, V.ref d, V.int (-1), V.int 0, V.int 1, V.int 99, V.int 100, V.int (10 ^ Int.toNat 30), V.int (-(10 ^ Int.toNat 30)), V.str ""]) = H3 at tl hSL hS3
    refine for_list (K := K) (a := L) (xs := [V.non, V.bl true, V.bl false, V.str "1", V.ref l1, V.ref t1, V.ref d, V.int (-1), V.int 0, V.int 1, V.int 99, V.int 100, V.int (10 ^ Int.toNat 30), V.int (-(10 ^ Int.toNat 30)), V.str ""]) (fun i σ H4 => ∃ y1 y2 y3 : Option V, σ = [some (.ref a), y1, y2, y3, none, none, none, none, none, none, none, none, none, none, none] ∧ Same H3 H4)
      ⟨none, none, none, rfl, (by rw [← hH3]; exact Same.refl _)⟩ (fun i σ H4 _ ⟨_, _, _, _, s4⟩ => s4.seq hSL) ?_ ?_
    · rintro i x σ H4 hi ⟨y1, y2, y3, rfl, s4⟩
      obtain ⟨g, eg, hx⟩ := tl.get hi
      obtain ⟨hfew, hno⟩ := hN g (List.mem_of_getElem? eg)
      have hx4 := hx.keep (Keeps.same s4)
      refine ⟨_, rfl, l1 + 1, x, g, rfl, hx4, _, rfl, l1 + 1, x, g, rfl, hx4, (by show 2 ≤ sizeLine; decide), fun lf nlf => ?_⟩
      have s5 := s4.trans (same_upd (o := HO.lst [V.bl (wholeG g), V.bl (roomG g)]) nlf)
      have hlf := @upd_same H4 lf (.lst [V.bl (wholeG g), V.bl (roomG g)])
      generalize upd H4 lf (.lst [V.bl (wholeG g), V.bl (roomG g)]) = H5 at s5 hlf
      have hx5 := hx.keep (Keeps.same s5)
      refine ⟨_, rfl, l1 + 1, x, g, rfl, hx5, _, rfl, l1 + 1, x, g, rfl, hx5, _, rfl, iteB (fun e => ?_) (fun e => ?_)⟩
      rotate_left
      have z : roomG g = false := by
        cases g <;> first | rfl | cases e
      rotate_left
      obtain ⟨j, rfl, rfl⟩ := whole_int hx e
      refine ⟨_, rfl, _, _, rfl, rfl, _, rfl, iteB (fun e1 => ?_) (fun e1 => ?_)⟩
      refine ⟨_, _, rfl, rfl, ?_⟩
      have z : roomG (.int j) = decide (j ≤ 99) := by
        show (decide (0 ≤ j) && decide (j ≤ 99)) = decide (j ≤ 99)
        rw [show decide (0 ≤ j) = true from e1, Bool.true_and]
      rotate_left
      have z : roomG (.int j) = false := by
        show (decide (0 ≤ j) && decide (j ≤ 99)) = false
        rw [show decide (0 ≤ j) = false from e1, Bool.false_and]
      all_goals
        refine ⟨(by show 2 ≤ sizeLine; decide), fun ld nld => ?_⟩
        have e5 : lf ≠ ld := ne_of_none hlf nld
        refine ⟨_, rfl, lf, .list [.bool _, .bool _], 1, 2, rfl, .lst (SqL.of (by rw [upd_ne e5]; exact hlf)) (.cons (.bl _) (.cons (.bl _) .nil)), Fine.list (FineL.cons (Fine.bool _) (FineL.cons (Fine.bool _) FineL.nil)), by decide, by decide, ?_⟩
        refine ⟨_, rfl, ld, .list [.bool _, .bool _], 1, 2, rfl, .lst (SqL.of upd_same) (.cons (.bl _) (.cons (.bl _) .nil)), Fine.list (FineL.cons (Fine.bool _) (FineL.cons (Fine.bool _) FineL.nil)), by decide, by decide, rfl, _, rfl, ?_⟩
        refine iteNS (congrArg (fun b => V.str (PyData.list [.bool (wholeG _), .bool b]).shown) z) ?_
        refine ⟨_, rfl, l1 + 1, _, _, _, _, .int 1, .str "last", rfl, hx.keep (Keeps.same (s5.trans (same_upd nld))), .int 1, .str "last", hfew, fun H7 s7 => ?_⟩
        refine ⟨_, _, rfl, rfl, _, rfl, iteNS hno ?_⟩
        exact ⟨_, _, _, rfl, (s5.trans (same_upd nld)).trans s7⟩
    · rintro σ H4 ⟨y1, y2, y3, rfl, s4⟩
      have hS4 := s4.seq hS3
      clear tl hN hSL hS3 s3 s2 p2
      obtain ⟨m, hm, hm2⟩ : ∃ m : Nat, (if (if (12 : Int) < ((ns.map V.int).length : Int) then 12 else ((ns.map V.int).length : Int)) > 1 then (if (12 : Int) < ((ns.map V.int).length : Int) then 12 else ((ns.map V.int).length : Int)) else 1) = (m : Int) ∧ m ≤ 12 := by
        rw [List.length_map]
        refine ⟨(if (if (12 : Int) < (ns.length : Int) then 12 else (ns.length : Int)) > 1 then (if (12 : Int) < (ns.length : Int) then 12 else (ns.length : Int)) else 1).toNat, ?_, ?_⟩
        all_goals
          by_cases e1 : (12 : Int) < (ns.length : Int)
          · simp only [e1, if_true]
            decide
          · simp only [e1, if_false]
            split <;> omega
      refine ⟨_, rfl, a, _, rfl, .inl hS4, _, _, rfl, _, _, rfl, ?_⟩
      refine ⟨(m : Int), congrArg (fun z => [V.int z]) hm, by omega, by omega, ?_⟩
      rw [show ((m : Int)).toNat = m by omega]
      refine for_range (lo := 0) (n := m) (fun i σ Hs => ∃ y1 y2 y3 y4 y5 y6 y7 y8 y9 y10 y11 y12 y13 y14 : Option V, σ = [some (.ref a), y1, y2, y3, y4, y5, y6, y7, y8, y9, y10, y11, y12, y13, y14] ∧ SqL K Hs a (ns.map V.int)) ?_ ?_ ?_
      · exact ⟨_, _, _, _, _, _, _, _, _, _, _, _, _, _, rfl, hS4⟩
      · rintro i σ Hs hi ⟨y1, y2, y3, y4, y5, y6, y7, y8, y9, y10, y11, y12, y13, y14, rfl, hSs⟩
        refine ⟨_, rfl, _, rfl, a, ns, _, rfl, hSs, by omega, by omega, fun p H1 s1 np hp1 => ?_⟩
        have back : ∀ {Hn : Hp}, Kept p H1 Hn → SqL K Hn a (ns.map V.int) := fun {Hn} k => Same.seq (fun b o e => k b o (s1 b o e) (ne_of_none e np)) hSs
        refine ⟨_, rfl, p, rfl, hp1, fun way H2 k2 hp2 hway => ?_⟩
        refine ⟨_, rfl, _, rfl, p, way, rfl, hp2, fun nb H3 k3 hp3 nb1 nb8 hbig => ?_⟩
        obtain ⟨n, rfl⟩ : ∃ n : Nat, nb = (n : Int) := ⟨nb.toNat, by omega⟩
        have k13 : Kept p H1 H3 := k2.trans k3
        -- cells
        refine ⟨_, rfl, _, rfl, _, rfl, p, _, rfl, hp3, by decide, fun sm H4 ms nsm k4 hp4 hsm nd hrg hml _ => ?_⟩
        refine ⟨p, sm, n, ms, rfl, hp4, SqL.of hsm, nd, hrg, ?_, by omega, fun ca H5 xs nca k5 hp5 pca hsl => ?_⟩
        · have : ms.length ≤ 9 := by
            rw [hml]
            exact Nat.min_le_left _ _
          omega
        -- marks
        refine ⟨_, rfl, _, rfl, _, rfl, p, n, way, rfl, hp5, by omega, by omega, fun ma H6 bs nma k6 hp6 pma hb1 hb2 => ?_⟩
        have k16 : Kept p H1 H6 := ((k13.trans k4).trans k5).trans k6
        have pca6 := pca.kept k6 hp5
        have hxl : xs.length = n := hsl.len
        have hbl : bs.length ≤ 8 ∧ ∀ x ∈ bs, x = 0 ∨ x = 1 := by
          by_cases e : way = "tree"
          · have b := hb1 e
            exact ⟨by rw [b.len]; omega, b.rng⟩
          · rw [hb2 e]
            exact ⟨Nat.zero_le _, fun x hx => (List.not_mem_nil hx).elim⟩
        have hxi : ∀ i ∈ xs, -1000000 ≤ i ∧ i ≤ 1000000 := fun i hi => by
          have := hsl.rng i hi
          omega
        have hbi : ∀ i ∈ bs, -1000000 ≤ i ∧ i ≤ 1000000 := fun i hi => by
          have := hbl.2 i hi
          omega
        clear pca k2 k3 k4 k5 k6 hp2 hp3 hp4 hp5 hsm k13
        -- odd
        refine ⟨(by show 1 ≤ sizeLine; decide), fun l2 nl2 => ?_⟩
        refine ⟨_, rfl, (by show 8 ≤ sizeLine; decide), fun lo nlo => ?_⟩
        have e2p : l2 ≠ p := pool_ne hp6 nl2
        obtain ⟨elo, nlo2⟩ := free_upd nlo
        have eop : lo ≠ p := pool_ne hp6 nlo2
        have hp7 : PoolAt (upd H6 l2 (.lst [V.int 2])) p := hp6.upd e2p.symm
        have t8 : ∃ gs, TgL p (upd H6 l2 (.lst [V.int 2])) [V.int 0, V.int 9, V.bl true, V.non, V.str "4", V.int 3, V.ref l2, V.int (n : Int)] gs :=
          ⟨_, .cons (.int 0) (.cons (.int 9) (.cons (.bl true) (.cons .non (.cons (.str "4") (.cons (.int 3) (.cons (.lst e2p upd_same (.cons (.int 2) .nil)) (.cons (.int (n : Int)) .nil)))))))⟩
        refine ⟨_, rfl, p, _, rfl, hp7.upd eop.symm, by decide, by decide, fun r2 o2 r20 r21 po2 => ?_⟩
        obtain ⟨vo, hvo, evo⟩ := cons_nil_fin (xs := [V.int 0, V.int 9, V.bl true, V.non, V.str "4", V.int 3, V.ref l2, V.int (n : Int)]) 8 rfl r20 r21
        refine ⟨lo, _, r2, vo, rfl, rfl, SqL.of (by rw [upd_ne eop, upd_same]), evo, ?_⟩
        obtain ⟨go, tgo⟩ : ∃ g, Tg p (upd H6 l2 (.lst [V.int 2])) vo g := by
          obtain ⟨gs, tl⟩ := t8
          obtain ⟨j, hj⟩ := List.mem_iff_getElem?.mp hvo
          obtain ⟨g, _, hg⟩ := tl.get hj
          exact ⟨g, hg⟩
        have tgo2 := (tgo.keep (Keeps.same (same_upd nlo))).keep (Keeps.of (Kept.upd p _ o2) (hp7.upd (o := HO.lst [V.int 0, V.int 9, V.bl true, V.non, V.str "4", V.int 3, V.ref l2, V.int (n : Int)]) eop.symm))
        have k8 : Kept p H6 (upd (upd (upd H6 l2 (.lst [V.int 2])) lo (.lst [V.int 0, V.int 9, V.bl true, V.non, V.str "4", V.int 3, V.ref l2, V.int (n : Int)])) p o2) := (Kept.same ((same_upd nl2).trans (same_upd nlo))).trans (Kept.upd p _ o2)
        have hp8 : PoolAt (upd (upd (upd H6 l2 (.lst [V.int 2])) lo (.lst [V.int 0, V.int 9, V.bl true, V.non, V.str "4", V.int 3, V.ref l2, V.int (n : Int)])) p o2) p := ⟨o2, upd_same, po2⟩
        generalize upd (upd (upd H6 l2 (.lst [V.int 2])) lo (.lst [V.int 0, V.int 9, V.bl true, V.non, V.str "4", V.int 3, V.ref l2, V.int (n : Int)])) p o2 = H8 at tgo2 k8 hp8
        clear t8 tgo hvo evo hp7
        -- other
        refine ⟨(by show 1 ≤ sizeLine; decide), fun l3 nl3 => ?_⟩
        refine ⟨(by show 8 ≤ sizeLine; decide), fun lq nlq => ?_⟩
        have e3p : l3 ≠ p := pool_ne hp8 nl3
        obtain ⟨elq, nlq2⟩ := free_upd nlq
        have eqp : lq ≠ p := pool_ne hp8 nlq2
        have hp9 : PoolAt (upd H8 l3 (.lst [V.str "last"])) p := hp8.upd e3p.symm
        have t8 : ∃ gs, TgL p (upd H8 l3 (.lst [V.str "last"])) [V.str "Last", V.non, V.ref l3, V.str "", V.str "first", V.str "tree", V.str "last", V.int 1] gs :=
          ⟨_, .cons (.str "Last") (.cons .non (.cons (.lst e3p upd_same (.cons (.str "last") .nil)) (.cons (.str "") (.cons (.str "first") (.cons (.str "tree") (.cons (.str "last") (.cons (.int 1) .nil)))))))⟩
        refine ⟨_, rfl, p, _, rfl, hp9.upd eqp.symm, by decide, by decide, fun r3 o3 r30 r31 po3 => ?_⟩
        obtain ⟨vq, hvq, evq⟩ := cons_nil_fin (xs := [V.str "Last", V.non, V.ref l3, V.str "", V.str "first", V.str "tree", V.str "last", V.int 1]) 8 rfl r30 r31
        refine ⟨lq, _, r3, vq, rfl, rfl, SqL.of (by rw [upd_ne eqp, upd_same]), evq, ?_⟩
        obtain ⟨gq, tgq⟩ : ∃ g, Tg p (upd H8 l3 (.lst [V.str "last"])) vq g := by
          obtain ⟨gs, tl⟩ := t8
          obtain ⟨j, hj⟩ := List.mem_iff_getElem?.mp hvq
          obtain ⟨g, _, hg⟩ := tl.get hj
          exact ⟨g, hg⟩
        have tgq2 := (tgq.keep (Keeps.same (same_upd nlq))).keep (Keeps.of (Kept.upd p _ o3) (hp9.upd (o := HO.lst [V.str "Last", V.non, V.ref l3, V.str "", V.str "first", V.str "tree", V.str "last", V.int 1]) eqp.symm))
        have kA : Kept p H8 (upd (upd (upd H8 l3 (.lst [V.str "last"])) lq (.lst [V.str "Last", V.non, V.ref l3, V.str "", V.str "first", V.str "tree", V.str "last", V.int 1])) p o3) := (Kept.same ((same_upd nl3).trans (same_upd nlq))).trans (Kept.upd p _ o3)
        have hpA : PoolAt (upd (upd (upd H8 l3 (.lst [V.str "last"])) lq (.lst [V.str "Last", V.non, V.ref l3, V.str "", V.str "first", V.str "tree", V.str "last", V.int 1])) p o3) p := ⟨o3, upd_same, po3⟩
        generalize upd (upd (upd H8 l3 (.lst [V.str "last"])) lq (.lst [V.str "Last", V.non, V.ref l3, V.str "", V.str "first", V.str "tree", V.str "last", V.int 1])) p o3 = HA at tgq2 kA hpA
        clear t8 tgq hvq evq hp9
        have pcaA := (pca6.kept k8 hp6).kept kA hp8
        have pmaA := (pma.kept k8 hp6).kept kA hp8
        have tgoA := tgo2.keep (Keeps.of kA hp8)
        have k1A : Kept p H1 HA := (k16.trans k8).trans kA
        clear tgo2 k8 kA k16 pca6 pma hp6 hp8
        -- the things
        refine ⟨_, rfl, _, rfl, (by show 2 ≤ sizeLine; decide), fun tA HB sB nB ptA => ?_⟩
        have mca : ∀ {Hn : Hp}, PTup Hn ca (xs.map V.int) → Mid p Hn (.ref ca) := fun h => Mid.tup (.inl h) (ElemL.ints xs hxi) (by rw [List.length_map]; omega)
        have mma : ∀ {Hn : Hp}, PTup Hn ma (bs.map V.int) → Mid p Hn (.ref ma) := fun h => Mid.tup (.inl h) (ElemL.ints bs hbi) (by rw [List.length_map]; omega)
        have goodA : Good p HB (.ref tA) := Good.tup ptA (.cons (mca (pcaA.same sB)) (.cons (mma (pmaA.same sB)) .nil)) (by show 2 ≤ 3; decide)
        refine ⟨_, rfl, _, rfl, _, rfl, p, ca, ma, xs, bs, rfl, hpA.same sB, pcaA.same sB, pmaA.same sB, by omega, by omega, hbl.1, hsl.rng, hbl.2, fun vb HC kC hpC goodB => ?_⟩
        refine ⟨1, rfl, (by show 1 ≤ sizeLine; decide), fun tm HD sD nD ptm => ?_⟩
        refine ⟨_, rfl, tm, (n : Int), rfl, rfl, ptm, by omega, by omega, fun tw HE sE twE => ?_⟩
        have kBE : Keeps p HB HC := Keeps.of kC (hpA.same sB)
        have pmaE : PTup HE ma (bs.map V.int) := (((pmaA.same sB).kept kC (hpA.same sB)).same sD).same sE
        refine ⟨_, rfl, (by show 2 ≤ sizeLine; decide), fun tC HF sF nF ptC => ?_⟩
        have mtw : Mid p HF (.ref tw) := Mid.tup ((Keeps.same (p := p) sF).tw _ _ twE) (by
          rw [← List.map_replicate]
          exact ElemL.ints _ fun i hi => by
            rw [List.eq_of_mem_replicate hi]
            decide) (by rw [List.length_replicate]; omega)
        have goodC : Good p HF (.ref tC) := Good.tup ptC (.cons mtw (.cons (mma (pmaE.same sF)) .nil)) (by show 2 ≤ 3; decide)
        have sCF : Same HC HF := (sD.trans sE).trans sF
        refine ⟨(by show 3 ≤ sizeLine; decide), fun LT nLT => ?_⟩
        have sFG := same_upd (o := HO.lst [V.ref tA, vb, V.ref tC]) nLT
        have hLT := @upd_same HF LT (.lst [V.ref tA, vb, V.ref tC])
        generalize upd HF LT (.lst [V.ref tA, vb, V.ref tC]) = HG at sFG hLT
        have sCG : Same HC HG := sCF.trans sFG
        have all : AllG p HG [V.ref tA, vb, V.ref tC] := fun x hx => by
          simp only [List.mem_cons, List.not_mem_nil, or_false] at hx
          rcases hx with rfl | rfl | rfl
          · exact (goodA.keep kBE).keep (Keeps.same sCG)
          · exact goodB.keep (Keeps.same sCG)
          · exact goodC.keep (Keeps.same sFG)
        have tgoG := ((tgoA.keep (Keeps.same sB)).keep kBE).keep (Keeps.same sCG)
        have tgqG := ((tgq2.keep (Keeps.same sB)).keep kBE).keep (Keeps.same sCG)
        have k1G : Kept p H1 HG := ((k1A.trans (Kept.same sB)).trans kC).trans (Kept.same sCG)
        refine ⟨LT, rfl, ⟨_, SqL.of hLT⟩, for_list (K := K) (a := LT) (xs := [V.ref tA, vb, V.ref tC]) (fun j σ HH => ∃ z1 z2 z3 z12 z13 z14 : Option V, σ = [some (.ref a), z1, z2, z3, some (.int (0 + (i : Int))), some (.ref p), some (.str way), some (.int (n : Int)), some (.ref ca), some (.ref ma), some vo, some vq, z12, z13, z14] ∧ Same HG HH)
          ⟨_, _, _, _, _, _, rfl, Same.refl HG⟩ (fun j σ HH _ ⟨_, _, _, _, _, _, _, sH⟩ => SqL.of (sH _ _ hLT)) ?_ ?_⟩
        · rintro j x σ HH hj ⟨z1, z2, z3, z12, z13, z14, rfl, sH⟩
          obtain ⟨g, hx, ok⟩ := (all x (List.mem_of_getElem? hj)).keep (Keeps.same sH)
          refine ⟨_, rfl, p, x, g, rfl, hx, ok, ?_⟩
          refine ⟨_, rfl, _, rfl, (by show 2 ≤ sizeLine; decide), fun u1 HI sI nI pI => ?_⟩
          refine ⟨_, rfl, _, rfl, (by show 2 ≤ sizeLine; decide), fun u2 HJ sJ nJ pJ => ?_⟩
          refine ⟨_, rfl, _, rfl, (by show 2 ≤ sizeLine; decide), fun u3 HK sK nK pK => ?_⟩
          refine ⟨(by show 3 ≤ sizeLine; decide), fun LP nLP => ?_⟩
          have sKL := same_upd (o := HO.lst [V.ref u1, V.ref u2, V.ref u3]) nLP
          have hLP := @upd_same HK LP (.lst [V.ref u1, V.ref u2, V.ref u3])
          generalize upd HK LP (.lst [V.ref u1, V.ref u2, V.ref u3]) = HL at sKL hLP
          have sJL := sK.trans sKL
          have sIL := sJ.trans sJL
          have sHL : Same HH HL := sI.trans sIL
          have pairs : ∀ y ∈ [V.ref u1, V.ref u2, V.ref u3], ∃ u v1 v2 g1 g2, y = .ref u ∧ PTup HL u [v1, v2] ∧ Tg p HL v1 g1 ∧ Tg p HL v2 g2 := fun y hy => by
            simp only [List.mem_cons, List.not_mem_nil, or_false] at hy
            rcases hy with rfl | rfl | rfl
            · exact ⟨_, _, _, _, _, rfl, pI.same sIL, .int _, .str _⟩
            · exact ⟨_, _, _, _, _, rfl, pJ.same sJL, tgoG.keep (Keeps.same (sH.trans sHL)), .str _⟩
            · exact ⟨_, _, _, _, _, rfl, pK.same sKL, .int _, tgqG.keep (Keeps.same (sH.trans sHL))⟩
          refine ⟨LP, rfl, ⟨_, SqL.of hLP⟩, for_list (K := K) (a := LP) (xs := [V.ref u1, V.ref u2, V.ref u3]) (fun jj σ HM => ∃ z2 z13 z14 : Option V, σ = [some (.ref a), some x, z2, z3, some (.int (0 + (i : Int))), some (.ref p), some (.str way), some (.int (n : Int)), some (.ref ca), some (.ref ma), some vo, some vq, some (.str (toD g).shown), z13, z14] ∧ Same HL HM)
            ⟨_, _, _, rfl, Same.refl HL⟩ (fun jj σ HM _ ⟨_, _, _, _, sM⟩ => SqL.of (sM _ _ hLP)) ?_ ?_⟩
          · rintro jj y σ HM hjj ⟨z2, z13, z14, rfl, sM⟩
            obtain ⟨u, v1, v2, g1, g2, rfl, pu, hg1, hg2⟩ := pairs y (List.mem_of_getElem? hjj)
            have sHM := sHL.trans sM
            refine ⟨u, _, rfl, (pu.same sM).sq, rfl, _, _, rfl, _, _, rfl, rfl, ?_⟩
            refine ⟨_, rfl, _, rfl, _, rfl, p, x, v1, v2, g, g1, g2, rfl, hx.keep (Keeps.same sHM), hg1.keep (Keeps.same sM), hg2.keep (Keeps.same sM), ok.few, fun HN sN => ?_⟩
            refine ⟨_, rfl, .bl (layG g g1 g2), .ty "bool", .type "bool", .type "bool", true, rfl, .ty "bool", .base (.bl _), kit_ty (by decide +kernel), _, rfl, iteF ?_⟩
            have sMN := sM.trans sN
            refine ⟨_, rfl, _, rfl, _, rfl, _, rfl, p, x, v1, v2, g, g1, g2, rfl, hx.keep (Keeps.same (sHM.trans sN)), hg1.keep (Keeps.same sMN), hg2.keep (Keeps.same sMN), ok.l, fun HO' sO => ?_⟩
            refine ⟨rfl, _, rfl, iteNS rfl ?_⟩
            refine ⟨_, rfl, p, x, g, rfl, hx.keep (Keeps.same ((sHM.trans sN).trans sO)), ok, _, rfl, rfl, _, rfl, iteNS rfl ?_⟩
            exact ⟨_, _, _, rfl, sMN.trans sO⟩
          · rintro σ HM ⟨z2, z13, z14, rfl, sM⟩
            exact ⟨_, _, _, _, _, _, rfl, (sH.trans sHL).trans sM⟩
        · rintro σ HH ⟨z1, z2, z3, z12, z13, z14, rfl, sH⟩
          exact ⟨_, _, _, _, _, _, _, _, _, _, _, _, _, _, rfl, back (k1G.trans (Kept.same sH))⟩
      · rintro σ Hs ⟨y1, y2, y3, y4, y5, y6, y7, y8, y9, y10, y11, y12, y13, y14, rfl, hSs⟩
        refine ⟨(by show 1 ≤ sizeLine; decide), fun v5 H5 s5 n5 p5 => ?_⟩
        refine ⟨(by show 0 ≤ sizeLine; decide), fun v6 H6 s6 n6 p6 => ?_⟩
        refine ⟨(by show 2 ≤ sizeLine; decide), fun v7 H7 s7 n7 p7 => ?_⟩
        refine ⟨0, .ref v7, .int 1, .str "last", .tup [.tup [.int 5], .tup []], .int 1, .str "last", rfl, .tup (.inl p7) (.cons (.tup (.inl ((p5.same s6).same s7)) (.cons (.int 5) .nil)) (.cons (.tup (.inl (p6.same s7)) .nil) .nil)), .int 1, .str "last", ?_, fun H8 s8 => ?_⟩
        · intro d hd
          simp only [List.mem_cons, List.not_mem_nil, or_false] at hd
          rcases hd with rfl | rfl
          · show 1 ≤ 100
            decide
          · show 0 ≤ 100
            decide
        have z : layG (.tup [.tup [.int 5], .tup []]) (.int 1) (.str "last") = true := by decide +kernel
        rw [z]
        exact ⟨_, _, rfl, rfl, q H8⟩
end
end Su
namespace Su
open PySem PySem.Spec PyProof.Rows L2
theorem at_mk {K : PySem.W.Frag} {h : Heap} {mg : Str → Option Value} {x : Str} {st : Stmt} {f : Addr} {fd : FuncData} {ps : List Str} (X : K.In h) (G : h.Ns mainGlobals mg) (a : PySem.W.nsIn K mainGlobals x = some (some (.ref f))) (F : Fun K x x st f fd) (b : Binds K fd ps []) : At K mg x st ps :=
  ⟨f, fd, F, PySem.W.mg_of X G a, b⟩
def gLayW : List Value → List Value → List Value
  | [a], [b, c] => [a, c, b]
  | _, _ => []
theorem gLay_rel {vs zs : List V} {us ws : List Value} (r : Vals vs us) (z : Vals zs ws) : Vals (gLay vs zs) (gLayW us ws) := by
  cases r with
  | nil => exact .nil
  | cons h0 t0 =>
    cases t0 with
    | cons _ _ => exact .nil
    | nil =>
      cases z with
      | nil => exact .nil
      | cons h1 t1 =>
        cases t1 with
        | nil => exact .nil
        | cons h2 t2 =>
          cases t2 with
          | nil => exact .cons h0 (.cons h2 (.cons h1 .nil))
          | cons h3 t3 => exact .nil
theorem all_mk {l : PySem.W.OpenLaw} {w : World} {K : PySem.W.Frag} {h : Heap} {mg : Str → Option Value} {fa aW aZ f1 f2 f3 f4 f5 f6 f7 f8 f9 f10 f11 f12 f13 f14 f15 f16 f17 f18 f19 f20 f21 f22 : Addr} {g1 g2 g3 u1 u2 u3 u4 u5 u6 u7 : Tok} {dW dZ : Option Addr} {nW nZ : Nat} {slW slZ : Array (Option Value)} (X : K.In h) (G : h.Ns mainGlobals mg) (hfa : mg "law" = some (.ref fa))
    {od1 an1 od2 an2 od3 an3 od4 an4 od5 an5 od6 an6 od7 an7 od8 an8 od9 an9 od10 an10 od11 an11 od12 an12 od13 an13 od14 an14 od15 an15 od16 an16 od17 an17 od18 an18 od19 an19 od20 an20 od21 an21 od22 an22 : Option Addr} {sl1 sl2 sl3 sl4 sl5 sl6 sl7 sl8 sl9 sl10 sl11 sl12 sl13 sl14 sl15 sl16 sl17 sl18 sl19 sl20 sl21 sl22 : Array (Option Value)} {oc1 kV1 dc1 pm1 cd1 ct1 oc2 kV2 dc2 pm2 cd2 ct2 oc3 kV3 dc3 pm3 cd3 ct3 oc4 kV4 dc4 pm4 cd4 ct4 oc5 kV5 dc5 pm5 cd5 ct5 oc6 kV6 dc6 pm6 cd6 ct6 oc7 kV7 dc7 pm7 cd7 ct7 oc8 kV8 dc8 pm8 cd8 ct8 oc9 kV9 dc9 pm9 cd9 ct9 oc10 kV10 dc10 pm10 cd10 ct10 oc11 kV11 dc11 pm11 cd11 ct11 oc12 kV12 dc12 pm12 cd12 ct12 oc13 kV13 dc13 pm13 cd13 ct13 oc14 kV14 dc14 pm14 cd14 ct14 oc15 kV15 dc15 pm15 cd15 ct15 oc16 kV16 dc16 pm16 cd16 ct16 oc17 kV17 dc17 pm17 cd17 ct17 oc18 kV18 dc18 pm18 cd18 ct18 oc19 kV19 dc19 pm19 cd19 ct19 oc20 kV20 dc20 pm20 cd20 ct20 oc21 kV21 dc21 pm21 cd21 ct21 oc22 kV22 dc22 pm22 cd22 ct22 : Value}
    (a1 : PySem.W.nsIn K mainGlobals "is_whole" = some (some (.ref f1))) (l1 : K.lookup f1 = some ⟨oc1, od1, .func (PySem.W.fnOf "is_whole" "is_whole" (defArgs sIsWhole) (defBody sIsWhole) (defScope sIsWhole) .none kV1 dc1 pm1 an1 cd1 ct1), sl1⟩) (c1 : PySem.W.codeIn K cd1 "is_whole" = true) (k1 : PySem.W.keepIn K (.ref f1) = true)
    (a2 : PySem.W.nsIn K mainGlobals "is_room" = some (some (.ref f2))) (l2 : K.lookup f2 = some ⟨oc2, od2, .func (PySem.W.fnOf "is_room" "is_room" (defArgs sIsRoom) (defBody sIsRoom) (defScope sIsRoom) .none kV2 dc2 pm2 an2 cd2 ct2), sl2⟩) (c2 : PySem.W.codeIn K cd2 "is_room" = true) (k2 : PySem.W.keepIn K (.ref f2) = true)
    (a3 : PySem.W.nsIn K mainGlobals "is_way" = some (some (.ref f3))) (l3 : K.lookup f3 = some ⟨oc3, od3, .func (PySem.W.fnOf "is_way" "is_way" (defArgs sIsWay) (defBody sIsWay) (defScope sIsWay) .none kV3 dc3 pm3 an3 cd3 ct3), sl3⟩) (c3 : PySem.W.codeIn K cd3 "is_way" = true) (k3 : PySem.W.keepIn K (.ref f3) = true)
    (a4 : PySem.W.nsIn K mainGlobals "is_size" = some (some (.ref f4))) (l4 : K.lookup f4 = some ⟨oc4, od4, .func (PySem.W.fnOf "is_size" "is_size" (defArgs sIsSize) (defBody sIsSize) (defScope sIsSize) .none kV4 dc4 pm4 an4 cd4 ct4), sl4⟩) (c4 : PySem.W.codeIn K cd4 "is_size" = true) (k4 : PySem.W.keepIn K (.ref f4) = true)
    (a5 : PySem.W.nsIn K mainGlobals "how_many_bits" = some (some (.ref f5))) (l5 : K.lookup f5 = some ⟨oc5, od5, .func (PySem.W.fnOf "how_many_bits" "how_many_bits" (defArgs sHowMany) (defBody sHowMany) (defScope sHowMany) .none kV5 dc5 pm5 an5 cd5 ct5), sl5⟩) (c5 : PySem.W.codeIn K cd5 "how_many_bits" = true) (k5 : PySem.W.keepIn K (.ref f5) = true)
    (a6 : PySem.W.nsIn K mainGlobals "is_slot" = some (some (.ref f6))) (l6 : K.lookup f6 = some ⟨oc6, od6, .func (PySem.W.fnOf "is_slot" "is_slot" (defArgs sIsSlot) (defBody sIsSlot) (defScope sIsSlot) .none kV6 dc6 pm6 an6 cd6 ct6), sl6⟩) (c6 : PySem.W.codeIn K cd6 "is_slot" = true) (k6 : PySem.W.keepIn K (.ref f6) = true)
    (a7 : PySem.W.nsIn K mainGlobals "is_bit" = some (some (.ref f7))) (l7 : K.lookup f7 = some ⟨oc7, od7, .func (PySem.W.fnOf "is_bit" "is_bit" (defArgs sIsBit) (defBody sIsBit) (defScope sIsBit) .none kV7 dc7 pm7 an7 cd7 ct7), sl7⟩) (c7 : PySem.W.codeIn K cd7 "is_bit" = true) (k7 : PySem.W.keepIn K (.ref f7) = true)
    (a8 : PySem.W.nsIn K mainGlobals "are_slots" = some (some (.ref f8))) (l8 : K.lookup f8 = some ⟨oc8, od8, .func (PySem.W.fnOf "are_slots" "are_slots" (defArgs sAreSlots) (defBody sAreSlots) (defScope sAreSlots) .none kV8 dc8 pm8 an8 cd8 ct8), sl8⟩) (c8 : PySem.W.codeIn K cd8 "are_slots" = true) (k8 : PySem.W.keepIn K (.ref f8) = true)
    (a9 : PySem.W.nsIn K mainGlobals "are_bits" = some (some (.ref f9))) (l9 : K.lookup f9 = some ⟨oc9, od9, .func (PySem.W.fnOf "are_bits" "are_bits" (defArgs sAreBits) (defBody sAreBits) (defScope sAreBits) .none kV9 dc9 pm9 an9 cd9 ct9), sl9⟩) (c9 : PySem.W.codeIn K cd9 "are_bits" = true) (k9 : PySem.W.keepIn K (.ref f9) = true)
    (a10 : PySem.W.nsIn K mainGlobals "is_lay" = some (some (.ref f10))) (l10 : K.lookup f10 = some ⟨oc10, od10, .func (PySem.W.fnOf "is_lay" "is_lay" (defArgs sIsLay) (defBody sIsLay) (defScope sIsLay) .none kV10 dc10 pm10 an10 cd10 ct10), sl10⟩) (c10 : PySem.W.codeIn K cd10 "is_lay" = true) (k10 : PySem.W.keepIn K (.ref f10) = true)
    (a11 : PySem.W.nsIn K mainGlobals "_law_pool" = some (some (.ref f11))) (l11 : K.lookup f11 = some ⟨oc11, od11, .func (PySem.W.fnOf "_law_pool" "_law_pool" (defArgs sPool) (defBody sPool) (defScope sPool) .none kV11 dc11 pm11 an11 cd11 ct11), sl11⟩) (c11 : PySem.W.codeIn K cd11 "_law_pool" = true) (k11 : PySem.W.keepIn K (.ref f11) = true)
    (a12 : PySem.W.nsIn K mainGlobals "_law_take" = some (some (.ref f12))) (l12 : K.lookup f12 = some ⟨oc12, od12, .func (PySem.W.fnOf "_law_take" "_law_take" (defArgs sTake) (defBody sTake) (defScope sTake) .none kV12 dc12 pm12 an12 cd12 ct12), sl12⟩) (c12 : PySem.W.codeIn K cd12 "_law_take" = true) (k12 : PySem.W.keepIn K (.ref f12) = true)
    (a13 : PySem.W.nsIn K mainGlobals "_law_whole" = some (some (.ref f13))) (l13 : K.lookup f13 = some ⟨oc13, od13, .func (PySem.W.fnOf "_law_whole" "_law_whole" (defArgs sWhole) (defBody sWhole) (defScope sWhole) .none kV13 dc13 pm13 an13 cd13 ct13), sl13⟩) (c13 : PySem.W.codeIn K cd13 "_law_whole" = true) (k13 : PySem.W.keepIn K (.ref f13) = true)
    (a14 : PySem.W.nsIn K mainGlobals "_law_picked" = some (some (.ref f14))) (l14 : K.lookup f14 = some ⟨oc14, od14, .func (PySem.W.fnOf "_law_picked" "_law_picked" (defArgs sPicked) (defBody sPicked) (defScope sPicked) .none kV14 dc14 pm14 an14 cd14 ct14), sl14⟩) (c14 : PySem.W.codeIn K cd14 "_law_picked" = true) (k14 : PySem.W.keepIn K (.ref f14) = true)
    (a15 : PySem.W.nsIn K mainGlobals "_law_places" = some (some (.ref f15))) (l15 : K.lookup f15 = some ⟨oc15, od15, .func (PySem.W.fnOf "_law_places" "_law_places" (defArgs sPlaces) (defBody sPlaces) (defScope sPlaces) .none kV15 dc15 pm15 an15 cd15 ct15), sl15⟩) (c15 : PySem.W.codeIn K cd15 "_law_places" = true) (k15 : PySem.W.keepIn K (.ref f15) = true)
    (a16 : PySem.W.nsIn K mainGlobals "_law_sort" = some (some (.ref f16))) (l16 : K.lookup f16 = some ⟨oc16, od16, .func (PySem.W.fnOf "_law_sort" "_law_sort" (defArgs sSort) (defBody sSort) (defScope sSort) .none kV16 dc16 pm16 an16 cd16 ct16), sl16⟩) (c16 : PySem.W.codeIn K cd16 "_law_sort" = true) (k16 : PySem.W.keepIn K (.ref f16) = true)
    (a17 : PySem.W.nsIn K mainGlobals "_law_big" = some (some (.ref f17))) (l17 : K.lookup f17 = some ⟨oc17, od17, .func (PySem.W.fnOf "_law_big" "_law_big" (defArgs sBig) (defBody sBig) (defScope sBig) .none kV17 dc17 pm17 an17 cd17 ct17), sl17⟩) (c17 : PySem.W.codeIn K cd17 "_law_big" = true) (k17 : PySem.W.keepIn K (.ref f17) = true)
    (a18 : PySem.W.nsIn K mainGlobals "_law_cells" = some (some (.ref f18))) (l18 : K.lookup f18 = some ⟨oc18, od18, .func (PySem.W.fnOf "_law_cells" "_law_cells" (defArgs sCells) (defBody sCells) (defScope sCells) .none kV18 dc18 pm18 an18 cd18 ct18), sl18⟩) (c18 : PySem.W.codeIn K cd18 "_law_cells" = true) (k18 : PySem.W.keepIn K (.ref f18) = true)
    (a19 : PySem.W.nsIn K mainGlobals "_law_marks" = some (some (.ref f19))) (l19 : K.lookup f19 = some ⟨oc19, od19, .func (PySem.W.fnOf "_law_marks" "_law_marks" (defArgs sMarks) (defBody sMarks) (defScope sMarks) .none kV19 dc19 pm19 an19 cd19 ct19), sl19⟩) (c19 : PySem.W.codeIn K cd19 "_law_marks" = true) (k19 : PySem.W.keepIn K (.ref f19) = true)
    (a20 : PySem.W.nsIn K mainGlobals "_law_is_lay" = some (some (.ref f20))) (l20 : K.lookup f20 = some ⟨oc20, od20, .func (PySem.W.fnOf "_law_is_lay" "_law_is_lay" (defArgs sLawLay) (defBody sLawLay) (defScope sLawLay) .none kV20 dc20 pm20 an20 cd20 ct20), sl20⟩) (c20 : PySem.W.codeIn K cd20 "_law_is_lay" = true) (k20 : PySem.W.keepIn K (.ref f20) = true)
    (a21 : PySem.W.nsIn K mainGlobals "_law_bent" = some (some (.ref f21))) (l21 : K.lookup f21 = some ⟨oc21, od21, .func (PySem.W.fnOf "_law_bent" "_law_bent" (defArgs sBent) (defBody sBent) (defScope sBent) .none kV21 dc21 pm21 an21 cd21 ct21), sl21⟩) (c21 : PySem.W.codeIn K cd21 "_law_bent" = true) (k21 : PySem.W.keepIn K (.ref f21) = true)
    (a22 : PySem.W.nsIn K mainGlobals "law" = some (some (.ref f22))) (l22 : K.lookup f22 = some ⟨oc22, od22, .func (PySem.W.fnOf "law" "law" (defArgs sLaw) (defBody sLaw) (defScope sLaw) .none kV22 dc22 pm22 an22 cd22 ct22), sl22⟩) (c22 : PySem.W.codeIn K cd22 "law" = true) (k22 : PySem.W.keepIn K (.ref f22) = true)
    (m1 : PySem.W.nsIn K mainGlobals "LAST_ROOM" = some (some (.int 99 g1))) (m2 : PySem.W.nsIn K mainGlobals "MOST_SLOTS" = some (some (.int 8 g2))) (m3 : PySem.W.nsIn K mainGlobals "EMPTY" = some (some (.int (-1) g3)))
    (m4 : PySem.W.nsIn K mainGlobals "WAYS" = some (some (.ref aW))) (m5 : K.lookup aW = some ⟨.type "tuple", dW, .seq #[.str "last" u1, .str "first" u2, .str "tree" u3] nW, slW⟩)
    (m6 : PySem.W.nsIn K mainGlobals "TREE_SIZES" = some (some (.ref aZ))) (m7 : K.lookup aZ = some ⟨.type "tuple", dZ, .seq #[.int 1 u4, .int 2 u5, .int 4 u6, .int 8 u7] nZ, slZ⟩)
    (z1 : PySem.W.nsIn K mainGlobals "len" = some none) (z2 : PySem.W.nsIn K mainGlobals "sum" = some none) (z3 : PySem.W.nsIn K mainGlobals "abs" = some none) (z4 : PySem.W.nsIn K mainGlobals "int" = some none) (z5 : PySem.W.nsIn K mainGlobals "min" = some none) (z6 : PySem.W.nsIn K mainGlobals "max" = some none) (z7 : PySem.W.nsIn K mainGlobals "range" = some none) (z8 : PySem.W.nsIn K mainGlobals "sorted" = some none) (z9 : PySem.W.nsIn K mainGlobals "list" = some none) (z10 : PySem.W.nsIn K mainGlobals "tuple" = some none) (z11 : PySem.W.nsIn K mainGlobals "repr" = some none) (z12 : PySem.W.nsIn K mainGlobals "set" = some none) (z13 : PySem.W.nsIn K mainGlobals "all" = some none) (z14 : PySem.W.nsIn K mainGlobals "isinstance" = some none) (z15 : PySem.W.nsIn K mainGlobals "str" = some none) (z16 : PySem.W.nsIn K mainGlobals "bool" = some none) :
    ∃ fd : FuncData, (∀ (s : Shared) (v : Value), BindsTo s fd ⟨[v], []⟩ [("_law_script", v)]) ∧ ∀ base : Heap, K.In base → base.Ns mainGlobals mg → FnG l.prog w K mg base CX0 6 fa fd ["_law_script"] (spLaw K) := by
  have e := hfa.symm.trans (PySem.W.mg_of X G a22)
  cases e
  have B : Bt mg := ⟨PySem.W.mg_none_of X G z1, PySem.W.mg_none_of X G z2, PySem.W.mg_none_of X G z3, PySem.W.mg_none_of X G z4, PySem.W.mg_none_of X G z5, PySem.W.mg_none_of X G z6, PySem.W.mg_none_of X G z7, PySem.W.mg_none_of X G z8, PySem.W.mg_none_of X G z9, PySem.W.mg_none_of X G z10, PySem.W.mg_none_of X G z11, PySem.W.mg_none_of X G z12, PySem.W.mg_none_of X G z13, PySem.W.mg_none_of X G z14, PySem.W.mg_none_of X G z15, PySem.W.mg_none_of X G z16⟩
  have D : Gb K mg := by
    refine ⟨⟨_, PySem.W.mg_of X G m1⟩, ⟨_, PySem.W.mg_of X G m2⟩, ⟨_, PySem.W.mg_of X G m3⟩, ⟨aW, PySem.W.mg_of X G m4, fun H => .inr ⟨_, _, _, m5, rfl, rfl, by show 3 ≤ sizeLine; decide, ?_⟩⟩, ⟨aZ, PySem.W.mg_of X G m6, fun H => .inr ⟨_, _, _, m7, rfl, rfl, by show 4 ≤ sizeLine; decide, ?_⟩⟩⟩
    · exact .cons ⟨_, rfl⟩ (.cons ⟨_, rfl⟩ (.cons ⟨_, rfl⟩ .nil))
    · exact .cons ⟨_, rfl⟩ (.cons ⟨_, rfl⟩ (.cons ⟨_, rfl⟩ (.cons ⟨_, rfl⟩ .nil)))
  have F1 := fun_mk (st := sIsWhole) l1 c1 k1
  have b1 := F1.binds (ps := ["thing"]) fun _ _ _ _ _ _ us hl => match us, hl with | [_], _ => rfl
  have T1 := at_mk X G a1 F1 b1
  have F2 := fun_mk (st := sIsRoom) l2 c2 k2
  have b2 := F2.binds (ps := ["thing"]) fun _ _ _ _ _ _ us hl => match us, hl with | [_], _ => rfl
  have T2 := at_mk X G a2 F2 b2
  have F3 := fun_mk (st := sIsWay) l3 c3 k3
  have b3 := F3.binds (ps := ["thing"]) fun _ _ _ _ _ _ us hl => match us, hl with | [_], _ => rfl
  have T3 := at_mk X G a3 F3 b3
  have F4 := fun_mk (st := sIsSize) l4 c4 k4
  have b4 := F4.binds (ps := ["thing", "way"]) fun _ _ _ _ _ _ us hl => match us, hl with | [_, _], _ => rfl
  have T4 := at_mk X G a4 F4 b4
  have F5 := fun_mk (st := sHowMany) l5 c5 k5
  have b5 := F5.binds (ps := ["size", "way"]) fun _ _ _ _ _ _ us hl => match us, hl with | [_, _], _ => rfl
  have T5 := at_mk X G a5 F5 b5
  have F6 := fun_mk (st := sIsSlot) l6 c6 k6
  have b6 := F6.binds (ps := ["thing"]) fun _ _ _ _ _ _ us hl => match us, hl with | [_], _ => rfl
  have T6 := at_mk X G a6 F6 b6
  have F7 := fun_mk (st := sIsBit) l7 c7 k7
  have b7 := F7.binds (ps := ["thing"]) fun _ _ _ _ _ _ us hl => match us, hl with | [_], _ => rfl
  have T7 := at_mk X G a7 F7 b7
  have F8 := fun_mk (st := sAreSlots) l8 c8 k8
  have b8 := F8.binds (ps := ["thing", "size"]) fun _ _ _ _ _ _ us hl => match us, hl with | [_, _], _ => rfl
  have T8 := at_mk X G a8 F8 b8
  have F9 := fun_mk (st := sAreBits) l9 c9 k9
  have b9 := F9.binds (ps := ["thing", "size", "way"]) fun _ _ _ _ _ _ us hl => match us, hl with | [_, _, _], _ => rfl
  have T9 := at_mk X G a9 F9 b9
  have F10 := fun_mk (st := sIsLay) l10 c10 k10
  have b10 := F10.binds (ps := ["thing", "size", "way"]) fun _ _ _ _ _ _ us hl => match us, hl with | [_, _, _], _ => rfl
  have T10 := at_mk X G a10 F10 b10
  have F11 := fun_mk (st := sPool) l11 c11 k11
  have b11 := F11.binds (ps := ["_law_script", "_law_k"]) fun _ _ _ _ _ _ us hl => match us, hl with | [_, _], _ => rfl
  have T11 := at_mk X G a11 F11 b11
  have F12 := fun_mk (st := sTake) l12 c12 k12
  have b12 := F12.binds (ps := ["_law_pool_here", "_law_many"]) fun _ _ _ _ _ _ us hl => match us, hl with | [_, _], _ => rfl
  have T12 := at_mk X G a12 F12 b12
  have F13 := fun_mk (st := sWhole) l13 c13 k13
  have b13 := F13.binds (ps := ["_law_thing"]) fun _ _ _ _ _ _ us hl => match us, hl with | [_], _ => rfl
  have T13 := at_mk X G a13 F13 b13
  have F14 := fun_mk (st := sPicked) l14 c14 k14
  have b14 := F14.binds (ps := ["_law_pool_here", "_law_some", "_law_many"]) fun _ _ _ _ _ _ us hl => match us, hl with | [_, _, _], _ => rfl
  have T14 := at_mk X G a14 F14 b14
  have F15 := fun_mk (st := sPlaces) l15 c15 k15
  have b15 := F15.binds (ps := ["_law_pool_here", "_law_many"]) fun _ _ _ _ _ _ us hl => match us, hl with | [_, _], _ => rfl
  have T15 := at_mk X G a15 F15 b15
  have F16 := fun_mk (st := sSort) l16 c16 k16
  have b16 := F16.binds (ps := ["_law_pool_here"]) fun _ _ _ _ _ _ us hl => match us, hl with | [_], _ => rfl
  have T16 := at_mk X G a16 F16 b16
  have F17 := fun_mk (st := sBig) l17 c17 k17
  have b17 := F17.binds (ps := ["_law_pool_here", "_law_sort_here"]) fun _ _ _ _ _ _ us hl => match us, hl with | [_, _], _ => rfl
  have T17 := at_mk X G a17 F17 b17
  have F18 := fun_mk (st := sCells) l18 c18 k18
  have b18 := F18.binds (ps := ["_law_pool_here", "_law_big_here", "_law_some"]) fun _ _ _ _ _ _ us hl => match us, hl with | [_, _, _], _ => rfl
  have T18 := at_mk X G a18 F18 b18
  have F19 := fun_mk (st := sMarks) l19 c19 k19
  have b19 := F19.binds (ps := ["_law_pool_here", "_law_big_here", "_law_sort_here"]) fun _ _ _ _ _ _ us hl => match us, hl with | [_, _, _], _ => rfl
  have T19 := at_mk X G a19 F19 b19
  have F20 := fun_mk (st := sLawLay) l20 c20 k20
  have b20 := F20.binds (ps := ["_law_thing", "_law_big_here", "_law_sort_here"]) fun _ _ _ _ _ _ us hl => match us, hl with | [_, _, _], _ => rfl
  have T20 := at_mk X G a20 F20 b20
  have F21 := fun_mk (st := sBent) l21 c21 k21
  have b21 := F21.binds (ps := ["_law_pool_here", "_law_cells_here", "_law_marks_here"]) fun _ _ _ _ _ _ us hl => match us, hl with | [_, _, _], _ => rfl
  have T21 := at_mk X G a21 F21 b21
  have F22 := fun_mk (st := sLaw) l22 c22 k22
  have kb : KBinds K (PySem.W.fnOf "is_lay" "is_lay" (defArgs sIsLay) (defBody sIsLay) (defScope sIsLay) .none kV10 dc10 pm10 an10 cd10 ct10) ["thing", "size", "way"] ["way", "size"] gLayW gLay := by
    refine ⟨fun s us ws _ hl => ?_, fun r z => gLay_rel r z⟩
    match us, ws, hl with
    | [u1], [u2, u3], _ => exact .of_eq rfl
    | [], _, hl => exact absurd hl (show ¬ (0 : Nat) = 3 by decide)
    | _ :: _ :: _, _, hl => exact absurd hl (show ¬ (0 : Nat) = 3 by decide)
    | [_], [], hl => exact absurd hl (show ¬ (0 : Nat) = 3 by decide)
    | [_], [_], hl => exact absurd hl (show ¬ (0 : Nat) = 3 by decide)
    | [_], _ :: _ :: _ :: _, hl => exact absurd hl (show ¬ (0 : Nat) = 3 by decide)
  refine ⟨PySem.W.fnOf "law" "law" (defArgs sLaw) (defBody sLaw) (defScope sLaw) .none kV22 dc22 pm22 an22 cd22 ct22, fun s v => .of_eq rfl, fun base _ _ => ?_⟩
  have w1 := ok_whole (P := l.prog) (w := w) (base := base) T1 B
  have w2 := ok_room (P := l.prog) (w := w) (base := base) T2 D w1
  have w3 := ok_slot (P := l.prog) (w := w) (base := base) T6 D w1 w2
  have w4 := ok_slots (P := l.prog) (w := w) (base := base) T8 B D w3
  have w5 := ok_bits (P := l.prog) (w := w) (base := base) T9 B (ok_bit T7 w1) (ok_how T5)
  have w6 := ok_lay (P := l.prog) (w := w) (base := base) T10 B (ok_way T3 B D) (ok_size T4 D w1) w4 w5
  have t1 := ok_take (P := l.prog) (w := w) (base := base) T12
  have t2 := ok_picked (P := l.prog) (w := w) (base := base) T14 B t1
  have t3 := ok_lwhole (P := l.prog) (w := w) (base := base) T13 B
  refine ok_law F22 B ⟨w1, w2, w6, ?_, ok_pool T11 B, t1, t3, ok_sort T16 t1, ok_big T17 t1, ok_places T15 B t2, ok_cells T18 B t1, ok_marks T19 B t1, ok_llay T20 B t3, ok_bent T21 B t1⟩
  obtain ⟨g, gd, GF, gm, gk, gb, go, gl, gdt⟩ := w6.ex
  have e5 := gm.symm.trans (PySem.W.mg_of X G a10)
  cases e5
  have e6 := gl.symm.trans l10
  cases e6
  cases gdt
  exact ⟨_, _, _, gLayW, GF, gm, gk, kb⟩
end Su
open PySem PySem.W PyProof.Rows
set_option maxRecDepth 100000 in
set_option maxHeartbeats 0 in
theorem PySem.Challenge.cw_surehand_k01_rooms_and_lays_holds : PySem.Challenge.rw_surehand_k01_rooms_and_lays.Holds := by
  w_on; o_law; k_head; (case hw => w_witness2)
  k_fill
  refine Su.walk_ofG (l := PySem.Challenge.rw_surehand_k01_rooms_and_lays) (n := 63) (k := 6) (x := "_law_script") (CX := L2.CX0) (sp := Su.spLaw) rfl (by decide) rfl ⟨rfl, by decide, by decide⟩ (fun w h Y => PySem.W.kIn_of Y) ?F (fun _ _ a ns hl hS => ⟨a, ns, rfl, hS, hl, fun _ => rfl⟩) (fun _ _ _ _ h => h)
  case F =>
    intro w mg fa h KX G hmg
    refine' Su.all_mk KX G hmg ?a1 ?l1 ?c1 ?k1 ?a2 ?l2 ?c2 ?k2 ?a3 ?l3 ?c3 ?k3 ?a4 ?l4 ?c4 ?k4 ?a5 ?l5 ?c5 ?k5 ?a6 ?l6 ?c6 ?k6 ?a7 ?l7 ?c7 ?k7 ?a8 ?l8 ?c8 ?k8 ?a9 ?l9 ?c9 ?k9 ?a10 ?l10 ?c10 ?k10 ?a11 ?l11 ?c11 ?k11 ?a12 ?l12 ?c12 ?k12 ?a13 ?l13 ?c13 ?k13 ?a14 ?l14 ?c14 ?k14 ?a15 ?l15 ?c15 ?k15 ?a16 ?l16 ?c16 ?k16 ?a17 ?l17 ?c17 ?k17 ?a18 ?l18 ?c18 ?k18 ?a19 ?l19 ?c19 ?k19 ?a20 ?l20 ?c20 ?k20 ?a21 ?l21 ?c21 ?k21 ?a22 ?l22 ?c22 ?k22 ?m1 ?m2 ?m3 ?m4 ?m5 ?m6 ?m7 ?z1 ?z2 ?z3 ?z4 ?z5 ?z6 ?z7 ?z8 ?z9 ?z10 ?z11 ?z12 ?z13 ?z14 ?z15 ?z16
    (case a1 => k_is); (case l1 => k_is); (case c1 => k_is); (case k1 => k_is); (case a2 => k_is); (case l2 => k_is)
    (case c2 => k_is); (case k2 => k_is); (case a3 => k_is); (case l3 => k_is); (case c3 => k_is); (case k3 => k_is)
    (case a4 => k_is); (case l4 => k_is); (case c4 => k_is); (case k4 => k_is); (case a5 => k_is); (case l5 => k_is)
    (case c5 => k_is); (case k5 => k_is); (case a6 => k_is); (case l6 => k_is); (case c6 => k_is); (case k6 => k_is)
    (case a7 => k_is); (case l7 => k_is); (case c7 => k_is); (case k7 => k_is); (case a8 => k_is); (case l8 => k_is)
    (case c8 => k_is); (case k8 => k_is); (case a9 => k_is); (case l9 => k_is); (case c9 => k_is); (case k9 => k_is)
    (case a10 => k_is); (case l10 => k_is); (case c10 => k_is); (case k10 => k_is); (case a11 => k_is); (case l11 => k_is)
    (case c11 => k_is); (case k11 => k_is); (case a12 => k_is); (case l12 => k_is); (case c12 => k_is); (case k12 => k_is)
    (case a13 => k_is); (case l13 => k_is); (case c13 => k_is); (case k13 => k_is); (case a14 => k_is); (case l14 => k_is)
    (case c14 => k_is); (case k14 => k_is); (case a15 => k_is); (case l15 => k_is); (case c15 => k_is); (case k15 => k_is)
    (case a16 => k_is); (case l16 => k_is); (case c16 => k_is); (case k16 => k_is); (case a17 => k_is); (case l17 => k_is)
    (case c17 => k_is); (case k17 => k_is); (case a18 => k_is); (case l18 => k_is); (case c18 => k_is); (case k18 => k_is)
    (case a19 => k_is); (case l19 => k_is); (case c19 => k_is); (case k19 => k_is); (case a20 => k_is); (case l20 => k_is)
    (case c20 => k_is); (case k20 => k_is); (case a21 => k_is); (case l21 => k_is); (case c21 => k_is); (case k21 => k_is)
    (case a22 => k_is); (case l22 => k_is); (case c22 => k_is); (case k22 => k_is); (case m1 => k_is); (case m2 => k_is)
    (case m3 => k_is); (case m4 => k_is); (case m5 => k_is); (case m6 => k_is); (case m7 => k_is); (case z1 => k_is)
    (case z2 => k_is); (case z3 => k_is); (case z4 => k_is); (case z5 => k_is); (case z6 => k_is); (case z7 => k_is)
    (case z8 => k_is); (case z9 => k_is); (case z10 => k_is); (case z11 => k_is); (case z12 => k_is); (case z13 => k_is)
    (case z14 => k_is); (case z15 => k_is); (case z16 => k_is)

import PyProof.Rows.All
import Wide.All
import OpenK.AllK
import Wide.FinOn
import HandS.ForMost
import HandS.SortInts
import HandS.TupAny
import HandS.Conv
import KE.KIndexOf
import PyProof.ReprRoads
import PyProof.ReprLen
import HandS.IsInst
import HandS.Strs
import HandS.Rev
import HandS.Style
import HandS.TupLe
import HandS.Zip
import HandS.Comp
import HandS.SetBool
import HandS.SetFor
import HandS.TupMul
import HandS.More
import KE.KDictZip
import PyProof.ListNew
import KE.DataMinMax
import HandS.Defaults
import HandS.ForExc
import HandS.ExcInit
import HandS.ExcValue
import KE.KExcSuper
import KE.KExcIs
import KE.KIsAll
import HandS.TryOnly
import PyProof.CallFns
import HandS.OwnEq
import KE.KCallOwn
import HandS.Codes
import HandS.Dict
import PySem.Challenge.RW_surehand_k37_ages_looked_at
set_option Elab.async false
set_option linter.all false
set_option maxRecDepth 100000
set_option maxHeartbeats 4000000
/-! ### B0: what every law's text uses: a def by its name, calls, the end where nothing is being written out -/
namespace Su
open PySem PySem.Spec PyProof.Rows L2
/-- a def of the text stands under its name -/
structure At (K : PySem.W.Frag) (mg : Str → Option Value) (x : Str) (st : Stmt) (ps : List Str) : Prop where
  ex : ∃ (f : Addr) (fd : FuncData), Fun K x x st f fd ∧ mg x = some (.ref f) ∧ Binds K fd ps []
/-- a def that keeps a promise may be called by its name -/
structure Cal (P : Program) (w : World) (K : PySem.W.Frag) (mg : Str → Option Value) (base : Heap) (k : Nat) (x : Str) (ps : List Str) (sp : Sp) : Prop where
  ex : ∃ (f : Addr) (fd : FuncData), FnOk P w K mg base CX0 k f fd ps sp ∧ mg x = some (.ref f) ∧ PySem.W.keepIn K (.ref f) = true ∧ Binds K fd ps [] ∧ ∃ o : Obj, K.lookup f = some o ∧ o.data = .func fd
section
variable {P : Program} {w : World} {K : PySem.W.Frag} {mg : Str → Option Value} {base : Heap}
theorem cal_of {x : Str} {st : Stmt} {N ps : List Str} {k : Nat} {sp : Sp} (T : At K mg x st ps) (S : FnScope N ps (defScope st)) (len : ∀ vs H Q E, sp vs H Q E → vs.length = ps.length)
    (hb : ∀ (f : Addr) (cdv : Value) (A : Around) (outer : List Env) (s : Shared) (H : Hp) (vs : List V) (Q : VK) (E : XK), Room k (A.deeper (envOfC x (defScope st) s.heap.objs.size f cdv)) → sp vs H Q E →
      ∃ t, PSs (cxOf CX0 P w K mg base N x (defScope st) f cdv A outer s H E).nox (defBody st) t ∧ t { nx := fun _ H' => Q .non H', rt := Q } (start N vs) H) : Cal P w K mg base (k + 1) x ps sp := by
  obtain ⟨f, fd, F, hm, b⟩ := T.ex
  have z : ∃ o : Obj, K.lookup f = some o ∧ o.data = .func fd := by
    obtain ⟨oc, od, kV, doc, pm, an, cdv, ct, osl, _, lk, _⟩ := F.ex
    exact ⟨_, lk, rfl⟩
  exact ⟨f, fd, F.ok S len (fun cdv A outer s H vs Q E => hb f cdv A outer s H vs Q E), hm, F.kp, b, z⟩
end
section
variable {X : Cx} {k j : Nat} {x : Str} {ps : List Str} {sp : Sp} {p pos : Pos} {e : Expr} {es : List Expr} {t : TA}
theorem pe_own (C : Cal X.prog X.w X.K X.mg X.base k x ps sp) (hr : Room j X.A) (hk : k ≤ j) (hg : Gl X x) (ha : PA X (e :: es) t)
    (hdb : (x == ("__debug__" : Str)) = false := by decide) (he : starEach (e :: es) X.env = (false, eval e X.env) :: starEach es X.env := by rfl) (hpl : (backTo pos (starEach es X.env)).any (·.1) = false := by rfl) :
    PE X (.Call (.Name x p) (e :: es) [] pos) (tCall sp [] E0 t) := by
  obtain ⟨f, fd, F, hm, kp, b, _⟩ := C.ex
  exact pe_call F (hr.mono hk) hg hm kp b .nil (fun _ _ _ _ _ _ _ h => h.elim) ha hdb he hpl
theorem pe_own0 (C : Cal X.prog X.w X.K X.mg X.base k x ps sp) (hr : Room j X.A) (hk : k ≤ j) (hg : Gl X x) (hdb : (x == ("__debug__" : Str)) = false := by decide) :
    PE X (.Call (.Name x p) [] [] pos) (tCall sp [] E0 tNil) := by
  obtain ⟨f, fd, F, hm, kp, b, _⟩ := C.ex
  exact pe_call0 F (hr.mono hk) hg hm kp b .nil (fun _ _ _ _ _ _ _ h => h.elim) hdb
end
/-- the same promise, asked only where no object is being written out -/
structure FnG (P : Program) (w : World) (K : PySem.W.Frag) (mg : Str → Option Value) (base : Heap) (CX : CXT) (k : Nat) (f : Addr) (fd : FuncData) (ps : List Str) (sp : Sp) : Prop where
  len : ∀ vs H Q E, sp vs H Q E → vs.length = ps.length
  run : ∀ (A : Around) (outer : List Env) (s : Shared) (H : Hp) (args : Args) (us : List Value) (vs : List V) (Q : VK) (E : XK), A.guards = some [] → Room k A → Env0 P w K mg base A outer s H →
    BindsTo s fd args (ps.zip us) → Vals vs us → sp vs H Q E → codeAny (model P w) A (.call (.ref f) args) (CR CX outer P w H s Q E) s
theorem deeper_guards {A : Around} {e : Env} (h : A.guards = some []) : (A.deeper e).guards = some [] := by
  first
    | exact h
    | simpa [Around.deeper, Around.under, pushGuards, Code.guards, Code.isGuard] using h
theorem fnG_of {CX : CXT} {P : Program} {w : World} {K : PySem.W.Frag} {mg : Str → Option Value} {base : Heap} {k : Nat} {f : Addr} {nm ql : Str} {pr : Arguments} {bd : List Stmt} {sc : Scope} {dv kv dc pm cd ct oc : Value} {an od : Option Addr}
    {sl : Array (Option Value)} {N ps : List Str} {sp : Sp}
    (lk : K.lookup f = some ⟨oc, od, .func (PySem.W.fnOf nm ql pr bd sc dv kv dc pm an cd ct), sl⟩)
    (hcd : PySem.W.codeIn K cd ql = true) (S : FnScope N ps sc) (len : ∀ vs H Q E, sp vs H Q E → vs.length = ps.length)
    (hb : ∀ (A : Around) (outer : List Env) (s : Shared) (H : Hp) (vs : List V) (Q : VK) (E : XK), (A.deeper (envOfC ql sc s.heap.objs.size f cd)).guards = some [] → Room k (A.deeper (envOfC ql sc s.heap.objs.size f cd)) → sp vs H Q E →
      ∃ t, PSs (cxOf CX P w K mg base N ql sc f cd A outer s H E) bd t ∧ t { nx := fun _ H' => Q .non H', rt := Q } (start N vs) H) :
    FnG P w K mg base CX (k + 1) f (PySem.W.fnOf nm ql pr bd sc dv kv dc pm an cd ct) ps sp := by
  refine ⟨len, fun A outer s H args us vs Q E hgd hr e0 hbi rv hs => ?_⟩
  obtain ⟨t, ht, hq⟩ := hb A outer s H vs Q E (deeper_guards hgd) (hr.deeper _) hs
  -- the very same body, as a promise that asks for this surrounding alone
  have kin : K.In s.heap := e0.mod.kin.keeps fun b o z => (e0.bs b o z).1
  have nol : s.heap.NoLimit := e0.mod.nolimit.keeps fun b o z => (e0.bs b o z).1
  refine codeAny_call_function hr.depth (kin _ _ lk) rfl S.co S.gen rfl (PySem.W.codeRec_of kin hcd) (hbi _ _ _ _ ?_)
  refine wpAny_newFunctionEnv_cells S.kind (fun y hy => ?_) fun env he s1 x => ?_
  · rcases S.par y.1 (List.of_mem_zip (show (y.1, y.2) ∈ ps.zip us from hy)).1 with z | z
    · exact Or.inl z
    · exact Or.inr ⟨z, PySem.W.cellsFrom_some _ _ _ (Or.inl z)⟩
  · subst he
    refine ⟨nol.keeps x.toInCall.keep, codeAny_func (wpAny_mono (ht.run [] s1 (start N vs) H _ (inv_start S hr.hd e0 (len _ _ _ _ hs) rv x) hq) (fun fl s' z => ?_) fun _ _ z => z)⟩
    cases fl with
    | ret u =>
      obtain ⟨v, σ', H', J, r', q'⟩ := z
      exact ⟨v, H', J.os, J.bare, J.base, J.hok, r', q'⟩
    | next =>
      obtain ⟨σ', H', J, q'⟩ := z
      exact ⟨V.non, H', J.os, J.bare, J.base, J.hok, rfl, q'⟩
    | brk => exact (z.elim fun _ z => z.elim fun _ z => False.elim z.2)
    | cont => exact (z.elim fun _ z => z.elim fun _ z => False.elim z.2)
theorem hid_ns {h : Heap} {H : Hp} {b : Addr} {m : Str → Option Value} (no : ∀ (o : Obj) (es : Array DictEntry) (ep : Nat), h.get? b = some o → o.data = .dict es ep → H b = none) (n : h.Ns b m) : (hidT h H).Ns b m := by
  obtain ⟨o, es, ep, e, d, r⟩ := n
  exact ⟨o, es, ep, hidT_get e (no o es ep e d), d, r⟩
/-- the law's call, from a promise that is asked only where no object is being written out -/
theorem law_callG {P : Program} {w : World} {K : PySem.W.Frag} {mg mb : Str → Option Value} {CX : CXT} {k : Nat} {fa a : Addr} {fd : FuncData} {x : Str} {sp : Sp} {t : Shared} {vs : List Value} {ns : List Int}
    (KX : K.In t.heap) (g1 : t.heap.Ns mainGlobals mg) (g2 : t.heap.Ns builtinsNs mb) (g3 : ∀ y : Str, y ≠ "__name__" → mb y = bootBuiltins y) (g4 : t.heap.NoLimit) (g5 : t.gens = #[])
    (ha : t.heap.get? a = some { cls := .type "list", data := .seq vs.toArray }) (hi : IntsAre vs ns) (hl : ns.length ≤ sizeLine) (hr : Room k callerA)
    (F : ∀ bs : Heap, K.In bs → bs.Ns mainGlobals mg → FnG P w K mg bs CX k fa fd [x] sp) (hbi : ∀ (s : Shared) (u : Value), BindsTo s fd ⟨[u], []⟩ [(x, u)])
    (hsp : ∀ H : Hp, Only H → SqL K H a (ns.map V.int) → sp [.ref a] H (fun v _ => v = .bl true) fun _ _ _ => False)
    (hCX : ∀ H e s', CX [] H t (fun _ _ _ => False) e s' → False) :
    codeAny (model P w) callerA (.call (.ref fa) ⟨[.ref a], []⟩) (fun r s' => r = .ok (.ret (.bool true)) ∧ OldK t.heap s'.heap ∧ s'.os = t.os ∧ AllBare s'.gens) t := by
  have rv := vals_ints hi
  have main : ∀ H : Hp, Only H → SqL K H a (ns.map V.int) → HOk P w H t.heap → (∀ b, H b ≠ none → b = a) → (H a ≠ none → K.lookup a = none) →
      codeAny (model P w) callerA (.call (.ref fa) ⟨[.ref a], []⟩) (fun r s' => r = .ok (.ret (.bool true)) ∧ OldK t.heap s'.heap ∧ s'.os = t.os ∧ AllBare s'.gens) t := by
    intro H only hS hok one out
    have no : ∀ (b : Addr) (o : Obj) (es : Array DictEntry) (ep : Nat), t.heap.get? b = some o → o.data = .dict es ep → H b = none := by
      intro b o es ep e d
      cases z : H b with
      | none => rfl
      | some u =>
        obtain rfl : b = a := one b (by rw [z]; simp)
        rw [ha] at e
        cases e
        exact absurd d (by simp)
    have kb : K.In (hidT t.heap H) := by
      intro b o e
      refine hidT_get (KX b o e) ?_
      cases z : H b with
      | none => rfl
      | some u =>
        obtain rfl : b = a := one b (by rw [z]; simp)
        rw [out (by rw [z]; simp)] at e
        cases e
    have ng : (hidT t.heap H).Ns mainGlobals mg := hid_ns (no _) g1
    have md : Mod K mg (hidT t.heap H) := ⟨kb, ng, ⟨mb, hid_ns (no _) g2, g3⟩, g4.elim fun mc h => ⟨mc, hid_ns (no _) h.1, h.2⟩⟩
    have ev : Env0 P w K mg (hidT t.heap H) callerA [] t H :=
      ⟨rfl, md, fun b o e => of_hidT e, Nat.le_of_eq (hidT_size _ _), trivial, fun b z => (List.not_mem_nil z).elim, hok, .of_eq g5⟩
    refine codeAny_mono ((F _ kb ng).run callerA [] t H ⟨[.ref a], []⟩ [.ref a] [.ref a] _ _ rfl hr ev (hbi t (.ref a)) (.cons rfl .nil) (hsp H only hS)) fun r s' h => ?_
    match r, h with
    | .error e, h => exact (hCX H e s' h).elim
    | .ok .next, h => exact False.elim h
    | .ok .brk, h => exact False.elim h
    | .ok .cont, h => exact False.elim h
    | .ok (.ret u), h =>
      obtain ⟨v, H', os, bare, un, hok2, r2, q⟩ := h
      obtain rfl : v = .bl true := q
      obtain rfl : u = Value.bool true := r2
      refine ⟨rfl, OldK.of_keep fun b o e => ?_, os, bare⟩
      rcases only b with z | ⟨ob, xs, z⟩
      · exact un.keep b o e z (fun y => (List.not_mem_nil y).elim) (by simp)
      · have y1 := (hok b _ z).1
        have y2 := (hok2 b _ (un.frzs b ob _ z)).1
        rw [e] at y1
        cases y1
        exact y2
  cases hk : K.lookup a with
  | some o =>
    have e := KX a o hk
    rw [ha] at e
    cases e
    refine main (fun _ => none) (fun _ => .inl rfl) (.inr ⟨_, vs.toArray, _, hk, rfl, rfl, rfl, ?_, ?_⟩) (fun b u z => nomatch (show (none : Option HO) = some u from z)) (fun b z => absurd rfl z) fun z => absurd rfl z
    · rw [List.size_toArray, hi.length]
      exact hl
    · simpa using rv
  | none =>
    have at1 : (fun b => if b = a then some (HO.frz { cls := .type "list", data := .seq vs.toArray } (.lst (ns.map V.int))) else none : Hp) a = some (HO.frz { cls := .type "list", data := .seq vs.toArray } (.lst (ns.map V.int))) := if_pos rfl
    refine main (fun b => if b = a then some (.frz { cls := .type "list", data := .seq vs.toArray } (.lst (ns.map V.int))) else none) (fun b => ?_) (.inl (.inr ⟨_, at1⟩)) (fun b u z => ?_) (fun b z => ?_) fun _ => hk
    · by_cases e : b = a
      · exact .inr ⟨_, _, if_pos e⟩
      · exact .inl (if_neg e)
    · by_cases e : b = a
      · subst e
        have y := at1.symm.trans z
        cases y
        exact ⟨ha, by rw [List.length_map]; exact hl, vs, _, rv, ha⟩
      · exact nomatch ((if_neg e).symm.trans z)
    · by_cases e : b = a
      · exact e
      · exact absurd (if_neg e) z
theorem walk_ofG {l : PySem.W.OpenLaw} {n k : Nat} {q : Program} {loose : List Str} {XP : (Str → Option Value) → Heap → Prop} {YP : World → Heap → Prop} {d : DefRec} {K : Params → PySem.W.Frag} {CX : CXT} {sp : PySem.W.Frag → Sp} {x : Str}
    (hn : l.most = some n) (hn2 : n ≤ sizeLine) (hdf : d.params.defaults = []) (hr : Room k callerA) (hY : ∀ (w : World) (h : Heap), YP w h → (K w.params).In h)
    (F : ∀ (w : World) (mg : Str → Option Value) (fa : Addr) (h : Heap), (K w.params).In h → h.Ns mainGlobals mg → mg d.name = some (.ref fa) →
      ∃ fd : FuncData, (∀ (s : Shared) (u : Value), BindsTo s fd ⟨[u], []⟩ [(x, u)]) ∧
        ∀ bs : Heap, (K w.params).In bs → bs.Ns mainGlobals mg → FnG l.prog w (K w.params) mg bs CX k fa fd [x] (sp (K w.params)))
    (hsp : ∀ (K : PySem.W.Frag) (H : Hp) (a : Addr) (ns : List Int), ns.length ≤ n → SqL K H a (ns.map V.int) → sp K [.ref a] H (fun v _ => v = .bl true) fun _ _ _ => False)
    (hCX : ∀ (H : Hp) (s : Shared) (e : Value) (s' : Shared), CX [] H s (fun _ _ _ => False) e s' → False) :
    PySem.W.WalkO q loose XP YP l.row.toRowW d [] (fun f vs => PySem.call f vs) := by
  refine Att.attach_call hn hdf fun w s₀ t mg mb fa o pm cd doc a vs ns G Y ho hd hcd hmg hobj hints hlen hg => ?_
  have KX := hY w _ Y
  obtain ⟨fd, hb, hF⟩ := F w mg fa _ KX G.T.g hmg
  exact law_callG KX G.T.g G.T.b G.T.builtins G.T.nolimit hg hobj hints (Nat.le_trans hlen hn2) hr hF hb (fun H _ hS => hsp (K w.params) H a ns hlen hS) fun H e s' => hCX H t e s'
end Su
/-! ### B1: repr of data, t.index(n), a call by keywords alone, data that is small enough -/
namespace Su
open PySem PySem.Spec PyProof.Rows L2
/-- data of small numbers, of depth n at most, of weight m at most -/
structure Fine (d : PyData) (n m : Nat) : Prop where
  sh : d.showable = true
  nd : d.hasDict = false
  dp : d.depth ≤ n
  lv : d.leavesShort 13 = true
  wt : d.weight ≤ m
  cl : d.canLay0 = true
structure FineL (ds : List PyData) (n m : Nat) : Prop where
  sh : PyData.showableAll ds = true
  nd : PyData.hasDictAll ds = false
  dp : PyData.depthAll ds ≤ n
  lv : PyData.leavesShortAll 13 ds = true
  wt : PyData.weightAll ds ≤ m
  cl : PyData.canLayAll0 ds = true
theorem Fine.int {i : Int} (h1 : -1000000 ≤ i) (h2 : i ≤ 1000000) : Fine (.int i) 0 40 := by
  have hb : i.natAbs < 10 ^ 12 := by omega
  have e : i.natAbs < 2 ^ 20 := by omega
  have hl : i.natAbs.log2 < 39 := by
    by_cases z : i.natAbs = 0
    · rw [z]
      decide
    · exact (Nat.log2_lt z).mpr (by omega)
  refine ⟨?_, by simp [PyData.hasDict], by simp [PyData.depth], ?_, ?_, by first | rfl | simp [PyData.canLay0]⟩
  · simp only [PyData.showable, decide_eq_true_eq]
    omega
  · simp only [PyData.leavesShort, decide_eq_true_eq]
    exact PyData.shown_int_le hb
  · simp only [PyData.weight]
    split <;> omega
theorem Fine.bool (b : Bool) : Fine (.bool b) 0 0 := ⟨by simp [PyData.showable], by simp [PyData.hasDict], by simp [PyData.depth], by simp [PyData.leavesShort], by simp [PyData.weight], by first | rfl | simp [PyData.canLay0]⟩
theorem Fine.none : Fine .none 0 0 := ⟨by simp [PyData.showable], by simp [PyData.hasDict], by simp [PyData.depth], by simp [PyData.leavesShort], by simp [PyData.weight], by first | rfl | simp [PyData.canLay0]⟩
theorem FineL.nil {n : Nat} : FineL [] n 0 := ⟨by simp [PyData.showableAll], by simp [PyData.hasDictAll], by simp [PyData.depthAll], by simp [PyData.leavesShortAll], by simp [PyData.weightAll], by first | rfl | simp [PyData.canLayAll0]⟩
theorem FineL.cons {d : PyData} {ds : List PyData} {n m k : Nat} (h : Fine d n m) (t : FineL ds n k) : FineL (d :: ds) n (m + 1 + k) := by
  refine ⟨?_, ?_, ?_, ?_, ?_, ?_⟩
  · simp only [PyData.showableAll, h.sh, t.sh, Bool.and_self]
  · simp only [PyData.hasDictAll, h.nd, t.nd, Bool.or_self]
  · simp only [PyData.depthAll]
    have := h.dp
    have := t.dp
    omega
  · simp only [PyData.leavesShortAll, h.lv, t.lv, Bool.and_self]
  · simp only [PyData.weightAll]
    have := h.wt
    have := t.wt
    omega
  · simp only [PyData.canLayAll0, h.cl, t.cl, Bool.and_self]
theorem Fine.tuple {ds : List PyData} {n m : Nat} (t : FineL ds n m) : Fine (.tuple ds) (n + 1) m :=
  ⟨by simpa only [PyData.showable] using t.sh, by simpa only [PyData.hasDict] using t.nd, by simp only [PyData.depth]; have := t.dp; omega, by simpa only [PyData.leavesShort] using t.lv, by simpa only [PyData.weight] using t.wt, by simpa only [PyData.canLay0] using t.cl⟩
theorem Fine.list {ds : List PyData} {n m : Nat} (t : FineL ds n m) : Fine (.list ds) (n + 1) m :=
  ⟨by simpa only [PyData.showable] using t.sh, by simpa only [PyData.hasDict] using t.nd, by simp only [PyData.depth]; have := t.dp; omega, by simpa only [PyData.leavesShort] using t.lv, by simpa only [PyData.weight] using t.wt, by simpa only [PyData.canLay0] using t.cl⟩
theorem Fine.up {d : PyData} {n m n' m' : Nat} (h : Fine d n m) (a : n ≤ n') (b : m ≤ m') : Fine d n' m' := ⟨h.sh, h.nd, Nat.le_trans h.dp a, h.lv, Nat.le_trans h.wt b, h.cl⟩
theorem FineL.ints : ∀ ns : List Int, (∀ z ∈ ns, -1000000 ≤ z ∧ z ≤ 1000000) → FineL (ns.map PyData.int) 0 (41 * ns.length)
  | [], _ => FineL.nil
  | z :: ns, h => by
    have a := FineL.cons (Fine.int (h z List.mem_cons_self).1 (h z List.mem_cons_self).2) (FineL.ints ns fun y hy => h y (List.mem_cons_of_mem _ hy))
    have e : 40 + 1 + 41 * ns.length = 41 * (z :: ns).length := by
      rw [List.length_cons]
      omega
    rw [e] at a
    exact a
theorem Fine.len {d : PyData} {n m : Nat} (h : Fine d n m) (hm : m ≤ 1000000) : d.shown.length ≤ sizeLine := PyData.shown_fits (B := 13) (by decide) (by decide) h.lv (by have := h.wt; omega)
theorem Fine.shaped {d : PyData} {n m : Nat} (h : Fine d n m) (hn : n ≤ 64) : SeqAt.shaped d = true := by
  unfold SeqAt.shaped
  rw [h.cl, Bool.true_and, decide_eq_true_eq]
  exact Nat.le_trans h.dp hn
theorem Fine.eqv {d : PyData} {n m : Nat} (h : Fine d n m) : PyData.eqv d d = true := SeqAt.eqv_refl d h.cl
section
variable {X : Cx}
/-- repr(x), x a list or tuple of data -/
def rReprD (K : PySem.W.Frag) : List V → Hp → VK → Prop := fun xs H Q => ∃ (a : Addr) (d : PyData) (n m : Nat), xs = [.ref a] ∧ Dp K H (.ref a) d ∧ Fine d n m ∧ n ≤ 60 ∧ m ≤ 1000000 ∧ Q (.str d.shown) H
theorem call_reprD (hg : X.A.guards = some []) (hu : X.A.units + 64 < cLine) : CallR X (.builtin "repr") (rReprD X.K) := by
  intro pins s σ H xs us Q I r h
  obtain ⟨a, d, n, m, rfl, hd, hf, hn, hm, q⟩ := h
  rw [Vals.ref1 r]
  obtain ⟨as, rd⟩ := Dp.reads I d _ (.ref a) hd rfl
  refine repr_of_reads' rd hf.sh (PyData.noDict_hsm hf.nd) hg (by have := hf.dp; omega) (fun _ _ z => z) (fun h' u tk hk => ⟨.str d.shown, H, I.kept hk, ⟨u, rfl⟩, q⟩) (hf.len hm)
/-- t.index(n), t a tuple of ints that has n -/
def rTIndex (K : PySem.W.Frag) : V → List V → Hp → VK → Prop := fun x xs H Q => ∃ (p : Addr) (ns : List Int) (k : Int), x = .ref p ∧ xs = [.int k] ∧ SqT K H p (ns.map V.int) ∧ k ∈ ns ∧ Q (.int (ns.idxOf k : Nat)) H
theorem ints_of : ∀ {ns : List Int} {vs : List Value}, Vals (ns.map V.int) vs → IntsAre vs ns
  | [], _, r => by
    cases r
    exact .nil
  | n :: ns, _, r => by
    cases r with
    | cons r1 r2 =>
      obtain ⟨t, rfl⟩ := r1
      exact .cons _ _ (ints_of r2)
theorem mt_tindex : MtR X "tuple.index" (rTIndex X.K) := by
  intro pins s σ H x xs v us Q I rx rs h
  obtain ⟨p, ns, k, rfl, rfl, hq, hk, q⟩ := h
  cases rx
  obtain ⟨u, rfl, t, rfl⟩ := vals1 rs
  obtain ⟨its, r, pl, hz⟩ := I.tuple hq
  exact PySem.SeqAt.tuple_index_ints (l := p) (vs := its) pl (ints_of r) hk ⟨.int (ns.idxOf k : Nat), H, I.tok _, ⟨_, rfl⟩, q⟩
end
section
variable {X : Cx} {k j : Nat} {x : Str} {ps ks : List Str} {sp : Sp} {p pos : Pos} {kws : List Keyword} {tk : TA}
/-- a def that keeps a promise, called by keywords alone -/
structure KCal (P : Program) (w : World) (K : PySem.W.Frag) (mg : Str → Option Value) (base : Heap) (k : Nat) (x : Str) (ks : List Str) (gV : List V → List V → List V) (sp : Sp) : Prop where
  ex : ∃ (f : Addr) (fd : FuncData) (ps : List Str) (g : List Value → List Value → List Value), FnOk P w K mg base CX0 k f fd ps sp ∧ mg x = some (.ref f) ∧ PySem.W.keepIn K (.ref f) = true ∧ KBinds K fd ps ks g gV
variable {gV : List V → List V → List V}
def tKws (sp : Sp) (gV : List V → List V → List V) (tk : TA) : TE := fun σ H Q => tk σ H fun zs H2 => sp (gV [] zs) H2 Q E0
theorem pe_ownK (C : KCal X.prog X.w X.K X.mg X.base k x ks gV sp) (hr : Room j X.A) (hk : k ≤ j) (hg : Gl X x) (hkw : PK X kws tk)
    (hall : (backToKw pos (keywordEach kws X.env)).all (·.1.isSome) = true := by rfl) (hks : (backToKw pos (keywordEach kws X.env)).filterMap (·.1) = ks := by rfl) (hdb : (x == ("__debug__" : Str)) = false := by decide)
    (hpl : ((backTo pos (starEach [] X.env)).any (·.1) || (backToKw pos (keywordEach kws X.env)).any (·.1.isNone)) = false := by rfl) : PE X (.Call (.Name x p) [] kws pos) (tKws sp gV tk) := by
  obtain ⟨f, fd, ps, g, F, hm, kp, b⟩ := C.ex
  refine ⟨fun pins s σ H Q I h => ?_⟩
  refine wpAny_Call_Name_kw (ld_glob I hg hm ?_ hdb)
  refine PySem.W.callWith_KW0 (h₀ := X.base) I.ok.mod.kin kp hall (thn (hkw.run pos pins s σ H _ I h) fun ws s2 ⟨zs, H2, I2, rz, q2⟩ => ⟨I2.kIn, ?_⟩) hpl
  rw [hks]
  exact run_fnk F (hr.mono hk) b (fun _ _ _ _ _ _ _ z => z.elim) I2 .nil rz q2
end
end Su
/-! ### B2: tuples whose object is known to have no dict: their methods may be called -/
namespace Su
open PySem PySem.Spec PyProof.Rows L2
def PTup (H : Hp) (a : Addr) (xs : List V) : Prop := ∃ o : Obj, H a = some (.frz o (.tup xs)) ∧ o.dict = none
theorem PTup.sq {K : PySem.W.Frag} {H : Hp} {a : Addr} {xs : List V} (h : PTup H a xs) : SqT K H a xs := by
  obtain ⟨o, e, _⟩ := h
  exact .inl (.inr ⟨o, e⟩)
theorem PTup.same {H H' : Hp} {a : Addr} {xs : List V} (h : PTup H a xs) (s : Same H H') : PTup H' a xs := by
  obtain ⟨o, e, d⟩ := h
  exact ⟨o, s _ _ e, d⟩
theorem same_upd {H : Hp} {p : Addr} {o : HO} (h : H p = none) : Same H (upd H p o) := fun b x e => by
  rw [upd_ne (ne_of_none e h)]
  exact e
section
variable {X : Cx} {pins : List (Addr × Obj)} {σ : L2.St} {H : Hp} {s : Shared}
/-- a new tuple's object -/
abbrev tupO (its : List Value) : Obj := { cls := .type "tuple", data := .seq its.toArray }
theorem laidF {xs : List V} {its : List Value} (I : Inv X pins σ H s) (r : Vals xs its) (hz : xs.length ≤ sizeLine) (t' : Tok) :
    Inv X pins σ (upd H s.heap.objs.size (.frz (tupO its) (.tup xs))) { s with heap := s.heap.push (tupO its), toks := t' } := by
  refine I.laid (t' := t') (o := .frz (tupO its) (.tup xs)) (fun b ob q => Heap.get?_push_of_some _ q) (Nat.le_refl _) ?_
  exact ⟨Heap.get?_push_size _ rfl, hz, its, r, IsTup.new _ _⟩
theorem newF {xs : List V} {its : List Value} {Q : VK} (I : Inv X pins σ H s) (r : Vals xs its) (hz : xs.length ≤ sizeLine) (q : ∀ v H', Same H H' → H v = none → PTup H' v xs → Q (.ref v) H') (t' : Tok) :
    EP X pins σ Q (.ref s.heap.objs.size) { s with heap := s.heap.push (tupO its), toks := t' } :=
  have hf : H s.heap.objs.size = none := I.hok.fresh (Nat.le_refl _)
  ⟨.ref s.heap.objs.size, _, laidF I r hz t', rfl, q _ _ (same_upd hf) hf ⟨_, upd_same, rfl⟩⟩
end
section
variable {X : Cx} {es : List Expr} {t : TA} {pos : Pos}
def tTupF (t : TA) : TE := fun σ H Q => t σ H fun xs H1 => xs.length ≤ sizeLine ∧ ∀ v H', Same H1 H' → H1 v = none → PTup H' v xs → Q (.ref v) H'
theorem pe_tupF {x1} (h : PA X es t) : PE X (.Tuple es x1 pos) (tTupF t) := by
  refine ⟨fun pins s σ H Q I hq => ?_⟩
  refine wpAny_Tuple_spliced (thn (h.run pos pins s σ H _ I hq) fun us s1 ⟨xs, H1, I1, r, z, q⟩ => ⟨by rw [← r.length]; exact z, ?_⟩)
  exact newF I1 r z q s1.toks
def rTupL (K : PySem.W.Frag) : List V → Hp → VK → Prop := fun xs H Q => ∃ p ys, xs = [.ref p] ∧ SqL K H p ys ∧ ∀ v H', Same H H' → H v = none → PTup H' v ys → Q (.ref v) H'
theorem call_tupleF : CallR X (.type "tuple") (rTupL X.K) := by
  intro pins s σ H xs us Q I r h
  obtain ⟨p, ys, rfl, hq, q⟩ := h
  obtain ⟨u, rfl, rx⟩ := vals1 r
  cases rx
  obtain ⟨its, r', pl, hz⟩ := I.list hq
  have hlen := r'.length
  refine call_tuple_list pl.isList (fun h' kp => ?_) (by simp only [List.size_toArray] <;> omega)
  exact newF (s := { s with heap := h' }) (I.kept (t' := s.toks) kp) r' hz q s.toks
def rCatF : R2 := fun x y H Q => ∃ a b xs ys, x = .ref a ∧ y = .ref b ∧ PTup H a xs ∧ PTup H b ys ∧ xs.length + ys.length ≤ sizeLine ∧ ∀ v H', Same H H' → PTup H' v (xs ++ ys) → Q (.ref v) H'
theorem op_catF : OpR X (binaryOp .Add) rCatF := by
  intro pins s σ H x y v u Q I rx ry h
  obtain ⟨a, b, xs, ys, rfl, rfl, ha, hb, hz, q⟩ := h
  cases rx
  cases ry
  obtain ⟨its, r1, p1, _⟩ := I.tuple (ha.sq (K := X.K))
  obtain ⟨its2, r2, p2, _⟩ := I.tuple (hb.sq (K := X.K))
  by_cases hx : xs = []
  · subst hx
    cases r1
    exact cat_tup0 p1 p2 ⟨.ref b, H, I, rfl, q b H (Same.refl H) hb⟩
  · refine HT.cat_tup p1 p2 (fun z => hx (r1.nil_iff.mp z)) (fun z => ⟨.ref a, H, I, rfl, q a H (Same.refl H) ?_⟩) (fun z => ?_) (by rw [← r1.length, ← r2.length]; exact hz)
    · rw [r2.nil_iff.mp z, List.append_nil]
      exact ha
    · exact newF I (r1.append r2) (by rw [List.length_append]; exact hz) (fun v H' s' _ h => q v H' s' h) s.toks
def rSlF : V → Option Int → Option Int → Hp → VK → Prop := fun x lo hi H Q => ∃ a xs, x = .ref a ∧ PTup H a xs ∧ ∀ v H', Same H H' → PTup H' v (cutV xs lo hi) → Q (.ref v) H'
theorem sl_tupF : SlR X rSlF := by
  intro pins s σ H x v vl vu lo hi sl Q I rx hs pl pu h
  obtain ⟨a, xs, rfl, hx, q⟩ := h
  cases rx
  obtain ⟨its, r, ht, hz⟩ := I.tuple (hx.sq (K := X.K))
  have hlen : its.toArray.size = xs.length := by rw [List.size_toArray]; exact r.length.symm
  refine ⟨"tuple", _, PyProof.Rows.slot_tuple_getitem.lookup, ht.typeIs, ?_⟩
  by_cases hw : HT.sIx xs.length 0 lo = 0 ∧ HT.sIx xs.length xs.length hi = xs.length
  · refine getItem_tuple_whole ht hs pl pu (by rw [hlen]; exact hw) ⟨.ref a, H, I, rfl, q a H (Same.refl H) ?_⟩
    have z : cutV xs lo hi = xs := by
      unfold cutV
      rw [hw.1, hw.2, Nat.sub_zero, List.drop_zero, List.take_length]
    rw [z]
    exact hx
  · refine HT.getItem_tuple_cut ht hs pl pu (by rw [hlen]; exact hw) ?_ (by rw [hlen]; exact hz)
    rw [hlen]
    exact newF I ((r.drop (HT.sIx xs.length 0 lo)).take (HT.sIx xs.length xs.length hi - HT.sIx xs.length 0 lo)) (Nat.le_trans (cutV_length xs lo hi) hz) (fun v H' s' _ h => q v H' s' h) s.toks
/-- t.m(e, ..), t such a tuple -/
def tMT (r : V → List V → Hp → VK → Prop) (to : TE) (t : TA) : TE := fun σ H Q => to σ H fun x H1 => (∃ a xs, x = .ref a ∧ PTup H1 a xs) ∧ t σ H1 fun xs H2 => r x xs H2 Q
variable {o e : Expr} {to : TE} {name : Str} {apos cpos : Pos} {id : String} {r : V → List V → Hp → VK → Prop}
theorem pe_mT (slot : Slot "tuple" name id) (hty : typeOf (.builtin id) = pure (.type "method_descriptor")) (hm : MtR X id r) (ho : PE X o to) (ha : PA X (e :: es) t)
    (hbase : attributeBase o name X.env (eval o X.env) = eval o X.env := by rfl)
    (hfew : ((backTo cpos (starEach (e :: es) X.env)).all (fun x => !x.1) && (backToKw cpos (keywordEach [] X.env)).all (fun x => x.1.isSome) && decide ((e :: es).length + ([] : List Keyword).length + (if ([] : List Keyword).isEmpty then 0 else 1) < 30)) = true := by rfl)
    (hline : (apos.endLine == cpos.line) = true := by rfl) (hs : starEach (e :: es) X.env = (false, eval e X.env) :: starEach es X.env := by rfl) (hplain : (backTo cpos (starEach es X.env)).any (·.1) = false := by rfl) :
    PE X (.Call (.Attribute o name apos) (e :: es) [] cpos) (tMT r to t) := by
  refine ⟨fun pins s σ H Q I h => ?_⟩
  refine wpAny_Call_method_late hbase hfew hline rfl (thn (ho.run pins s σ H _ I h) fun v s1 ⟨x, H1, I1, r1, ⟨a, xs, ex, pt⟩, q1⟩ => ?_)
  subst ex
  cases r1
  obtain ⟨its, rv, tp, _⟩ := I1.tuple (pt.sq (K := X.K))
  obtain ⟨ob, eo, ed⟩ := pt
  have g1 := (I1.hok a _ eo).1
  refine ⟨"tuple", id, PySem.F.plainAttrs_tuple, slot, hty, tp.typeIs, fun b eb => ?_, ?_⟩
  · cases eb
    exact ⟨ob, g1, ed⟩
  have hA := ha.run cpos pins s1 σ H1 _ I1 q1
  rw [hs] at hA ⊢
  refine Calls.callWith_builtin (by show (false || (backTo cpos (starEach es X.env)).any (·.1)) = false; rw [hplain] <;> rfl) (Calls.evalArgs_plain ?_)
  exact thn hA fun us s2 ⟨vs, H2, I2, r2, q2⟩ => hm pins s2 σ H2 (.ref a) vs _ us Q I2 rfl r2 q2
end
end Su
/-! ### PL: the pool from which a law draws -/
namespace Su
open PySem PySem.Spec PyProof.Rows L2
/-- the built-in names that the text does not bind -/
structure Bt (mg : Str → Option Value) : Prop where
  len : mg "len" = none
  sum : mg "sum" = none
  abs : mg "abs" = none
  int : mg "int" = none
  min : mg "min" = none
  max : mg "max" = none
  range : mg "range" = none
  sorted : mg "sorted" = none
  list : mg "list" = none
  tuple : mg "tuple" = none
  repr : mg "repr" = none
  set : mg "set" = none
  all : mg "all" = none
  isinstance : mg "isinstance" = none
  str : mg "str" = none
  bool : mg "bool" = none
  reversed : mg "reversed" = none
  enumerate : mg "enumerate" = none
  zip : mg "zip" = none
  any : mg "any" = none
  dict : mg "dict" = none
theorem cutV_ints (ns : List Int) (lo hi : Option Int) : ∃ ms : List Int, cutV (ns.map V.int) lo hi = ms.map V.int := by
  unfold cutV
  exact ⟨_, by rw [← List.map_drop, ← List.map_take]⟩
theorem atI_int {α : Type} {xs : List α} {i : Int} {v : α} (h0 : 0 ≤ i) (h : xs[i.toNat]? = some v) : atI xs i = some v := by
  have e := atI_nat h
  rw [Int.toNat_of_nonneg h0] at e
  exact e
theorem b01 (b : Bool) : -(2 ^ 64) < (if b = true then (1 : Int) else 0) ∧ (if b = true then (1 : Int) else 0) < 2 ^ 64 := by
  cases b <;> exact ⟨by decide, by decide⟩
/-! the pool -/
def PoolO (o : HO) : Prop := ∃ g m : Int, o = .lst [.int g, .int m] ∧ 0 ≤ g ∧ 0 ≤ m ∧ m < 2147483647
def PoolAt (H : Hp) (p : Addr) : Prop := ∃ o, H p = some o ∧ PoolO o
def spTake : Sp := fun vs H Q _ => ∃ (p : Addr) (many : Int), vs = [.ref p, .int many] ∧ PoolAt H p ∧ 1 ≤ many ∧ many < 1000000 ∧
  ∀ (r : Int) (o : HO), 0 ≤ r → r < many → PoolO o → Q (.int r) (upd H p o)
def spPool (K : PySem.W.Frag) : Sp := fun vs H Q _ => ∃ (a : Addr) (ns : List Int) (k : Int), vs = [.ref a, .int k] ∧ SqL K H a (ns.map V.int) ∧ 0 ≤ k ∧ k < 1000 ∧
  ∀ (p : Addr) (H' : Hp), Same H H' → H p = none → PoolAt H' p → Q (.ref p) H'
/-- all but what stands at p is as it was -/
def Kept (p : Addr) (H H' : Hp) : Prop := ∀ b o, H b = some o → b ≠ p → H' b = some o
theorem Kept.refl (p : Addr) (H : Hp) : Kept p H H := fun _ _ h _ => h
theorem Kept.trans {p : Addr} {H H1 H2 : Hp} (a : Kept p H H1) (b : Kept p H1 H2) : Kept p H H2 := fun c o h n => b c o (a c o h n) n
theorem Kept.same {p : Addr} {H H1 : Hp} (a : Same H H1) : Kept p H H1 := fun c o h _ => a c o h
theorem Kept.upd (p : Addr) (H : Hp) (o : HO) : Kept p H (upd H p o) := fun b x e n => by
  rw [upd_ne n]
  exact e
theorem Kept.set {p b : Addr} {H H1 : Hp} {o : HO} (a : Kept p H H1) (hb : H b = none) : Kept p H (L2.upd H1 b o) := fun c x e n => by
  rw [upd_ne (ne_of_none e hb)]
  exact a c x e n
theorem Kept.free {p b : Addr} {H H' : Hp} (a : Kept p H H') (n : b ≠ p) (h : H' b = none) : H b = none := by
  cases z : H b with
  | none => rfl
  | some o =>
    rw [a b o z n] at h
    cases h
theorem pool_ne {H : Hp} {p b : Addr} (h : PoolAt H p) (n : H b = none) : b ≠ p := by
  obtain ⟨o, e, _⟩ := h
  exact (ne_of_none e n).symm
theorem PoolAt.upd {H : Hp} {p b : Addr} {o : HO} (h : PoolAt H p) (n : p ≠ b) : PoolAt (upd H b o) p := by
  obtain ⟨x, e, z⟩ := h
  exact ⟨x, by rw [upd_ne n]; exact e, z⟩
theorem PoolAt.same {H H' : Hp} {p : Addr} (h : PoolAt H p) (s : Same H H') : PoolAt H' p := by
  obtain ⟨o, e, z⟩ := h
  exact ⟨o, s _ _ e, z⟩
theorem PTup.kept {p a : Addr} {H H' : Hp} {xs : List V} (h : PTup H a xs) (k : Kept p H H') (hp : PoolAt H p) : PTup H' a xs := by
  obtain ⟨o, e, d⟩ := h
  obtain ⟨x, e2, g, m, rfl, _⟩ := hp
  refine ⟨o, k _ _ e (fun z => ?_), d⟩
  subst z
  rw [e] at e2
  cases e2
theorem seq_kept {K : PySem.W.Frag} {p a : Addr} {H H' : Hp} {xs : List V} (k : Kept p H H') (n : a ≠ p) (h : SqL K H a xs) : SqL K H' a xs := by
  rcases h with (h | ⟨o, h⟩) | h
  · exact .inl (.inl (k _ _ h n))
  · exact .inl (.inr ⟨o, k _ _ h n⟩)
  · exact .inr h
theorem tyes {σ : L2.St} {H : Hp} {A B : Hp → Prop} (h : A H) : tYes σ H (fun b H3 => if b = true then A H3 else B H3) := (iteT h : if true = true then A H else B H)
theorem erase_map (f : Int → V) : ∀ (l : List Int) (j : Nat), (l.map f).eraseIdx j = (l.eraseIdx j).map f
  | [], _ => rfl
  | _ :: _, 0 => rfl
  | x :: l, j + 1 => by
    show f x :: (l.map f).eraseIdx j = f x :: (l.eraseIdx j).map f
    rw [erase_map f l j]
theorem free_upd {H : Hp} {a b : Addr} {o : HO} (h : upd H a o b = none) : b ≠ a ∧ H b = none := by
  by_cases e : b = a
  · subst e
    rw [upd_same] at h
    cases h
  · rw [upd_ne e] at h
    exact ⟨e, h⟩
theorem seqIx {i : Int} {n : Nat} (h0 : 0 ≤ i) (h : i < n) : seqIndex? i n = some i.toNat :=
  (ixN_seq (n := n) (i := i) (j := i.toNat) (by unfold ixN; rw [if_pos h0, if_pos h])).1
theorem erase_perm : ∀ (l : List Int) (j : Nat) (y : Int), l[j]? = some y → (y :: l.eraseIdx j).Perm l
  | [], j, y, h => by simp at h
  | x :: l, 0, y, h => by
    have e : x = y := by simpa using h
    rw [e]
    exact List.Perm.refl _
  | x :: l, j + 1, y, h => by
    have e : l[j]? = some y := by simpa using h
    exact (List.Perm.swap x y (l.eraseIdx j)).trans ((erase_perm l j y e).cons x)
abbrev rLenK (K : PySem.W.Frag) : List V → Hp → VK → Prop := fun xs H Q => ∃ p ys, xs = [.ref p] ∧ (SqL K H p ys ∨ SqT K H p ys) ∧ Q (.int ys.length) H
def spPicked (K : PySem.W.Frag) : Sp := fun vs H Q _ => ∃ (p b : Addr) (ns : List Int) (many : Int), vs = [.ref p, .ref b, .int many] ∧ PoolAt H p ∧ SqL K H b (ns.map V.int) ∧ b ≠ p ∧ ns.Nodup ∧ ns.length ≤ 1000 ∧ 0 ≤ many ∧
  ∀ (q : Addr) (H' : Hp) (ms : List Int), H q = none → Kept p H H' → PoolAt H' p → H' q = some (.lst (ms.map V.int)) → ms.Nodup → (∀ x ∈ ms, x ∈ ns) → ms.length = min many.toNat ns.length → ms.Pairwise (· ≤ ·) → Q (.ref q) H'
def hundred : List Int := (List.range 100).map fun i => ((i : Nat) : Int)
theorem hundred_rg : rgV 0 100 = hundred.map V.int := by
  unfold rgV hundred
  rw [List.map_map]
  rfl
theorem hundred_nd : hundred.Nodup := by decide +kernel
theorem hundred_len : hundred.length = 100 := rfl
theorem hundred_mem {x : Int} (h : x ∈ hundred) : 0 ≤ x ∧ x < 100 := by
  unfold hundred at h
  obtain ⟨i, hi, rfl⟩ := List.mem_map.mp h
  have := List.mem_range.mp hi
  omega
theorem cons_nil_fin {α : Type} {xs : List α} {r : Int} (n : Nat) (h : xs.length = n) (r0 : 0 ≤ r) (r1 : r < n) : ∃ v ∈ xs, atI xs r = some v := by
  have hr : r.toNat < xs.length := by omega
  exact ⟨xs[r.toNat], List.getElem_mem hr, atI_int r0 (List.getElem?_eq_getElem hr)⟩
theorem iteB {c : Bool} {A B : Prop} (h1 : c = true → A) (h2 : c = false → B) : if c = true then A else B := by
  cases c
  · exact iteF (h2 rfl)
  · exact iteT (h1 rfl)
theorem sorted_one : ∀ {xs ys : List Int}, xs.Pairwise (· < ·) → ys.Pairwise (· < ·) → (∀ k, k ∈ xs ↔ k ∈ ys) → xs = ys
  | [], [], _, _, _ => rfl
  | [], y :: ys, _, _, h => (List.not_mem_nil ((h y).mpr List.mem_cons_self)).elim
  | x :: xs, [], _, _, h => (List.not_mem_nil ((h x).mp List.mem_cons_self)).elim
  | x :: xs, y :: ys, hx, hy, h => by
    have px := List.pairwise_cons.mp hx
    have py := List.pairwise_cons.mp hy
    have e : x = y := by
      rcases List.mem_cons.mp ((h x).mp List.mem_cons_self) with z | z
      · exact z
      · rcases List.mem_cons.mp ((h y).mpr List.mem_cons_self) with z2 | z2
        · exact z2.symm
        · have h1 := py.1 x z
          have h2 := px.1 y z2
          omega
    subst e
    have r : xs = ys := sorted_one px.2 py.2 fun k => by
      constructor
      · intro hk
        rcases List.mem_cons.mp ((h k).mp (List.mem_cons_of_mem _ hk)) with z | z
        · have h1 := px.1 k hk
          omega
        · exact z
      · intro hk
        rcases List.mem_cons.mp ((h k).mpr (List.mem_cons_of_mem _ hk)) with z | z
        · have h1 := py.1 k hk
          omega
        · exact z
    rw [r]
theorem nodup_few {S : List Int} : ∀ {ms : List Int}, ms.Nodup → (∀ k ∈ ms, k ∈ S) → ms.length ≤ S.length := by
  induction S with
  | nil =>
    intro ms _ h
    cases ms with
    | nil => exact Nat.le_refl _
    | cons x l => exact (List.not_mem_nil (h x List.mem_cons_self)).elim
  | cons y S ih =>
    intro ms nd h
    have z := ih (ms := ms.erase y) (nd.erase y) fun k hk => by
      have h1 := (nd.mem_erase_iff.mp hk)
      rcases List.mem_cons.mp (h k h1.2) with e | e
      · exact absurd e h1.1
      · exact e
    rw [List.length_cons]
    by_cases hy : y ∈ ms
    · rw [List.length_erase_of_mem hy] at z
      omega
    · rw [List.erase_of_not_mem hy] at z
      omega
theorem fnG_fun {P : Program} {w : World} {K : PySem.W.Frag} {mg : Str → Option Value} {base : Heap} {x ql : Str} {st : Stmt} {f : Addr} {fd : FuncData} {N ps : List Str} {k : Nat} {sp : Sp} (F : Fun K x ql st f fd) (S : FnScope N ps (defScope st)) (len : ∀ vs H Q E, sp vs H Q E → vs.length = ps.length)
    (hb : ∀ (cdv : Value) (A : Around) (outer : List Env) (s : Shared) (H : Hp) (vs : List V) (Q : VK) (E : XK), (A.deeper (envOfC ql (defScope st) s.heap.objs.size f cdv)).guards = some [] → Room k (A.deeper (envOfC ql (defScope st) s.heap.objs.size f cdv)) → sp vs H Q E →
      ∃ t, PSs (cxOf CX0 P w K mg base N ql (defScope st) f cdv A outer s H E).nox (defBody st) t ∧ t { nx := fun _ H' => Q .non H', rt := Q } (start N vs) H) : FnG P w K mg base CX0 (k + 1) f fd ps sp := by
  obtain ⟨oc, od, kV, doc, pm, an, cdv, ct, osl, rfl, lk, hcd⟩ := F.ex
  refine fnG_of lk hcd S len fun A outer s H vs Q E hg hr hsp => ?_
  obtain ⟨t, h, q⟩ := hb cdv A outer s H vs Q E hg hr hsp
  exact ⟨t, h.nox, q⟩
section
variable {X : Cx} {e : Expr}
/-- a test that is never asked, an expression that is never reckoned -/
def tNo : TT := fun _ _ _ => False
theorem pt_never : PT X e tNo := ⟨fun _ _ _ _ _ _ h => h.elim⟩
def tNoE : TE := fun _ _ _ => False
theorem pe_never : PE X e tNoE := ⟨fun _ _ _ _ _ _ h => h.elim⟩
end
end Su
/-! ### SC: a set of ints by a comprehension with two clauses -/
namespace Su
open PySem PySem.Spec PyProof.Rows L2
abbrev sc2 (e a b c d : Expr) (sp : Scope) (po : Pos) : Expr := .SetComp e [⟨a, b, [], 0⟩, ⟨c, d, [], 0⟩] sp po
section
variable {prog : Program} {w : World} {A : Around} {R : Result → Shared → Prop} {s : Shared} {e a b c d : Expr} {sp : Scope} {po : Pos} {it acc : Value} {env : Env}
theorem sc2_out : compTurn (sc2 e a b c d sp po) 0 it acc env = (do
      standAt b.pos
      match ← pyNext it with
      | none => pure (.done .next)
      | some v =>
        letOwnedTupleGo a it v
        assign a env v
        let x ← eval d env
        standAt d.pos
        let y ← foldedSetIterable d env x
        let _ ← runOwn (.compStart (sc2 e a b c d sp po) 1 (← holding [y] (pyIter y)) acc env) env
        again (.compLoop (sc2 e a b c d sp po) 0 it acc env)) := by rfl
theorem sc2_in : compTurn (sc2 e a b c d sp po) 1 it acc env = (do
      standAt d.pos
      match ← pyNext it with
      | none => pure (.done .next)
      | some v =>
        letOwnedTupleGo c it v
        assign c env v
        (do let x ← eval e env; standAt e.pos; let _ ← call (.builtin "set.add") [acc, x])
        again (.compLoop (sc2 e a b c d sp po) 1 it acc env)) := by rfl
/-- the tail of a turn that raises: the frame is noted -/
abbrev nb (prog : Program) (w : World) (A : Around) (env : Env) (R : Result → Shared → Prop) : Value → Shared → Prop := notedBy (model prog w) A env fun x u => R (.error x) u
theorem sc2_loop0 (hf : ∀ x, foldedSetIterable d env x = pure x) (J : Nat → Shared → Prop)
    (one : ∀ n u, J n u → wpAny (model prog w) A (pyNext it) (fun r u1 => match r with
      | none => R (.ok .next) u1
      | some v => wpAny (model prog w) A (letOwnedTupleGo a it v) (fun _ u2 => wpAny (model prog w) A (assign a env v) (fun _ u3 =>
          wpAny (model prog w) A (eval d env) (fun x u4 => wpAny (model prog w) A (pyIter x) (fun jt u5 =>
            codeAny (model prog w) A (.compStart (sc2 e a b c d sp po) 1 jt acc env) (fun r u6 => match r with
              | .ok _ => ∃ m, m < n ∧ J m u6
              | .error _ => False) u5) (nb prog w A env R) u4) (nb prog w A env R) u3) (nb prog w A env R) u2) (nb prog w A env R) u1) (nb prog w A env R) u)
    (n : Nat) (h : J n s) : codeAny (model prog w) A (.compLoop (sc2 e a b c d sp po) 0 it acc env) R s := by
  refine codeAny_loop rfl J (fun n u hJ => ?_) n h
  show wpAny _ A ((compTurn (sc2 e a b c d sp po) 0 it acc env).onRaise (fun x => do noteFrame x env; theTreesLotGoes x)) _ _ u
  refine wpAny_noted ?_
  rw [sc2_out]
  refine wpAny_bind (wpAny_standAt (wpAny_bind (wpAny_mono (one n u hJ) (fun r u1 h1 => ?_) fun _ _ k => k)))
  cases r with
  | none => exact wpAny_pure h1
  | some v =>
    refine wpAny_bind (wpAny_mono h1 (fun _ u2 h2 => wpAny_bind (wpAny_mono h2 (fun _ u3 h3 => ?_) fun _ _ k => k)) fun _ _ k => k)
    refine wpAny_bind (wpAny_mono h3 (fun x u4 h4 => ?_) fun _ _ k => k)
    refine wpAny_bind (wpAny_standAt (wpAny_bind (wpAny_of_eq (hf x) (wpAny_bind (wpAny_holding (wpAny_mono h4 (fun jt u5 h5 => ?_) fun _ _ k => k))))))
    refine wpAny_bind (wpAny_runOwn ?_)
    rw [Around.mark_none]
    refine codeAny_mono h5 fun r u6 hr => ?_
    cases r with
    | error x => exact hr.elim
    | ok f =>
      first
        | exact wpAny_pure ⟨rfl, hr⟩
        | exact wpAny_bind (wpAny_pure (wpAny_pure ⟨rfl, hr⟩))
theorem sc2_loop1 (J : Nat → Shared → Prop)
    (one : ∀ n u, J n u → wpAny (model prog w) A (pyNext it) (fun r u1 => match r with
      | none => R (.ok .next) u1
      | some v => wpAny (model prog w) A (letOwnedTupleGo c it v) (fun _ u2 => wpAny (model prog w) A (assign c env v) (fun _ u3 =>
          wpAny (model prog w) A (eval e env) (fun x u4 => wpAny (model prog w) A (call (.builtin "set.add") [acc, x]) (fun _ u5 => ∃ m, m < n ∧ J m u5) (nb prog w A env R) u4) (nb prog w A env R) u3)
            (nb prog w A env R) u2) (nb prog w A env R) u1) (nb prog w A env R) u)
    (n : Nat) (h : J n s) : codeAny (model prog w) A (.compLoop (sc2 e a b c d sp po) 1 it acc env) R s := by
  refine codeAny_loop rfl J (fun n u hJ => ?_) n h
  show wpAny _ A ((compTurn (sc2 e a b c d sp po) 1 it acc env).onRaise (fun x => do noteFrame x env; theTreesLotGoes x)) _ _ u
  refine wpAny_noted ?_
  rw [sc2_in]
  refine wpAny_bind (wpAny_standAt (wpAny_bind (wpAny_mono (one n u hJ) (fun r u1 h1 => ?_) fun _ _ k => k)))
  cases r with
  | none => exact wpAny_pure h1
  | some v =>
    refine wpAny_bind (wpAny_mono h1 (fun _ u2 h2 => wpAny_bind (wpAny_mono h2 (fun _ u3 h3 => ?_) fun _ _ k => k)) fun _ _ k => k)
    refine wpAny_bind (wpAny_bind (wpAny_mono h3 (fun x u4 h4 => wpAny_bind (wpAny_standAt (wpAny_bind (wpAny_mono h4 (fun _ u5 h5 => ?_) fun _ _ k => k)))) fun _ _ k => k))
    first
      | exact wpAny_pure (wpAny_pure ⟨rfl, h5⟩)
      | exact wpAny_pure ⟨rfl, h5⟩
theorem sc2_begin (h0 : codeAny (model prog w) A (.compLoop (sc2 e a b c d sp po) 1 it acc env) R s)
    (h : wpAny (model prog w) A (pyIter it) (fun jt u => codeAny (model prog w) A (.compLoop (sc2 e a b c d sp po) 1 jt acc env) R u) (nb prog w A env R) s) :
    codeAny (model prog w) A (.compStart (sc2 e a b c d sp po) 1 it acc env) R s := by
  refine codeAny_of_tree ?_
  show wpAny _ _ ((compStart (sc2 e a b c d sp po) 1 it acc env).onRaise (fun x => do noteFrame x env; standAt theWindowsPlace)) _ _ s
  refine wpAny_notedAt ?_
  unfold compStart
  show wpAny _ _ (ask >>= _) _ _ s
  refine wpAny_bind (wpAny_askSetting (wpAny_ite ?_))
  split
  · first
      | exact wpAny_pure ⟨rfl, h0⟩
      | exact wpAny_bind (wpAny_pure (wpAny_pure ⟨rfl, h0⟩))
  · refine wpAny_bind (wpAny_rule ?_)
    show wpAny _ _ (standAt d.pos >>= _) _ _ s
    exact wpAny_bind (wpAny_standAt (wpAny_bind (wpAny_mono h (fun jt u k => wpAny_pure ⟨rfl, k⟩) fun _ _ k => k)))
end
end Su
namespace Su
open PySem PySem.Spec PyProof.Rows L2
section
variable {X : Cx}
/-- what the comprehension asks: the outer walk, in each of its turns the inner one, and each int put into the set -/
def tSC (w : World) (wo : TI) (go : TG) (wn : TI) (gn : TG) (te : TE) (vs vs1 : List Nat) : TE := fun σ H Q => wo σ H fun J H1 => ∀ D, H1 D = none →
  ∃ W : Nat → Nat → Hp → Prop, (∃ m, W 0 m (upd H1 D (SetO w D (fun _ => false) 0))) ∧ ∀ i m H, W i m H →
    (J.stop i H ∧ Q (.ref D) H) ∨
    (J.go i H ∧ ∃ Nx : Hp → Prop, (∀ H', Nx H' → ∃ m', m' < m ∧ W (i + 1) m' H') ∧ ∀ x H', J.yld i H x H' → go x (wipe σ vs) H' fun σ2 H2 => wipe σ2 vs = wipe σ vs ∧
      wn σ2 H2 fun L H3 => ∃ U : Nat → Nat → Hp → Prop, (∃ m, U 0 m H3) ∧ ∀ j k H, U j k H →
        (L.stop j H ∧ Nx H) ∨
        (L.go j H ∧ ∃ Ny : Hp → Prop, (∀ H', Ny H' → ∃ k', k' < k ∧ U (j + 1) k' H') ∧ ∀ y H', L.yld j H y H' → gn y (wipe σ2 vs1) H' fun σ3 H4 => wipe σ3 vs1 = wipe σ2 vs1 ∧
          te σ3 H4 fun z H5 => ∃ (c : Int) (S : Int → Bool) (n : Nat), z = .int c ∧ H5 D = some (SetO w D S n) ∧ n + 1 < scanBound ∧
            Ny (upd H5 D (SetO w D (fun j => S j || decide (j = c)) (if S c = true then n else n + 1)))))
abbrev setE (w : World) : Obj := { cls := .type "set", dict := none, data := .set #[] 0 (.fresh 0 0 (!w.params.followText "set-order")) }
theorem put_int {pins : List (Addr × Obj)} {σ : L2.St} {H : Hp} {s : Shared} {E : Value → Shared → Prop} {D : Addr} {S : Int → Bool} {n : Nat} {k : Int} {v : Value} {Q : Value → Shared → Prop}
    (I : Inv X pins σ H s) (hD : H D = some (SetO X.w D S n)) (few : n + 1 < scanBound) (r : RelV (.int k) v)
    (h : ∀ t, Inv X pins σ (upd H D (SetO X.w D (fun j => S j || decide (j = k)) (if S k = true then n else n + 1))) t → Q .none t) :
    wpAny (model X.prog X.w) X.A (call (.builtin "set.add") [.ref D, v]) Q E s := by
  obtain ⟨tk, rfl⟩ := r
  refine setR_add (setO_get I hD) few fun g sb new => ?_
  have there : ∃ u, g.get? D = some u := by
    have ⟨o, _, _, _, ho, _⟩ := new
    exact ⟨o, ho⟩
  refine h _ (I.write (e := D) (t' := s.toks + 1) (by rw [hD]; trivial) (.inl rfl) (fun b u hb hu => ?_) there (setO_new new))
  exact (sb.2 b hb).trans hu
theorem pe_sc2 {e a b c d : Expr} {sp : Scope} {own : List (Str × Nat)} {vs1 : List Nat} {pos : Pos} {wo wn : TI} {go gn : TG} {te : TE} (hc : X.calm = true) (hN : X.N.Nodup) (pio : PI X a b wo)
    (ok : BlkOk X.N X.env.scope sp own) (hv : ∀ i ∈ vs1, i ∈ own.map (·.2))
    (pgo : ∀ (s : Shared) (H : Hp) (C : Addr) (cl : List (Str × Addr)) (fp : List Addr), PG (X.blk s H sp (compEnvC sp cl C X.env) fp) a go)
    (pin : ∀ (s : Shared) (H : Hp) (C : Addr) (cl : List (Str × Addr)) (fp : List Addr), PI (X.blk s H sp (compEnvC sp cl C X.env) fp) c d wn)
    (pgn : ∀ (s : Shared) (H : Hp) (C : Addr) (cl : List (Str × Addr)) (fp : List Addr), PG (X.blk s H sp (compEnvC sp cl C X.env) fp) c gn)
    (pe : ∀ (s : Shared) (H : Hp) (C : Addr) (cl : List (Str × Addr)) (fp : List Addr), PE (X.blk s H sp (compEnvC sp cl C X.env) fp) e te)
    (fo : ∀ x, foldedSetIterable b X.env x = pure x := by intro _; rfl) (fn : ∀ env x, foldedSetIterable d env x = pure x := by intro _ _; rfl) :
    PE X (sc2 e a b c d sp pos) (tSC X.w wo go wn gn te (own.map (·.2)) vs1) := by
  refine ⟨fun pins s σ H Q I hq => ?_⟩
  rw [PpSet.eval_SetComp]
  have cl0 : ∀ y ∈ sp.names, y.2 = .free → ∃ k, X.env.cells.lookup y.1 = some k := by
    intro y hy z
    rcases ok.free y hy z with k | k
    · exact I.ok.has _ (.inl k)
    · exact I.ok.has _ (.inr k)
  refine wpAny_comprehension_free (use := none) rfl fo (closure_ok cl0) ok.kind (fun y hy z => by rw [ok.uniq y hy, z]) ?_
  refine thn (pio.run pins s σ H _ I hq) fun xv s1 hx => thn hx fun iv s2 h2 => ?_
  obtain ⟨it, fa, tn, J, Hb, rfl, Ib, T, stb, fb, q⟩ := h2
  refine PpSet.newSet_ok (newEnv_comp ?_)
  generalize eD : s2.heap.objs.size = D
  obtain ⟨W, ⟨m0, w0⟩, turn⟩ := q D (Ib.hok.fresh (Nat.le_of_eq eD))
  generalize e3 : ({ s2 with heap := s2.heap.push (setE X.w) } : Shared) = s3
  have hp3 : s3.heap = s2.heap.push (setE X.w) := by rw [← e3]
  have Ic : Inv X pins σ (upd Hb D (SetO X.w D (fun _ => false) 0)) s3 := by
    rw [← e3]
    refine Ib.laid (t' := s2.toks) (fun _ _ z => Heap.get?_push_of_some _ z) (Nat.le_of_eq eD) ?_
    rw [← eD]
    exact setO_new (setR_fresh X.w)
  have small : ∀ x ∈ fa, x < s2.heap.objs.size := by
    intro x hx
    obtain ⟨o, z, _⟩ := T.obj _ _ stb x hx
    exact Heap.lt_size z
  have fc : ∀ x ∈ fa, FpOk X pins (upd Hb D (SetO X.w D (fun _ => false) 0)) x ∧ x < s3.heap.objs.size := by
    intro x hx
    have lt := small x hx
    constructor
    · refine ⟨?_, (fb x hx).2⟩
      rw [upd_ne (by rw [← eD]; exact Nat.ne_of_lt lt)]
      exact (fb x hx).1
    · rw [hp3, Heap.size_push]
      exact Nat.lt_succ_of_lt lt
  have stc : tn 0 s3.heap := T.keep _ _ _ stb fun _ _ _ z => by
    rw [hp3]
    exact Heap.get?_push_of_some _ z
  have Id := block_start Ic ok hN fc
  have qgo := pgo s3 (upd Hb D (SetO X.w D (fun _ => false) 0)) s3.heap.objs.size (cellsFrom (s3.heap.objs.size + 1) sp.names (cloFrom X.env.cells sp.names [])) fa
  have qin := pin s3 (upd Hb D (SetO X.w D (fun _ => false) 0)) s3.heap.objs.size (cellsFrom (s3.heap.objs.size + 1) sp.names (cloFrom X.env.cells sp.names [])) fa
  have qgn := pgn s3 (upd Hb D (SetO X.w D (fun _ => false) 0)) s3.heap.objs.size (cellsFrom (s3.heap.objs.size + 1) sp.names (cloFrom X.env.cells sp.names [])) fa
  have qe := pe s3 (upd Hb D (SetO X.w D (fun _ => false) 0)) s3.heap.objs.size (cellsFrom (s3.heap.objs.size + 1) sp.names (cloFrom X.env.cells sp.names [])) fa
  have nofa : ∀ x ∈ fa, (upd Hb D (SetO X.w D (fun _ => false) 0)) x = none := fun x hx => (fc x hx).1.1
  show codeAny _ _ (.compStart (sc2 e a b c d sp pos) 0 (.ref it) (.ref D) (compEnvC sp (cellsFrom (s3.heap.objs.size + 1) sp.names (cloFrom X.env.cells sp.names [])) s3.heap.objs.size X.env)) _ { s3 with heap := pushCells (s3.heap.push { cls := .type "dict", data := .dict #[] }) sp.names }
  generalize eE : compEnvC sp (cellsFrom (s3.heap.objs.size + 1) sp.names (cloFrom X.env.cells sp.names [])) s3.heap.objs.size X.env = en at Id qgo qin qgn qe ⊢
  have locE : en.locals = s3.heap.objs.size := by
    subst eE
    rfl
  generalize eH : upd Hb D (SetO X.w D (fun _ => false) 0) = Hc at Ic Id qgo qin qgn qe w0 nofa fc
  generalize e4 : ({ s3 with heap := pushCells (s3.heap.push { cls := .type "dict", data := .dict #[] }) sp.names } : Shared) = s4 at Id ⊢
  have std : tn 0 s4.heap := T.keep _ _ _ stc fun _ _ _ z => by
    rw [← e4]
    exact pushCells_keeps _ _ _ _ (Heap.get?_push_of_some _ z)
  have foot : ∀ {τ : L2.St} {G : Hp} {t : Shared}, Inv (X.blk s3 Hc sp en fa) [] τ G t → (∀ x ∈ fa, G x = none) → ∀ x ∈ fa, FpOk (X.blk s3 Hc sp en fa) [] G x := by
    intro τ G t It hn x hx
    refine ⟨hn x hx, (It.ok.exf x hx).1, It.ok.exfs x hx, .inl hx, fun y k z => (It.ok.exf x hx).2 y k z, fun p hp => ?_⟩
    exact absurd (show p ∈ ([] : List (Addr × Obj)) ++ [] from hp) (by simp)
  have main : codeAny (model X.prog X.w) X.A (.compLoop (sc2 e a b c d sp pos) 0 (.ref it) (.ref D) en) (compPost (model X.prog X.w) X.A X.xe none (fun u t => EP X pins σ Q u t) (.ref D) s3.heap.objs.size) s4 := by
    refine sc2_loop0 (fn en) (fun n t => ∃ i G, Inv (X.blk s3 Hc sp en fa) [] (wipe σ (own.map (·.2))) G t ∧ tn i t.heap ∧ (∀ x ∈ fa, G x = none) ∧ W i n G) ?_ m0 ⟨0, Hc, Id, std, nofa, w0⟩
    rintro n s5 ⟨i, H5, I5, st5, n5, w5⟩
    rcases turn i n H5 w5 with ⟨stop, qq⟩ | ⟨hgo, Nx, hNx, step⟩
    · refine thnF (T.done (X.blk s3 Hc sp en fa) rfl rfl rfl hc i [] s5 _ H5 (fun _ _ => False) I5 (foot I5 n5) st5 stop) fun r s6 ⟨hr, I6⟩ => ?_
      subst hr
      have I7 : Inv X pins σ H5 s6 := by
        refine Ic.call' (ch := fa) I6.os I6.base I6.hok I6.bare fun x hx => ?_
        have z := (fc x hx).1.2
        exact ⟨z.2.2.1, z.1, z.2.2.2.1, z.2.2.2.2⟩
      have nl : H5 s3.heap.objs.size = none := by
        have z : H5 en.locals = none := I6.free
        rwa [locE] at z
      obtain ⟨m, hn, _⟩ := I6.loc
      have hn2 : s6.heap.Ns en.locals m := hn
      rw [locE] at hn2
      obtain ⟨f0, f1, f2, f3, f4, f5⟩ := Ic.fpOk (Nat.le_refl _) nl
      refine ⟨m, hn2, fun g sb => ?_⟩
      exact ⟨.ref D, H5, I7.turned (t' := s6.toks) (fun y o hy z => (sb.2 y hy).trans z) f0 f1 f3 f4 f5, rfl, qq⟩
    · refine thnF (T.item (X.blk s3 Hc sp en fa) rfl rfl rfl hc i [] s5 _ H5 (fun _ _ => False) I5 (foot I5 n5) st5 hgo) fun r s6 ⟨u, hr, h6⟩ => ?_
      subst hr
      refine thnF h6 fun _ s7 ⟨x, H7, I7, r7, y7, st7, n7⟩ => ?_
      refine thnF (qgo.run _ s7 _ H7 x u _ (I7.pinned (foot I7 n7) (T.obj _ _ st7)) r7 (step x H7 y7)) fun _ s8 ⟨σ8, H8, I8, hw8, q8⟩ => ?_
      have shut : ∀ {τ : L2.St} {t : Shared} {G : Hp}, Inv (X.blk s3 Hc sp en fa) ([] ++ pinsAt fa s7.heap) τ G t → (wipe σ (own.map (·.2))).length = τ.length →
          (∀ (j : Nat) v, (wipe σ (own.map (·.2)))[j]? = some (some v) → τ[j]? = some (some v)) → Nx G →
          ∃ m, m < n ∧ ∃ i G, Inv (X.blk s3 Hc sp en fa) [] (wipe σ (own.map (·.2))) G t ∧ tn i t.heap ∧ (∀ x ∈ fa, G x = none) ∧ W i m G := by
        intro τ t G It hl hk nx
        obtain ⟨m', lt, w'⟩ := hNx G nx
        have held : ∀ y ∈ fa, ∀ o, s7.heap.get? y = some o → t.heap.get? y = some o ∧ G y = none := by
          intro y hy o z
          have k := It.pin (y, o) (List.mem_append_right _ (List.mem_append_right _ (mem_pinsAt hy z)))
          exact ⟨k.1, k.2.1⟩
        refine ⟨m', lt, i + 1, G, (It.unpinned (pins := [])).weak hl hk, T.keep _ _ _ st7 fun y hy o z => (held y hy o z).1, fun y hy => ?_, w'⟩
        obtain ⟨o, z, _⟩ := T.obj _ _ st7 y hy
        exact (held y hy o z).2
      have len8 : (wipe σ (own.map (·.2))).length = σ8.length := by
        rw [← hw8, wipe_length]
      have keep8 : ∀ (j : Nat) v, (wipe σ (own.map (·.2)))[j]? = some (some v) → (wipe σ8 vs1)[j]? = some (some v) := by
        intro j v z
        rw [← hw8] at z
        obtain ⟨z1, z2⟩ := wipe_some z
        rw [wipe_out fun k => z2 (hv j k)]
        exact z1
      refine thnF (qin.run _ s8 σ8 H8 _ I8 q8) fun xv s9 hx => thnF hx fun iw s10 h10 => ?_
      obtain ⟨jt, fi, tm, L, H10, rfl, I10, T1, st10, f10, U, ⟨m1, u1⟩, turn1⟩ := h10
      have foot1 : ∀ {G : Hp}, (∀ y ∈ fi, G y = none) → ∀ y ∈ fi, FpOk (X.blk s3 Hc sp en fa) ([] ++ pinsAt fa s7.heap) G y := fun hn y hy => ⟨hn y hy, (f10 y hy).2⟩
      have inner : codeAny (model X.prog X.w) X.A (.compLoop (sc2 e a b c d sp pos) 1 (.ref jt) (.ref D) en)
          (fun r t => match r with
            | .ok _ => ∃ m, m < n ∧ ∃ i G, Inv (X.blk s3 Hc sp en fa) [] (wipe σ (own.map (·.2))) G t ∧ tn i t.heap ∧ (∀ x ∈ fa, G x = none) ∧ W i m G
            | .error _ => False) s10 := by
        refine sc2_loop1 (fun k t => ∃ j G, Inv (X.blk s3 Hc sp en fa) ([] ++ pinsAt fa s7.heap) (wipe σ8 vs1) G t ∧ tm j t.heap ∧ (∀ y ∈ fi, G y = none) ∧ U j k G) ?_ m1
          ⟨0, H10, I10.weak (wipe_length _ _) (fun j v z => (wipe_some z).1), st10, fun y hy => (f10 y hy).1, u1⟩
        rintro k s11 ⟨j, H11, I11, st11, n11, w11⟩
        rcases turn1 j k H11 w11 with ⟨stop1, nx1⟩ | ⟨go1, Ny, hNy, step1⟩
        · refine thnF (T1.done (X.blk s3 Hc sp en fa) rfl rfl rfl hc j _ s11 (wipe σ8 vs1) H11 (fun _ _ => False) I11 (foot1 n11) st11 stop1) fun r s12 ⟨hr, I12⟩ => ?_
          subst hr
          exact shut I12 (len8.trans (wipe_length σ8 vs1).symm) keep8 nx1
        · refine thnF (T1.item (X.blk s3 Hc sp en fa) rfl rfl rfl hc j _ s11 (wipe σ8 vs1) H11 (fun _ _ => False) I11 (foot1 n11) st11 go1) fun r s12 ⟨v1, hr, h12⟩ => ?_
          subst hr
          refine thnF h12 fun _ s13 ⟨x1, H13, I13, r13, y13, st13, n13⟩ => ?_
          refine thnF (qgn.run _ s13 (wipe σ8 vs1) H13 x1 v1 _ (I13.pinned (foot1 n13) (T1.obj _ _ st13)) r13 (step1 x1 H13 y13)) fun _ s14 ⟨σ14, H14, I14, hw14, q14⟩ => ?_
          refine thnF (qe.run _ s14 σ14 H14 _ I14 q14) fun z s15 ⟨yv, H15, I15, r15, cc, S, nn, ey, hD15, few, nx⟩ => ?_
          subst ey
          refine put_int (X := X.blk s3 Hc sp en fa) I15 hD15 few r15 fun s16 I16 => ?_
          obtain ⟨m', lt, w'⟩ := hNy _ nx
          have held : ∀ y ∈ fi, ∀ o, s13.heap.get? y = some o → s16.heap.get? y = some o ∧ (upd H15 D (SetO X.w D (fun j => S j || decide (j = cc)) (if S cc = true then nn else nn + 1))) y = none := by
            intro y hy o z
            have k := I16.pin (y, o) (List.mem_append_right _ (List.mem_append_right _ (mem_pinsAt hy z)))
            exact ⟨k.1, k.2.1⟩
          refine ⟨m', lt, j + 1, _, I16.unpinned.weak (by rw [← hw14, wipe_length]) (fun j v z => by rw [← hw14] at z; exact (wipe_some z).1), T1.keep _ _ _ st13 fun y hy o z => (held y hy o z).1, fun y hy => ?_, w'⟩
          obtain ⟨o, z, _⟩ := T1.obj _ _ st13 y hy
          exact (held y hy o z).2
      exact sc2_begin inner (T1.self X.A 0 _ _ _ st10 inner)
  exact PpSet.codeAny_compStart_set main (T.self X.A 0 _ _ _ std main)
end
end Su
/-! ### SE: sets of ints: set(l), sorted(s) of any size -/
namespace Su
open PySem PySem.Spec PyProof.Rows L2
/-- the set that set(..) begins with -/
abbrev set0 (w : World) : Obj := { cls := .type "set", dict := none, data := .set #[] 0 (.fresh 0 0 (!w.params.followText "set-order")) }
section
variable {P : Program} {w : World} {A : Around} {E : Value → Shared → Prop} {s : Shared}
theorem set_of_list {l : Addr} {its : Array Value} (ns : List Int) {Q : Value → Shared → Prop} (hh : A.handled = none) (hl : s.heap.IsList l its) (ia : IntsAre its.toList ns) (few : ns.length + 1 < scanBound)
    (q : ∀ (h' : Heap) (tk c : Nat), SetR w h' s.heap.objs.size (fun j => decide (j ∈ ns)) c → c ≤ ns.length → (∀ b o, s.heap.get? b = some o → h'.get? b = some o) → Q (.ref s.heap.objs.size) { s with heap := h', toks := tk }) :
    wpAny (model P w) A (call (.type "set") [.ref l]) Q E s := by
  have sz : its.size = ns.length := by
    have z := IntsAre.length ia
    rwa [Array.length_toList] at z
  obtain ⟨c0, tl0, m0⟩ := F.called_set.mro
  have m1 := F.called_set.made
  have m2 := F.called_set.sub
  have m3 := F.called_set.notType
  have m4 := F.called_set.canCreate
  have m5 := F.typeCall_set_1 (.ref l)
  refine wpAny_call (codeAny_of_tree ?_)
  show wpAny _ _ (callAny (.type "set") _) _ _ _
  refine wpAny_pure ⟨Code.quiet_builtin _ (by decide +kernel), codeAny_builtin F.entry_type_call ?_⟩
  rw [Around.under_plain (weight_type_call_type "set" [.ref l] []) rfl]
  repeat (any_goals (first | assumption | wp_step))
  refine codeAny_mono (code_set_led1 (.ref l) (E := E) (Q₁ := fun x t => x = .ref s.heap.objs.size ∧ t = { s with heap := s.heap.push (set0 w) }) ⟨rfl, rfl⟩) fun r t hr => ?_
  match r, hr with
  | .error e, hr => exact hr
  | .ok .next, hr => exact hr.elim
  | .ok .brk, hr => exact hr.elim
  | .ok .cont, hr => exact hr.elim
  | .ok (.ret x), hr =>
    obtain ⟨rfl, rfl⟩ := hr
    have at0 : (s.heap.push (set0 w)).get? s.heap.objs.size = some (set0 w) := Heap.get?_push_size _ rfl
    have ty0 : Shared.TypeIs { s with heap := s.heap.push (set0 w) } (.ref s.heap.objs.size) "set" := ⟨_, at0, rfl⟩
    have n1 := F.called_set.init.lookup
    have n2 := F.called_set.init.bind (.ref s.heap.objs.size)
    repeat (any_goals (first | assumption | wp_step))
    refine codeAny_mono (codeAny_call_builtin (R := wants (fun r t => r = .none ∧ ∃ h' tk c, t = { s with heap := h', toks := tk } ∧ SetR w h' s.heap.objs.size (fun j => decide (j ∈ ns)) c ∧ c ≤ ns.length ∧ ∀ b o, s.heap.get? b = some o → h'.get? b = some o) E)
      F.called_set.init.plain F.entry_set_init (check_set_init_1 ty0 ?_)) fun r2 t2 hr2 => ?_
    · obtain ⟨⟨oc, od, odt, os⟩, ho, hc, nl, hd⟩ := hl
      simp only at hc hd
      subst hc hd
      have lt : l < s.heap.objs.size := Heap.lt_size ho
      have ho1 : (s.heap.push (set0 w)).get? l = some { cls := .type "list", dict := od, data := .seq its nl, slots := os } := Heap.get?_push_of_some _ ho
      have isl : (s.heap.push (set0 w)).IsList l its := ⟨_, ho1, rfl, nl, rfl⟩
      have p1 := F.sub_list_set
      have p2 := F.sub_list_frozenset
      have p3 : (Value.type "list" == Value.type "dict") = false := by decide
      unfold Builtin.«set.__init__» noKeywords Builtin.Frozenset.updateFrom
      generalize hPI : pyIter = PI
      wp_walk
      subst hPI
      refine wpAny_pyIter_list isl (wpAny_bind (wpAny_runValue ?_))
      have size1 : (s.heap.push (set0 w)).objs.size = s.heap.objs.size + 1 := Heap.size_push ..
      have ap : l ≠ (s.heap.push (set0 w)).objs.size := by
        rw [size1]
        exact Nat.ne_of_lt (Nat.lt_succ_of_lt lt)
      have ap2 : s.heap.objs.size ∉ [(s.heap.push (set0 w)).objs.size, l] := by
        rw [size1]
        simp only [List.mem_cons, List.not_mem_nil, or_false, not_or]
        exact ⟨Nat.ne_of_lt (Nat.lt_succ_self _), Nat.ne_of_gt lt⟩
      refine set_update_ints ((Walks.list (by simp [hh]) _ l ap its).toS) s.heap.objs.size ap2 ns sz few (fun i v hv => ?_) (its.size - 0) 0 _ (by omega) (Nat.zero_le _) ⟨⟨_, Heap.get?_push_size _ rfl, rfl, rfl⟩, isl.push _⟩ ⟨0, Nat.le_refl 0, setR_new_at (Heap.get?_push_of_some _ at0)⟩ fun t3 c3 mv hc3 hS3 => ?_
      · have hi : i < ns.length := by
          rw [← sz]
          exact (Array.getElem?_eq_some_iff.mp hv).1
        obtain ⟨tk, e⟩ := PyProof.Rows.IntsAre.int_at ia i v (by rw [Array.getElem?_toList]; exact hv)
        refine ⟨ns[i], tk, List.getElem?_eq_getElem hi, ?_⟩
        rw [e, List.getD_eq_getElem?_getD, List.getElem?_eq_getElem hi] <;> rfl
      · obtain ⟨h3, g3, d3, tk3, os3⟩ := t3
        obtain rfl : g3 = s.gens := mv.gens
        obtain rfl : d3 = s.drawn := mv.drawn
        obtain rfl : os3 = s.os := mv.os
        show wpAny _ _ _ _ _ _
        refine wpAny_pure ?_
        show wpAny _ _ (ret Value.none) _ _ _
        refine wpAny_pure ⟨rfl, h3, tk3, c3, rfl, hS3, by omega, fun b o e => ?_⟩
        have bl : b < s.heap.objs.size := Heap.lt_size e
        refine mv.heap b o ?_ (Heap.get?_push_of_some _ (Heap.get?_push_of_some _ e))
        rw [size1]
        simp only [List.mem_cons, List.not_mem_nil, or_false, not_or]
        exact ⟨Nat.ne_of_lt bl, Nat.ne_of_lt (Nat.lt_succ_of_lt bl)⟩
    · match r2, hr2 with
      | .error e, hr2 => exact hr2
      | .ok .next, hr2 => exact hr2.elim
      | .ok .brk, hr2 => exact hr2.elim
      | .ok .cont, hr2 => exact hr2.elim
      | .ok (.ret y), hr2 =>
        obtain ⟨rfl, h', tk, c, rfl, hS, hc, hk⟩ := hr2
        repeat (any_goals (first | assumption | wp_step))
        exact q _ _ _ hS hc hk
end
/-- a set of ints whose members are those of l -/
def SetIs (w : World) (H : Hp) (D : Addr) (l : List Int) : Prop := ∃ (S : Int → Bool) (n : Nat) (d : List Int), H D = some (SetO w D S n) ∧ d.Nodup ∧ d.length = n ∧ (∀ k, S k = true ↔ k ∈ d) ∧ ∀ k, k ∈ d ↔ k ∈ l
theorem SetIs.add {w : World} {H : Hp} {D : Addr} {l : List Int} (h : SetIs w H D l) {A : List Int} (hA : A.length < 1000) (hl : ∀ k ∈ l, k ∈ A) (c : Int) :
    ∃ (S : Int → Bool) (n : Nat), H D = some (SetO w D S n) ∧ n + 1 < scanBound ∧ ∀ (H' : Hp), H' D = some (SetO w D (fun j => S j || decide (j = c)) (if S c = true then n else n + 1)) → SetIs w H' D (l ++ [c]) := by
  obtain ⟨S, n, d, e, nd, hn, hS, hd⟩ := h
  have z := nodup_few (S := A) nd fun k hk => hl k ((hd k).mp hk)
  refine ⟨S, n, e, by unfold scanBound; omega, fun H' e' => ?_⟩
  by_cases hc : S c = true
  · rw [if_pos hc] at e'
    refine ⟨_, n, d, e', nd, hn, fun k => ?_, fun k => ?_⟩
    · rw [Bool.or_eq_true, decide_eq_true_eq, hS k]
      constructor
      · rintro (h | rfl)
        · exact h
        · exact (hS k).mp hc
      · exact .inl
    · rw [List.mem_append, List.mem_singleton, hd k]
      constructor
      · exact .inl
      · rintro (h | rfl)
        · exact h
        · exact (hd k).mp ((hS k).mp hc)
  · rw [if_neg hc] at e'
    refine ⟨_, n + 1, c :: d, e', List.nodup_cons.mpr ⟨fun h => hc ((hS c).mpr h), nd⟩, by rw [List.length_cons, hn], fun k => ?_, fun k => ?_⟩
    · rw [Bool.or_eq_true, decide_eq_true_eq, hS k, List.mem_cons]
      exact Or.comm
    · rw [List.mem_append, List.mem_singleton, List.mem_cons, hd k]
      exact Or.comm
theorem SetIs.of {w : World} {h : Heap} {H : Hp} {D : Addr} {S : Int → Bool} {c : Nat} {l : List Int} (R : SetR w h D S c) (e : H D = some (SetO w D S c)) (hl : ∀ k, S k = true ↔ k ∈ l) : SetIs w H D l := by
  obtain ⟨o, es, ep, t, ho, hex, hd, g, nd, hm, hb, hf, hn, _⟩ := R
  exact ⟨S, c, es.toList.map keyOf, e, nd, by rw [List.length_map, Array.length_toList]; exact hn, hm, fun k => (hm k).symm.trans (hl k)⟩
section
variable {X : Cx}
/-- set(l), l a list of ints -/
def rSetL (w : World) (K : PySem.W.Frag) : List V → Hp → VK → Prop := fun xs H Q => ∃ (l : Addr) (ns : List Int), xs = [.ref l] ∧ SqL K H l (ns.map V.int) ∧ ns.length ≤ 4000 ∧ ∀ (p : Addr) (H' : Hp), Same H H' → H p = none → SetIs w H' p ns → Q (.ref p) H'
theorem cr_setL (hc : X.calm = true) : CallR X (.type "set") (rSetL X.w X.K) := by
  intro pins s σ H xs us Q I r h
  obtain ⟨l, ns, rfl, hq, hl, q⟩ := h
  rw [Vals.ref1 r]
  obtain ⟨its, rv, pl, hz⟩ := I.list hq
  refine set_of_list ns (I.ok.hd hc) pl.isList (by simpa using ints_of rv) (by unfold scanBound; omega) fun h' tk c hR hc' hk => ?_
  have new : H s.heap.objs.size = none := I.hok.fresh (Nat.le_refl _)
  refine ⟨.ref s.heap.objs.size, _, I.laid (t' := tk) hk (Nat.le_refl _) (setO_new hR), rfl, q _ _ (same_upd new) new ?_⟩
  exact SetIs.of hR upd_same fun k => decide_eq_true_iff
/-- sorted(s), s a set of ints -/
theorem sorted_setA {P : Program} {w : World} {A : Around} {E : Value → Shared → Prop} {s : Shared} {a : Addr} {S : Int → Bool} {n : Nat} {Q : Value → Shared → Prop} (R : SetR w s.heap a S n) (hh : A.handled = none)
    (q : ∀ (t : Shared) (p : Addr) (out : Array Value) (c : Nat) (ns : List Int), (∀ b o, s.heap.get? b = some o → t.heap.get? b = some o) → t.gens = s.gens → t.os = s.os → s.heap.objs.size ≤ p →
      t.heap.get? p = some (seqObj "list" out c) → IntsAre out.toList ns → ns.Pairwise (· < ·) → (∀ k, k ∈ ns ↔ S k = true) → ns.length < 4096 → Q (.ref p) t) :
    wpAny (model P w) A (call (.builtin "sorted") [.ref a]) Q E s := by
  obtain ⟨o, es, ep, t, ho, hex, hd, g, nd, hm, hb, hf, hn, hr, hl⟩ := R
  refine Calls.call_function_entry kind_sorted plain_sorted entry_sorted (args_sorted1 _) ?_
  unfold Builtin.«sorted»
  refine wpAny_bind (m := checkCount "sorted" 1 1 _) (wpAny_pure (wpAny_bind (collect_set (A := A.in1) hh ⟨o, ho, hex.1, hd⟩ hf hb hr hl fun s1 vs k1 hz g1 o1 pm => ?_)))
  have len : vs.length = es.size := by
    rw [pm.length_eq, List.length_map, Array.length_toList]
  have hI : IntsAre vs (vs.map Builtin.Re.reRawOf) := L2.ints_of vs fun v hv => by
    obtain ⟨x, hx, z⟩ := List.mem_map.mp (pm.mem_iff.mp hv)
    obtain ⟨k, tk, h1, _⟩ := g x hx
    exact ⟨k, tk, z ▸ h1⟩
  have pk : (vs.map Builtin.Re.reRawOf).Perm (es.toList.map keyOf) := by
    have z := pm.map Builtin.Re.reRawOf
    rwa [List.map_map] at z
  have small : vs.length ≤ sizeLine := by
    have : es.size < 4096 := hb
    rw [len, sizeLine_eq]
    omega
  refine wpAny_bind (wpAny_newList ?_ small)
  have at1 : (s1.heap.push (seqObj "list" vs.toArray 0)).get? s1.heap.objs.size = some (seqObj "list" vs.toArray 0) := Heap.get?_push_size _ rfl
  refine wpAny_bind (wpAny_holding (wpAny_call_entry slot_list_sort ⟨_, at1, rfl⟩ entry_list_sort (SrtO.list_sort_ord SrtO.swo_int at1 small (fun h2 => SrtO.ints_sortable hI h2) fun out h1 h2 => ⟨_, rfl, ?_⟩) (args_list_sort _)))
  obtain ⟨k3, k4, k5⟩ := SrtO.ints_out hI h1 h2
  obtain ⟨c, hc⟩ := sortedHeap_at (vs := vs) (out := out.toArray) at1
  have pn := k4.trans pk
  refine wpAny_pure ⟨_, rfl, q _ s1.heap.objs.size out.toArray c (out.map SrtO.iv) (fun b u z => ?_) g1 o1 hz hc k3 (lt_of_le_nodup _ k5 (pn.nodup_iff.mpr nd)) (fun k => by rw [pn.mem_iff, ← hm k]) ?_⟩
  · have y := k1 b u z
    have lt := Heap.lt_size y
    show (sortedHeap (s1.heap.push (seqObj "list" vs.toArray 0)) s1.heap.objs.size vs out.toArray).get? b = some u
    rw [sortedHeap_old (Nat.ne_of_lt lt) (by rw [size_push']; exact Nat.lt_succ_of_lt lt)]
    exact Heap.get?_push_of_some _ y
  · rw [pn.length_eq, List.length_map, Array.length_toList]
    exact hb
def rSortedS (w : World) : List V → Hp → VK → Prop := fun vs H Q => ∃ (a : Addr) (l : List Int), vs = [.ref a] ∧ SetIs w H a l ∧ ∀ (ns : List Int) (p : Addr), ns.Pairwise (· < ·) → (∀ k : Int, k ∈ ns ↔ k ∈ l) → H p = none → Q (.ref p) (upd H p (.lst (ns.map V.int)))
theorem cr_sortedS (hc : X.calm = true) : CallR X (.builtin "sorted") (rSortedS X.w) := by
  intro pins s σ H vs us Q I r h
  obtain ⟨a, l, rfl, ⟨S, n, d, ha, nd, hn, hS, hd⟩, q⟩ := h
  rw [Vals.ref1 r]
  refine sorted_setA (setO_get I ha) (I.ok.hd hc) fun t p out c ns k g o hp hg hi hs hm hl => ?_
  have len : (ns.map V.int).length ≤ sizeLine := by
    rw [List.length_map, sizeLine_eq]
    omega
  have new : H p = none := I.hok.fresh hp
  have J : Inv X pins σ (upd H p (.lst (ns.map V.int))) { s with heap := t.heap, gens := t.gens, drawn := t.drawn, toks := t.toks } :=
    I.call (ch := []) (Un.laid k hp new) (I.hok.laid k hp ⟨len, out.toList, c, vals_of_ints hi, hg⟩) (by rw [g]; exact I.bare) (fun _ z => nomatch z)
  have et : t = { s with heap := t.heap, gens := t.gens, drawn := t.drawn, toks := t.toks } := by
    cases t
    cases s
    cases o
    rfl
  rw [et]
  exact ⟨.ref p, _, J, rfl, q ns p hs (fun k => (hm k).trans ((hS k).trans (hd k))) new⟩
end
end Su
/-! ### WA: webs in the heap -/
namespace Su
open PySem PySem.Spec PyProof.Rows L2
/-- a tuple, by whatever it was made -/
def T2 (H : Hp) (a : Addr) (xs : List V) : Prop := PTup H a xs ∨ H a = some (.tup xs)
theorem T2.sq {K : PySem.W.Frag} {H : Hp} {a : Addr} {xs : List V} (h : T2 H a xs) : SqT K H a xs := by
  rcases h with h | h
  · exact h.sq
  · exact .inl (.inl h)
theorem T2.same {H H' : Hp} {a : Addr} {xs : List V} (h : T2 H a xs) (s : Same H H') : T2 H' a xs := by
  rcases h with h | h
  · exact .inl (h.same s)
  · exact .inr (s _ _ h)
theorem T2.ty {K : PySem.W.Frag} {H : Hp} {a : Addr} {xs : List V} (h : T2 H a xs) : TyX K H (.ref a) (.type "tuple") := by
  rcases h with ⟨o, h, _⟩ | h
  · exact .fTuple h
  · exact .base (.tup h)
/-- all tuples stay -/
def K2 (H H' : Hp) : Prop := ∀ a xs, T2 H a xs → T2 H' a xs
theorem K2.same {H H' : Hp} (s : Same H H') : K2 H H' := fun _ _ h => h.same s
theorem K2.trans {H H1 H2 : Hp} (a : K2 H H1) (b : K2 H1 H2) : K2 H H2 := fun x xs h => b x xs (a x xs h)
/-- what is no tuple may be changed -/
theorem K2.upd {H : Hp} {a : Addr} {o u : HO} (e : H a = some o) (n : ∀ xs, o ≠ .tup xs) (n2 : ∀ b xs, o ≠ .frz b (.tup xs)) : K2 H (upd H a u) := by
  rintro b xs (⟨ob, h, d⟩ | h)
  · refine .inl ⟨ob, ?_, d⟩
    rw [upd_ne]
    · exact h
    · rintro rfl
      rw [e] at h
      cases h
      exact n2 _ _ rfl
  · refine .inr ?_
    rw [upd_ne]
    · exact h
    · rintro rfl
      rw [e] at h
      cases h
      exact n _ rfl
theorem K2.lst {H : Hp} {a : Addr} {xs : List V} {u : HO} (e : H a = some (.lst xs)) : K2 H (L2.upd H a u) := K2.upd e (fun _ z => nomatch z) (fun _ _ z => nomatch z)
abbrev Rw := List Int × List Int
def RowAt (H : Hp) (v : V) (r : Rw) : Prop := ∃ a b c, v = .ref a ∧ T2 H a [.ref b, .ref c] ∧ T2 H b (r.1.map V.int) ∧ T2 H c (r.2.map V.int)
theorem RowAt.keep {H H' : Hp} {v : V} {r : Rw} (k : K2 H H') (h : RowAt H v r) : RowAt H' v r := by
  obtain ⟨a, b, c, e, h1, h2, h3⟩ := h
  exact ⟨a, b, c, e, k _ _ h1, k _ _ h2, k _ _ h3⟩
def RowsAt (H : Hp) : List V → List Rw → Prop
  | [], [] => True
  | v :: vs, r :: rs => RowAt H v r ∧ RowsAt H vs rs
  | _, _ => False
theorem RowsAt.keep {H H' : Hp} (k : K2 H H') : ∀ {vs : List V} {rs : List Rw}, RowsAt H vs rs → RowsAt H' vs rs
  | [], [], _ => trivial
  | _ :: _, _ :: _, h => ⟨h.1.keep k, RowsAt.keep k h.2⟩
  | [], _ :: _, h => h.elim
  | _ :: _, [], h => h.elim
theorem RowsAt.len {H : Hp} : ∀ {vs : List V} {rs : List Rw}, RowsAt H vs rs → vs.length = rs.length
  | [], [], _ => rfl
  | _ :: _, _ :: _, h => by rw [List.length_cons, List.length_cons, RowsAt.len h.2]
  | [], _ :: _, h => h.elim
  | _ :: _, [], h => h.elim
theorem RowsAt.get {H : Hp} : ∀ {vs : List V} {rs : List Rw}, RowsAt H vs rs → ∀ {i : Nat} {v : V}, vs[i]? = some v → ∃ r, rs[i]? = some r ∧ RowAt H v r
  | [], [], _, i, v, e => by simp at e
  | _ :: _, _ :: _, h, 0, v, e => by
    obtain rfl := (by simpa using e : _ = v)
    exact ⟨_, rfl, h.1⟩
  | _ :: _, _ :: _, h, i + 1, v, e => RowsAt.get h.2 (i := i) (by simpa using e)
  | [], _ :: _, h, _, _, _ => h.elim
  | _ :: _, [], h, _, _, _ => h.elim
theorem RowsAt.app {H : Hp} : ∀ {vs ws : List V} {rs qs : List Rw}, RowsAt H vs rs → RowsAt H ws qs → RowsAt H (vs ++ ws) (rs ++ qs)
  | [], _, [], _, _, h => h
  | _ :: _, _, _ :: _, _, g, h => ⟨g.1, RowsAt.app g.2 h⟩
  | [], _, _ :: _, _, g, _ => g.elim
  | _ :: _, _, [], _, g, _ => g.elim
theorem RowsAt.snoc {H : Hp} {vs : List V} {rs : List Rw} {v : V} {r : Rw} (g : RowsAt H vs rs) (h : RowAt H v r) : RowsAt H (vs ++ [v]) (rs ++ [r]) := g.app ⟨h, trivial⟩
theorem RowsAt.of {H : Hp} : ∀ {vs : List V} {rs : List Rw}, vs.length = rs.length → (∀ (i : Nat) (v : V) (r : Rw), vs[i]? = some v → rs[i]? = some r → RowAt H v r) → RowsAt H vs rs
  | [], [], _, _ => trivial
  | v :: vs, r :: rs, e, h => ⟨h 0 v r rfl rfl, RowsAt.of (by simpa using e) fun i x y h1 h2 => h (i + 1) x y h1 h2⟩
  | [], _ :: _, e, _ => by simp at e
  | _ :: _, [], e, _ => by simp at e
/-- a web in the heap -/
def WebAt (H : Hp) (p : Addr) (rs : List Rw) : Prop := ∃ ws, H p = some (.lst ws) ∧ RowsAt H ws rs
theorem WebAt.same {H H' : Hp} {p : Addr} {rs : List Rw} (h : WebAt H p rs) (s : Same H H') : WebAt H' p rs := by
  obtain ⟨ws, e, r⟩ := h
  exact ⟨ws, s _ _ e, r.keep (K2.same s)⟩
/-- rising numbers within a bound -/
structure Ris (lo hi : Int) (ns : List Int) : Prop where
  pw : ns.Pairwise (· < ·)
  lo : ∀ k ∈ ns, lo ≤ k
  hi : ∀ k ∈ ns, k ≤ hi
structure RowOk (n : Nat) (r : Rw) : Prop where
  rooms : Ris 0 99 r.1
  few : r.1.length ≤ 6
  tos : Ris 0 ((n : Int) - 1) r.2
def allRooms (rs : List Rw) : List Int := (rs.map Prod.fst).flatten
structure WebOk (rs : List Rw) : Prop where
  pos : 1 ≤ rs.length
  few : rs.length ≤ 80
  row : ∀ r ∈ rs, RowOk rs.length r
  all : ∃ S : List Int, S.length ≤ 12 ∧ ∀ k ∈ allRooms rs, k ∈ S
theorem ris_len {ns : List Int} {n : Nat} : Ris 0 ((n : Int) - 1) ns → ns.length ≤ n := by
  induction n generalizing ns with
  | zero =>
    intro h
    cases ns with
    | nil => exact Nat.le_refl _
    | cons a l =>
      have h1 := h.lo a List.mem_cons_self
      have h2 := h.hi a List.mem_cons_self
      omega
  | succ n ih =>
    intro h
    rcases List.eq_nil_or_concat ns with e | ⟨l, a, e⟩
    · rw [e]
      exact Nat.zero_le _
    · rw [List.concat_eq_append] at e
      subst e
      have pw := List.pairwise_append.mp h.pw
      have ha := h.hi a (List.mem_append_right _ List.mem_cons_self)
      have z := ih (ns := l) ⟨pw.1, fun k hk => h.lo k (List.mem_append_left _ hk), fun k hk => by
        have := pw.2.2 k hk a List.mem_cons_self
        omega⟩
      rw [List.length_append]
      show l.length + 1 ≤ n + 1
      omega
section
variable {X : Cx}
/-- a slice of a tuple, whatever it is -/
def rSl2 : V → Option Int → Option Int → Hp → VK → Prop := fun x lo hi H Q => ∃ a xs, x = .ref a ∧ T2 H a xs ∧ ∀ v H', Same H H' → T2 H' v (cutV xs lo hi) → Q (.ref v) H'
theorem sl_tup2 : SlR X rSl2 := by
  intro pins s σ H x v vl vu lo hi sl Q I rx hs pl pu h
  obtain ⟨a, xs, rfl, hx, q⟩ := h
  refine sl_tupA pins s σ H _ v vl vu lo hi sl Q I rx hs pl pu ⟨a, xs, rfl, hx.sq, fun hw => q a H (Same.refl H) ?_, fun _ p np => q p _ (same_upd np) (.inr upd_same)⟩
  have z : cutV xs lo hi = xs := by
    unfold cutV
    rw [hw.1, hw.2, Nat.sub_zero, List.drop_zero, List.take_length]
  rw [z]
  exact hx
end
theorem cut_tail (xs : List V) : cutV xs (some 1) none = xs.drop 1 := by
  cases xs with
  | nil => rfl
  | cons x l =>
    have e1 : HT.sIx (x :: l).length 0 (some 1) = 1 := by
      have z := HT.sIx_nat (x :: l).length 0 1
      have z2 : HT.sIx (x :: l).length 0 (some (1 : Int)) = min 1 (x :: l).length := z
      rw [z2, List.length_cons]
      omega
    unfold cutV
    rw [e1, HT.sIx_none, List.take_of_length_le]
    rw [List.length_drop]
    exact Nat.le_refl _
theorem rep_all (n : Nat) : (List.replicate n true).all id = true := by
  rw [List.all_eq_true]
  intro x hx
  rw [List.eq_of_mem_replicate hx]
  rfl
theorem rep_snoc (n : Nat) : (List.replicate n (V.bl true)) ++ [V.bl true] = List.replicate (n + 1) (V.bl true) := by
  rw [← List.replicate_succ']
theorem rep_map (n : Nat) : (List.replicate n true).map V.bl = List.replicate n (V.bl true) := List.map_replicate
/-! a comprehension over zip of two tuples -/
open RZ in
theorem lc_zipT {K : PySem.W.Frag} {a b : Addr} {xs ys : List V} {g : TG} {tt : TT} {te : TE} {vs : List Nat} {σ : L2.St} {H1 : Hp} {D : Addr} {Qd : Hp → Prop} (hl : ys.length ≤ xs.length) (Pv : Nat → Hp → Prop) (h0 : Pv 0 (upd H1 D (.lst [])))
    (hq : ∀ i H, i ≤ ys.length → Pv i H → SqT K H a xs ∧ SqT K H b ys)
    (hs : ∀ (i : Nat) (x y : V) (T : Addr) (H : Hp), xs[i]? = some x → ys[i]? = some y → Pv i H → H T = none → g (.ref T) (wipe σ vs) (upd H T (.tup [x, y])) fun σ2 H2 => wipe σ2 vs = wipe σ vs ∧ tt σ2 H2 fun b H3 =>
      if b = true then te σ2 H3 fun y H4 => ∃ acc, H4 D = some (.lst acc) ∧ acc.length < sizeLine ∧ Pv (i + 1) (upd H4 D (.lst (acc ++ [y]))) else Pv (i + 1) H3) (hd : ∀ H, Pv ys.length H → Qd H) :
    ∃ W : Nat → Nat → Hp → Prop, (∃ m, W 0 m (upd H1 D (.lst []))) ∧ ∀ i m H, W i m H →
      ((ItzT K a b).stop i H ∧ Qd H) ∨ ((ItzT K a b).go i H ∧ ∃ Nx : Hp → Prop, (∀ H', Nx H' → ∃ m', m' < m ∧ W (i + 1) m' H') ∧ ∀ x H', (ItzT K a b).yld i H x H' → g x (wipe σ vs) H' fun σ2 H2 => wipe σ2 vs = wipe σ vs ∧ tt σ2 H2 fun b H3 =>
        if b = true then te σ2 H3 fun y H4 => ∃ acc, H4 D = some (.lst acc) ∧ acc.length < sizeLine ∧ Nx (upd H4 D (.lst (acc ++ [y]))) else Nx H3) := by
  refine ⟨fun i m H => m = ys.length - i ∧ i ≤ ys.length ∧ Pv i H, ⟨ys.length, (Nat.sub_zero _).symm, Nat.zero_le _, h0⟩, ?_⟩
  rintro i m H ⟨rfl, hi, p⟩
  obtain ⟨qx, qy⟩ := hq i H hi p
  by_cases hlt : i < ys.length
  · have hy : ys[i]? = some ys[i] := List.getElem?_eq_getElem hlt
    have hx : xs[i]? = some xs[i] := List.getElem?_eq_getElem (by omega)
    refine .inr ⟨⟨xs, ys, _, _, qx, qy, hx, hy⟩, Pv (i + 1), fun H' p' => ⟨ys.length - (i + 1), by omega, rfl, hlt, p'⟩, fun v H' y => ?_⟩
    obtain ⟨T, x', y', rfl, nT, rfl, f1, f2⟩ := y
    exact hs i x' y' T H (f1 xs qx) (f2 ys qy) p nT
  · have e : i = ys.length := by omega
    subst e
    exact .inl ⟨⟨xs, ys, qx, qy, .inr (Nat.le_refl _)⟩, hd H p⟩
section
variable {K : PySem.W.Frag} {a : Addr} {xs : List V}
theorem lc_enumS {g : TG} {tt : TT} {te : TE} {vs : List Nat} {σ : L2.St} {H1 : Hp} {D : Addr} {Qd : Hp → Prop} (Pv : Nat → Hp → Prop) (h0 : Pv 0 (upd H1 D (.lst []))) (hl : ∀ i H, i ≤ xs.length → Pv i H → SqL K H a xs)
    (hs : ∀ i x H T, xs[i]? = some x → Pv i H → H T = none → g (.ref T) (wipe σ vs) (upd H T (.tup [.int (i : Nat), x])) fun σ2 H2 => wipe σ2 vs = wipe σ vs ∧ tt σ2 H2 fun b H3 =>
      if b = true then te σ2 H3 fun y H4 => ∃ acc, H4 D = some (.lst acc) ∧ acc.length < sizeLine ∧ Pv (i + 1) (upd H4 D (.lst (acc ++ [y]))) else Pv (i + 1) H3) (hd : ∀ H, Pv xs.length H → Qd H) :
    ∃ W : Nat → Nat → Hp → Prop, (∃ m, W 0 m (upd H1 D (.lst []))) ∧ ∀ i m H, W i m H →
      ((Ite K a).stop i H ∧ Qd H) ∨ ((Ite K a).go i H ∧ ∃ Nx : Hp → Prop, (∀ H', Nx H' → ∃ m', m' < m ∧ W (i + 1) m' H') ∧ ∀ x H', (Ite K a).yld i H x H' → g x (wipe σ vs) H' fun σ2 H2 => wipe σ2 vs = wipe σ vs ∧ tt σ2 H2 fun b H3 =>
        if b = true then te σ2 H3 fun y H4 => ∃ acc, H4 D = some (.lst acc) ∧ acc.length < sizeLine ∧ Nx (upd H4 D (.lst (acc ++ [y]))) else Nx H3) := by
  refine ⟨fun i m H => m = xs.length - i ∧ i ≤ xs.length ∧ Pv i H, ⟨xs.length, (Nat.sub_zero _).symm, Nat.zero_le _, h0⟩, ?_⟩
  rintro i m H ⟨rfl, hi, p⟩
  have q := hl i H hi p
  by_cases hlt : i < xs.length
  · refine .inr ⟨⟨xs, xs[i], q, List.getElem?_eq_getElem hlt⟩, Pv (i + 1), fun H' p' => ⟨xs.length - (i + 1), by omega, rfl, hlt, p'⟩, fun v H' y => ?_⟩
    obtain ⟨T, x, rfl, nT, rfl, y⟩ := y
    exact hs i x H T (y xs q) p nT
  · have e : i = xs.length := by omega
    subst e
    exact .inl ⟨⟨xs, q, Nat.le_refl _⟩, hd H p⟩
theorem for_enumS {g : TG} {tb : TS} {D : Ends} {σ : L2.St} {H : Hp} (Pv : Nat → L2.St → Hp → Prop) (h0 : Pv 0 σ H) (hl : ∀ i σ H, i ≤ xs.length → Pv i σ H → SqL K H a xs)
    (hs : ∀ i x σ H T, xs[i]? = some x → Pv i σ H → H T = none → g (.ref T) σ (upd H T (.tup [.int (i : Nat), x])) fun σ2 H2 => tb { D with nx := Pv (i + 1), ct := Pv (i + 1), bk := D.nx } σ2 H2) (hd : ∀ σ H, Pv xs.length σ H → D.nx σ H) :
    ∃ W : Nat → Nat → L2.St → Hp → Prop, (∃ m, W 0 m σ H) ∧ ∀ i m σ H, W i m σ H →
      ((Ite K a).stop i H ∧ D.nx σ H) ∨ ((Ite K a).go i H ∧ ∃ N : L2.St → Hp → Prop, (∀ σ' H', N σ' H' → ∃ m', m' < m ∧ W (i + 1) m' σ' H') ∧ ∀ v H', (Ite K a).yld i H v H' → g v σ H' fun σ2 H2 => tb { D with nx := N, ct := N, bk := D.nx } σ2 H2) := by
  refine ⟨fun i m σ H => m = xs.length - i ∧ i ≤ xs.length ∧ Pv i σ H, ⟨xs.length, (Nat.sub_zero _).symm, Nat.zero_le _, h0⟩, ?_⟩
  rintro i m σ H ⟨rfl, hi, p⟩
  have q := hl i σ H hi p
  by_cases hlt : i < xs.length
  · refine .inr ⟨⟨xs, xs[i], q, List.getElem?_eq_getElem hlt⟩, Pv (i + 1), fun σ' H' p' => ⟨xs.length - (i + 1), by omega, rfl, hlt, p'⟩, fun v H' y => ?_⟩
    obtain ⟨T, x, rfl, nT, rfl, y⟩ := y
    exact hs i x σ H T (y xs q) p nT
  · have e : i = xs.length := by omega
    subst e
    exact .inl ⟨⟨xs, q, Nat.le_refl _⟩, hd σ H p⟩
end
theorem K2.of {p : Addr} {H H' : Hp} (k : Kept p H H') (hp : PoolAt H p) : K2 H H' := by
  rintro a xs (h | h)
  · exact .inl (h.kept k hp)
  · refine .inr (k _ _ h fun z => ?_)
    subst z
    obtain ⟨o, e, g, m, rfl, _⟩ := hp
    rw [e] at h
    cases h
theorem cut_to (xs : List V) (k : Nat) : cutV xs none (some (k : Int)) = xs.take k := by
  have e1 : HT.sIx xs.length xs.length (some (k : Int)) = min k xs.length := HT.sIx_nat xs.length xs.length k
  unfold cutV
  rw [e1, HT.sIx_none, Nat.sub_zero, List.drop_zero]
  by_cases h : k ≤ xs.length
  · rw [Nat.min_eq_left h]
  · rw [Nat.min_eq_right (by omega), List.take_length, List.take_of_length_le (by omega)]
theorem cut_from (xs : List V) (k : Nat) : cutV xs (some (k : Int)) none = xs.drop k := by
  have e1 : HT.sIx xs.length 0 (some (k : Int)) = min k xs.length := HT.sIx_nat xs.length 0 k
  unfold cutV
  rw [e1, HT.sIx_none]
  by_cases h : k ≤ xs.length
  · rw [Nat.min_eq_left h, List.take_of_length_le (by rw [List.length_drop]; exact Nat.le_refl _)]
  · rw [Nat.min_eq_right (by omega), List.drop_of_length_le (Nat.le_refl _), List.take_nil, List.drop_of_length_le (by omega)]
theorem pw_lt {ms : List Int} (h : ms.Pairwise (· ≤ ·)) (nd : ms.Nodup) : ms.Pairwise (· < ·) := by
  have z := h.and nd
  exact z.imp fun ⟨a, b⟩ => by omega
/-! a web as data, for repr -/
theorem dp_intsS {K : PySem.W.Frag} {H : Hp} : ∀ ns : List Int, DpAll K H (ns.map V.int) (ns.map PyData.int)
  | [] => .nil
  | n :: ns => .cons (.int n) (dp_intsS ns)
def rowD (r : Rw) : PyData := .tuple [.tuple (r.1.map PyData.int), .tuple (r.2.map PyData.int)]
def webD (rs : List Rw) : PyData := .list (rs.map rowD)
theorem rows_dp {K : PySem.W.Frag} {H : Hp} : ∀ {ws : List V} {rs : List Rw}, RowsAt H ws rs → DpAll K H ws (rs.map rowD)
  | [], [], _ => .nil
  | w :: ws, r :: rs, h => by
    obtain ⟨⟨a, b, c, rfl, h1, h2, h3⟩, t⟩ := h
    exact .cons (.tup h1.sq (.cons (.tup h2.sq (dp_intsS _)) (.cons (.tup h3.sq (dp_intsS _)) .nil))) (rows_dp t)
  | [], _ :: _, h => h.elim
  | _ :: _, [], h => h.elim
theorem WebAt.dp {K : PySem.W.Frag} {H : Hp} {p : Addr} {rs : List Rw} (h : WebAt H p rs) : Dp K H (.ref p) (webD rs) := by
  obtain ⟨ws, e, r⟩ := h
  exact .lst (SqL.of e) (rows_dp r)
theorem FineL.up {ds : List PyData} {n m n' m' : Nat} (h : FineL ds n m) (a : n ≤ n') (b : m ≤ m') : FineL ds n' m' := ⟨h.sh, h.nd, Nat.le_trans h.dp a, h.lv, Nat.le_trans h.wt b, h.cl⟩
theorem row_fine {n : Nat} {r : Rw} (ok : RowOk n r) (hn : n ≤ 80) : Fine (rowD r) 2 3600 := by
  have h1 := FineL.ints r.1 fun z hz => by
    have a := ok.rooms.lo z hz
    have b := ok.rooms.hi z hz
    omega
  have h2 := FineL.ints r.2 fun z hz => by
    have a := ok.tos.lo z hz
    have b := ok.tos.hi z hz
    omega
  have l1 := ok.few
  have l2 := ris_len ok.tos
  have z := Fine.tuple (FineL.cons (Fine.tuple h1) (FineL.cons (Fine.tuple h2) FineL.nil))
  exact z.up (Nat.le_refl _) (by omega)
theorem rows_fine {n : Nat} (hn : n ≤ 80) : ∀ {rs : List Rw}, (∀ r ∈ rs, RowOk n r) → FineL (rs.map rowD) 2 (3601 * rs.length)
  | [], _ => FineL.nil
  | r :: rs, h => by
    have a := FineL.cons (row_fine (h r List.mem_cons_self) hn) (rows_fine hn fun y hy => h y (List.mem_cons_of_mem _ hy))
    exact a.up (Nat.le_refl _) (by rw [List.length_cons]; omega)
theorem WebOk.fine {rs : List Rw} (ok : WebOk rs) : Fine (webD rs) 3 300000 := by
  have h := ok.few
  exact (Fine.list (rows_fine h ok.row)).up (Nat.le_refl _) (by omega)
end Su
/-! ### SF: a tuple times 0 or 1, the sorted keys of a dict -/
namespace Su
open PySem PySem.Spec PyProof.Rows L2
theorem tuple_mul0 (l : Addr) (items : Array Value) (n : Nat) (dd : Option Addr) (sl : Array (Option Value)) (u : Tok) (ne : items.isEmpty = false) :
    Meets (Builtin.«tuple.__mul__» ⟨[.ref l, .int 0 u], []⟩) (fun _ R s => s.heap.get? l = some { cls := .type "tuple", dict := dd, data := .seq items n, slots := sl } ∧ R (.ok (.ret (Value.ref s.heap.objs.size))) { s with heap := s.heap.push (tupO []) }) :=
  .of_wp fun prog w A R s h => by
    obtain ⟨hp, g, d, tk, os⟩ := s
    obtain ⟨hl, h⟩ := h
    have f1 := AutoSeq1.idx_int
    wp_walk using wpAny_loadPart' hl
    repeat (first
      | (refine wpAny_ite_false (by rw [ne]; rfl) ?_; wp_walk using wpAny_loadPart' hl)
      | (refine wpAny_ite_true rfl ?_; wp_walk using wpAny_loadPart' hl))
    exact ⟨_, rfl, h⟩
theorem tuple_mul1 (l : Addr) (items : Array Value) (n : Nat) (dd : Option Addr) (sl : Array (Option Value)) (u : Tok) :
    Meets (Builtin.«tuple.__mul__» ⟨[.ref l, .int 1 u], []⟩) (fun _ R s => s.heap.get? l = some { cls := .type "tuple", dict := dd, data := .seq items n, slots := sl } ∧ R (.ok (.ret (Value.ref l))) s) :=
  .of_wp fun prog w A R s h => by
    obtain ⟨hp, g, d, tk, os⟩ := s
    obtain ⟨hl, h⟩ := h
    have f1 := AutoSeq1.idx_int
    wp_walk using wpAny_loadPart' hl
    exact ⟨_, rfl, h⟩
section
variable {X : Cx}
/-- (x, ..) * k, k 0 or 1 -/
def rMul01 : R2 := fun x y H Q => ∃ (a : Addr) (k : Int) (xs : List V), x = .ref a ∧ y = .int k ∧ T2 H a xs ∧ xs ≠ [] ∧ (k = 0 ∨ k = 1) ∧ ∀ v H', Same H H' → T2 H' v (if k = 1 then xs else []) → Q (.ref v) H'
theorem op_mul01 : OpR X (binaryOp .Mult) rMul01 := by
  intro pins s σ H x y v u Q I rx ry h
  obtain ⟨a, k, xs, rfl, rfl, ha, ne, hk, q⟩ := h
  cases rx
  obtain ⟨t, rfl⟩ := ry
  obtain ⟨its, r, ⟨⟨cls, dd, data, sl⟩, ho, hc, n, hd⟩, hs⟩ := I.tuple (ha.sq (K := X.K))
  simp only at hc hd
  subst hc hd
  have ni : its.toArray.isEmpty = false := by
    cases its with
    | nil =>
      cases r
      exact absurd rfl ne
    | cons _ _ => rfl
  rcases hk with rfl | rfl
  · refine wpAny_binaryOp_repeat_ref (T := "tuple") (U := "int") (by decide) ⟨_, ho, rfl⟩ (fun s' => typeIs_int s' 0 t) noFill_tuple_mul F.fills_int_mul F.slot_int_rmul repeat_tuple F.slot_int_index.lookup
      (call_meets F.slot_int_rmul (typeIs_int s 0 t) F.entry_int_rmul (F.args_int_rmul_2 _ _) (int_rmul_tuple 0 t a its.toArray n dd sl)
        ⟨ho, rfl, ⟨_, ho, rfl⟩, call_meets F.slot_tuple_mul ⟨_, ho, rfl⟩ F.entry_tuple_mul (F.args_tuple_mul_2 _ _) (tuple_mul0 a its.toArray n dd sl t ni) ⟨ho, ?_⟩⟩)
    exact newF I .nil (Nat.zero_le _) (fun v H' s' _ h => q v H' s' (.inl h)) s.toks
  · refine wpAny_binaryOp_repeat_ref (T := "tuple") (U := "int") (by decide) ⟨_, ho, rfl⟩ (fun s' => typeIs_int s' 1 t) noFill_tuple_mul F.fills_int_mul F.slot_int_rmul repeat_tuple F.slot_int_index.lookup
      (call_meets F.slot_int_rmul (typeIs_int s 1 t) F.entry_int_rmul (F.args_int_rmul_2 _ _) (int_rmul_tuple 1 t a its.toArray n dd sl)
        ⟨ho, rfl, ⟨_, ho, rfl⟩, call_meets F.slot_tuple_mul ⟨_, ho, rfl⟩ F.entry_tuple_mul (F.args_tuple_mul_2 _ _) (tuple_mul1 a its.toArray n dd sl t) ⟨ho, ?_⟩⟩)
    exact ⟨.ref a, H, I, rfl, q a H (Same.refl H) ha⟩
/-- the keys of a dict, all ints -/
def KeysI (kvs : List (Key × V)) (ks : List Int) : Prop := kvs.map (·.1) = ks.map Sum.inl
theorem KeysI.len {kvs : List (Key × V)} {ks : List Int} (h : KeysI kvs ks) : kvs.length = ks.length := by
  have z := congrArg List.length h
  rwa [List.length_map, List.length_map] at z
theorem KeysI.put {kvs : List (Key × V)} {ks : List Int} (h : KeysI kvs ks) (nd : ks.Nodup) (k : Int) (v : V) : ∃ ks', KeysI (putK kvs (Sum.inl k) v) ks' ∧ ks'.Nodup ∧ ∀ j, j ∈ ks' ↔ j ∈ ks ∨ j = k := by
  unfold putK
  by_cases hk : (kvs.any fun kv => decide (kv.1 = Sum.inl k)) = true
  · rw [if_pos hk]
    refine ⟨ks, ?_, nd, fun j => ⟨.inl, ?_⟩⟩
    · unfold KeysI at h ⊢
      rw [← h, List.map_map]
      refine List.map_congr_left fun q _ => ?_
      show (if q.1 = Sum.inl k then (q.1, v) else q).1 = q.1
      split <;> rfl
    · rintro (z | rfl)
      · exact z
      · obtain ⟨q, hq, e⟩ := List.any_eq_true.mp hk
        have z : (Sum.inl j : Key) ∈ kvs.map (·.1) := by
          rw [← of_decide_eq_true e]
          exact List.mem_map_of_mem hq
        rw [h] at z
        obtain ⟨i, hi, e2⟩ := List.mem_map.mp z
        rw [← Sum.inl.inj e2]
        exact hi
  · rw [if_neg hk]
    have nk : k ∉ ks := fun hm => hk (by
      have z : (Sum.inl k : Key) ∈ kvs.map (·.1) := by
        rw [h]
        exact List.mem_map_of_mem hm
      obtain ⟨q, hq, e⟩ := List.mem_map.mp z
      exact List.any_eq_true.mpr ⟨q, hq, decide_eq_true e⟩)
    refine ⟨ks ++ [k], ?_, ?_, fun j => by rw [List.mem_append, List.mem_singleton]⟩
    · unfold KeysI at h ⊢
      rw [List.map_append, List.map_append, h]
      rfl
    · rw [List.nodup_append]
      refine ⟨nd, by simp, fun a ha b hb => ?_⟩
      rw [List.mem_singleton.mp hb]
      rintro rfl
      exact nk ha
/-- sorted(d), all keys ints -/
def rSortedDI : List V → Hp → VK → Prop := fun xs H Q => ∃ (a : Addr) (kvs : List (Key × V)) (ks : List Int), xs = [.ref a] ∧ H a = some (.dK kvs) ∧ KeysI kvs ks ∧ ks.length ≤ 4000 ∧
  ∀ (ys : List Int) (p : Addr), ys.Perm ks → ys.Pairwise (· ≤ ·) → H p = none → Q (.ref p) (upd H p (.lst (ys.map V.int)))
theorem cr_sortedDI (hc : X.calm = true) : CallR X (.builtin "sorted") rSortedDI := by
  intro pins s σ H xs us Q I r h
  obtain ⟨a, kvs, ks, rfl, hd, hks, few, q⟩ := h
  rw [Vals.ref1 r]
  obtain ⟨z, lo, vs, rel, dd⟩ := dk_rd I.hok (.inl hd)
  obtain ⟨ep, hat⟩ := dd.dictAt
  have keys : vs.map (·.1) = ks.map Sum.inl := rel.keys.symm.trans hks
  have len : vs.length = ks.length := by
    have y := congrArg List.length keys
    rwa [List.length_map, List.length_map] at y
  have small : vs.length ≤ sizeLine := by
    rw [len, sizeLine_eq]
    omega
  refine Calls.call_function_entry kind_sorted plain_sorted entry_sorted (args_sorted1 _) ?_
  unfold Builtin.«sorted»
  refine wpAny_bind (m := checkCount "sorted" 1 1 _) (wpAny_pure (wpAny_bind (PySem.W.kdu_collect (A := X.A.in1) (PySem.W.kdl_dict (knd := mixKind X.prog X.w) (kvs := vs) (ep := ep) lo) (I.ok.hd hc) hat small fun h' tk acc hk hacc => ?_)))
  have rv : Vals (vs.map fun p => kV p.1) acc.toList := keys_at (by rw [Array.length_toList, hacc.1]) fun j v e => hacc.2 j v (by rw [← Array.getElem?_toList]; exact e)
  have rv2 : Vals (ks.map V.int) acc.toList := by
    have y : (vs.map fun p => kV p.1) = ks.map V.int := by
      have y1 : (vs.map fun p => kV p.1) = (vs.map (·.1)).map kV := by rw [List.map_map]; rfl
      rw [y1, keys, List.map_map]
      rfl
    rwa [y] at rv
  have hI := rv2.ints
  have alen : acc.toList.length ≤ sizeLine := by
    rw [Array.length_toList, hacc.1]
    exact small
  have I1 : Inv X pins σ H { s with heap := h', toks := tk } := I.kept hk
  refine wpAny_bind (wpAny_newList ?_ alen)
  have at1 : (h'.push (seqObj "list" acc.toList.toArray 0)).get? h'.objs.size = some (seqObj "list" acc.toList.toArray 0) := Heap.get?_push_size _ rfl
  show wpAny _ _ _ _ _ { s with heap := h'.push (seqObj "list" acc.toList.toArray 0), toks := tk }
  refine wpAny_bind (wpAny_holding (wpAny_call_entry slot_list_sort ⟨_, at1, rfl⟩ entry_list_sort (SrtO.list_sort_ord SrtO.swo_int (s := { s with heap := h'.push (seqObj "list" acc.toList.toArray 0), toks := tk }) at1 alen (fun h2 => SrtO.ints_sortable hI h2) fun out h1 h2 => ⟨_, rfl, ?_⟩) (args_list_sort _)))
  obtain ⟨k3, k4, k5⟩ := SrtO.ints_out hI h1 h2
  obtain ⟨c, hcc⟩ := sortedHeap_at (vs := acc.toList) (out := out.toArray) at1
  have olen : ((out.map SrtO.iv).map V.int).length ≤ sizeLine := by
    rw [List.length_map, k4.length_eq, sizeLine_eq]
    omega
  refine wpAny_pure ⟨_, rfl, .ref h'.objs.size, upd H h'.objs.size (.lst ((out.map SrtO.iv).map V.int)), I1.laid (t' := tk) (fun b u e => ?_) (Nat.le_refl _) (show ObjOk X.prog X.w _ _ _ (.lst _) from ⟨olen, out, c, vals_of_ints k3, hcc⟩), rfl, q _ _ k4 k5 (I1.hok.fresh (Nat.le_refl _))⟩
  have lt : b < h'.objs.size := Heap.lt_size e
  rw [sortedHeap_old (Nat.ne_of_lt lt) (by rw [size_push']; exact Nat.lt_succ_of_lt lt)]
  exact Heap.get?_push_of_some _ e
end
end Su
/-! ### SG: l.extend(t), t a tuple; rows that are written -/
namespace Su
open PySem PySem.Spec PyProof.Rows L2
theorem ext_tup (l : Addr) (items : Array Value) (n : Nat) (b : Addr) (more : Array Value) (m : Nat) (dd : Option Addr) (sl : Array (Option Value)) (h0 : ¬(!items.isEmpty && Builtin.List.listTooLong (items.size + more.size)) = true) (h1 : items.size ≤ sizeLine) (h2 : items.size + more.size ≤ sizeLine + 1) :
    Meets (Builtin.«list.extend» ⟨[.ref l, .ref b], []⟩) (fun _ R s => s.heap.get? l = some { cls := .type "list", data := .seq items n } ∧ s.heap.get? b = some { cls := .type "tuple", dict := dd, data := .seq more m, slots := sl } ∧
      R (.ok (.ret .none)) { s with heap := s.heap.update l (Obj.mapSeq fun x => x ++ more) }) :=
  .of_wp fun prog w A R s h => by
    obtain ⟨hp, g, d, tk, os⟩ := s
    obtain ⟨hl, hb, h⟩ := h
    have f1 := AutoSeq1.idx_int
    have f2 := F.sub_tuple_tuple
    have f3 := F.sub_list_list
    have f4 := F.sub_tuple_list
    have f5 := F.sub_list_tuple
    have fits : (items ++ more).size ≤ sizeLine + 1 := by
      rw [Array.size_append]
      exact h2
    wp_walk using (wpAny_updateSeq hl rfl (hz := h1) (_hz' := fits)), wpAny_loadPart' hl, wpAny_loadPart' hb
    exact ⟨_, rfl, h⟩
section
variable {X : Cx}
def rExtT (K : PySem.W.Frag) : V → List V → Hp → VK → Prop := fun x vs H Q => ∃ l b xs zs, x = .ref l ∧ vs = [.ref b] ∧ H l = some (.lst xs) ∧ SqT K H b zs ∧ xs.length + zs.length ≤ sizeLine ∧ Q .non (upd H l (.lst (xs ++ zs)))
theorem mt_extT : MtM X "list.extend" (rExtT X.K) := by
  intro pins s σ H x vs v us Q I rx rv h
  obtain ⟨l, b, xs, zs, rfl, rfl, hH, hB, hz, q⟩ := h
  cases rx
  obtain ⟨u, rfl, ru⟩ := rv.one
  cases ru
  obtain ⟨z, its, n, r, hl, e⟩ := I.lstM hH
  obtain ⟨it2, r2, ⟨⟨cls, dd, data, sl⟩, ho, hc, m, hd⟩, _⟩ := I.tuple hB
  simp only at hc hd
  subst hc hd
  have hl2 := r2.length
  have fit : its.toArray.size + it2.toArray.size ≤ sizeLine := by
    rw [List.size_toArray, List.size_toArray]
    omega
  have short : ¬ (!its.toArray.isEmpty && Builtin.List.listTooLong (its.toArray.size + it2.toArray.size)) = true := by
    rw [notLongL fit, Bool.and_false]
    exact Bool.false_ne_true
  refine call_meets F.slot_list_extend ⟨_, e, rfl⟩ F.entry_list_extend (F.args_list_extend_2 _ _) (ext_tup l its.toArray n b it2.toArray m dd sl short (by rw [List.size_toArray]; omega) (by omega)) ⟨e, ho, ?_⟩
  refine ⟨.non, _, I.lset (its' := its ++ it2) hH e (by simp) (r.append r2) ?_, rfl, q⟩
  rw [List.length_append]
  omega
end
/-! written rows -/
def risB (hi : Int) : Int → List Int → Bool
  | _, [] => true
  | lo, k :: r => decide (lo ≤ k) && decide (k ≤ hi) && risB hi (k + 1) r
theorem ris_of {hi : Int} : ∀ {lo : Int} {l : List Int}, risB hi lo l = true → Ris lo hi l
  | _, [], _ => ⟨List.Pairwise.nil, fun _ h => (List.not_mem_nil h).elim, fun _ h => (List.not_mem_nil h).elim⟩
  | lo, k :: r, h => by
    unfold risB at h
    rw [Bool.and_eq_true, Bool.and_eq_true, decide_eq_true_eq, decide_eq_true_eq] at h
    have z := ris_of h.2
    refine ⟨List.pairwise_cons.mpr ⟨fun x hx => by have := z.lo x hx; omega, z.pw⟩, fun x hx => ?_, fun x hx => ?_⟩
    · rcases List.mem_cons.mp hx with e | e
      · rw [e]
        exact h.1.1
      · have := z.lo x e
        omega
    · rcases List.mem_cons.mp hx with e | e
      · rw [e]
        exact h.1.2
      · exact z.hi x e
def rowB (n : Nat) (r : Rw) : Bool := risB 99 0 r.1 && decide (r.1.length ≤ 6) && risB ((n : Int) - 1) 0 r.2
theorem row_of {n : Nat} {r : Rw} (h : rowB n r = true) : RowOk n r := by
  unfold rowB at h
  rw [Bool.and_eq_true, Bool.and_eq_true, decide_eq_true_eq] at h
  exact ⟨ris_of h.1.1, h.1.2, ris_of h.2⟩
def webB (A : List Int) (rs : List Rw) : Bool := decide (1 ≤ rs.length) && decide (rs.length ≤ 80) && rs.all (rowB rs.length) && decide (A.length ≤ 12) && (allRooms rs).all (fun k => decide (k ∈ A))
theorem web_of {A : List Int} {rs : List Rw} (h : webB A rs = true) : WebOk rs := by
  unfold webB at h
  simp only [Bool.and_eq_true, decide_eq_true_eq, List.all_eq_true] at h
  exact ⟨h.1.1.1.1, h.1.1.1.2, fun r hr => row_of (h.1.1.2 r hr), A, h.1.2, h.2⟩
def upto (n : Nat) : List Int := (List.range n).map fun i => ((i : Nat) : Int)
theorem upto_rg (n : Nat) : rgV 0 (n : Int) = (upto n).map V.int := by
  unfold rgV upto
  rw [List.map_map, show ((n : Int) - 0).toNat = n by omega]
  refine List.map_congr_left fun i _ => ?_
  show V.int (0 + (i : Nat)) = V.int (i : Int)
  rw [Int.zero_add]
theorem upto_mem {n : Nat} {k : Int} : k ∈ upto n ↔ 0 ≤ k ∧ k < n := by
  unfold upto
  rw [List.mem_map]
  constructor
  · rintro ⟨i, hi, rfl⟩
    have := List.mem_range.mp hi
    omega
  · intro h
    exact ⟨k.toNat, List.mem_range.mpr (by omega), by omega⟩
theorem upto_pw (n : Nat) : (upto n).Pairwise (· < ·) := by
  unfold upto
  rw [List.pairwise_map]
  exact List.pairwise_lt_range.imp fun h => by omega
end Su
/-! ### SI: a comprehension within another one -/
namespace Su
open PySem PySem.Spec PyProof.Rows L2
theorem blkOk_in {N : List Str} {sc scope : Scope} {own : List (Str × Nat)} (fr : List Str) (h : blkC N { kind := .function, names := fr.map fun x => (x, NameKind.cell), isGenerator := false, isCoroutine := false } scope own = true)
    (h2 : ∀ x ∈ fr, sc.names.lookup x = some .cell ∨ sc.names.lookup x = some .free) : BlkOk N sc scope own := by
  have b := blkOk_by h
  refine ⟨b.kind, b.uniq, b.ix, fun y hy e => ?_, b.own⟩
  refine h2 y.1 ?_
  have key : ∀ (l : List Str) (x : Str) (k : NameKind), (l.map fun x => (x, NameKind.cell)).lookup x = some k → x ∈ l := by
    intro l
    induction l with
    | nil =>
      intro x k e
      simp at e
    | cons a l ih =>
      intro x k e
      rw [List.map_cons, List.lookup_cons] at e
      by_cases hx : (x == a) = true
      · rw [eq_of_beq hx]
        exact List.mem_cons_self
      · rw [Bool.not_eq_true] at hx
        rw [hx] at e
        exact List.mem_cons_of_mem _ (ih x k e)
  rcases b.free y hy e with z | z
  · exact key _ _ _ z
  · exact key _ _ _ z
end Su
/-! ### ZL: list(zip(a, b)) of two lists -/
namespace Su
open PySem PySem.Spec PyProof.Rows L2
theorem zip_no_len : typeLookup (.type "zip") "__len__" = pure none := am_miss_of_fast (by decide +kernel)
theorem zip_no_hint : typeLookup (.type "zip") "__length_hint__" = pure none := am_miss_of_fast (by decide +kernel)
/-- the iterator of a zip, i pairs told; S is the list that is being made -/
structure ZSt (z TI TO i1 i2 a b S : Addr) (i : Nat) (h : Heap) : Prop where
  ti : IsPair h TI (.ref i1) (.ref i2)
  h1 : h.IsListIter i1 a i
  h2 : h.IsListIter i2 b i
  hz : (IsZip h z TI TO .none ∧ ∃ x y, IsPair h TO x y) ∨ ∃ T f oT, IsZipHeld h z TI TO T f ∧ h.get? T = some oT ∧ T ≠ z ∧ T ≠ i1 ∧ T ≠ i2 ∧ T ≠ S
section
variable {prog : Program} {w : World} {A : Around} {E : Value → Shared → Prop} {s : Shared} {z TI TO i1 i2 a b S : Addr} {i : Nat}
theorem zl_item {xs ys : Array Value} {x y : Value} {Q : Option Value → Shared → Prop} (D : ZipApart z TI TO i1 i2 a b) (st : ZSt z TI TO i1 i2 a b S i s.heap) (hSl : S < s.heap.objs.size)
    (hl1 : s.heap.IsList a xs) (hl2 : s.heap.IsList b ys) (hx : xs[i]? = some x) (hy : ys[i]? = some y)
    (hQ : ∀ h', IsPair h' s.heap.objs.size x y → ZSt z TI TO i1 i2 a b S (i + 1) h' → (∀ c o, c ≠ z → c ≠ TO → c ≠ i1 → c ≠ i2 → s.heap.get? c = some o → h'.get? c = some o) → Q (some (.ref s.heap.objs.size)) { s with heap := h' }) :
    wpAny (model prog w) A (pyNext (.ref z)) Q E s := by
  obtain ⟨hTI, h1, h2, hz⟩ := st
  have lt : ∀ {c o}, s.heap.get? c = some o → s.heap.objs.size ≠ c := fun e => Nat.ne_of_gt (Heap.lt_size e)
  have n1 : s.heap.objs.size ≠ i1 := let ⟨_, e, _⟩ := h1; lt e
  have n2 : s.heap.objs.size ≠ i2 := let ⟨_, e, _⟩ := h2; lt e
  rcases hz with ⟨hz, x0, y0, hTO⟩ | ⟨T, f, oT, hz, hT, r1, r2, r3, r4⟩
  · refine wpAny_pyNext_zip_item D hz hTI hTO h1 h2 hl1 hl2 hx hy fun h' a1 a2 a3 a4 a5 a6 hk => ?_
    exact hQ h' a5 ⟨hk _ _ D.TIz D.TITO D.TIi1 D.TIi2 hTI, a3, a4, .inr ⟨s.heap.objs.size, false, _, a1, a5, lt hz, n1, n2, Nat.ne_of_gt hSl⟩⟩ hk
  · refine wpAny_pyNext_zip_item_held D hz hT hTI h1 h2 hl1 hl2 hx hy fun h' a1 a3 a4 a5 a6 hk => ?_
    exact hQ h' a5 ⟨hk _ _ D.TIz D.TIi1 D.TIi2 hTI, a3, a4, .inr ⟨T, true, oT, a1, hk _ _ r1 r2 r3 hT, r1, r2, r3, r4⟩⟩ fun c o c1 _ c3 c4 e => hk c o c1 c3 c4 e
theorem zl_end {xs ys : Array Value} {Q : Option Value → Shared → Prop} (hh : A.handled = none) (D : ZipApart z TI TO i1 i2 a b) (st : ZSt z TI TO i1 i2 a b S i s.heap)
    (hl1 : s.heap.IsList a xs) (hl2 : s.heap.IsList b ys) (hend : xs[i]? = none ∨ ys[i]? = none)
    (hQ : ∀ h', (∀ c o, c ≠ z → c ≠ TO → c ≠ i1 → c ≠ i2 → s.heap.get? c = some o → h'.get? c = some o) → Q none { s with heap := h' }) :
    wpAny (model prog w) A (pyNext (.ref z)) Q E s := by
  obtain ⟨hTI, h1, h2, hz⟩ := st
  rcases hz with ⟨hz, x0, y0, hTO⟩ | ⟨T, f, oT, hz, hT, r1, r2, r3, r4⟩
  · exact wpAny_pyNext_zip_end hh D hz hTI hTO h1 h2 hl1 hl2 hend hQ
  · exact wpAny_pyNext_zip_end_held hh D hz hT hTI h1 h2 hl1 hl2 hend fun h' hk => hQ h' fun c o c1 _ c3 c4 e => hk c o c1 c3 c4 e
end
theorem sqL_same {K : PySem.W.Frag} {H H' : Hp} {a : Addr} {xs : List V} (h : SqL K H a xs) (e : Same H H') : SqL K H' a xs :=
  h.elim (fun h => .inl (h.elim (fun h => .inl (e _ _ h)) fun ⟨o, h⟩ => .inr ⟨o, e _ _ h⟩)) fun h => .inr h
/-- the pairs of two lists -/
def PairsAt (H : Hp) (Ts : List Addr) (xs ys : List V) : Prop := ∀ (i : Nat) (T : Addr) (x y : V), Ts[i]? = some T → xs[i]? = some x → ys[i]? = some y → H T = some (.tup [x, y])
theorem zl_loop {X : Cx} {pins : List (Addr × Obj)} {σ : L2.St} {A : Around} {R : Result → Shared → Prop} {z TI TO i1 i2 a b S : Addr} {H1 : Hp} {xs ys : List V} {res : Value} {n : Nat}
    (hh : A.handled = none) (D : ZipApart z TI TO i1 i2 a b) (hS : ∀ c ∈ [z, TI, TO, i1, i2], c < S) (hx : SqL X.K H1 a xs) (hy : SqL X.K H1 b ys) (S0 : H1 S = none) (hn : n = min xs.length ys.length)
    (hR : ∀ s' H' Ts, Inv X pins σ H' s' → Same H1 H' → H' S = some (.lst (Ts.map V.ref)) → Ts.length = n → PairsAt H' Ts xs ys → R (.ok (.ret res)) s') :
    ∀ (k i : Nat) (s : Shared) (H : Hp) (Ts : List Addr), n - i = k → i ≤ n → Inv X pins σ H s → (∀ c ∈ [z, TI, TO, i1, i2], FpOk X pins H c) → ZSt z TI TO i1 i2 a b S i s.heap → Same H1 H → H S = some (.lst (Ts.map V.ref)) → Ts.length = i → PairsAt H Ts xs ys →
      codeAny (model X.prog X.w) A (.builtin "list.extend.loop" ⟨[.ref S, .ref z, res], []⟩) R s := by
  have chg : ∀ {h h' : Heap}, (∀ c o, c ≠ z → c ≠ TO → c ≠ i1 → c ≠ i2 → h.get? c = some o → h'.get? c = some o) → ∀ c o, c ∉ [z, TI, TO, i1, i2] → h.get? c = some o → h'.get? c = some o :=
    fun k c o hc e => k c o (fun q => hc (by simp [q])) (fun q => hc (by simp [q])) (fun q => hc (by simp [q])) (fun q => hc (by simp [q])) e
  intro k
  induction k with
  | zero =>
    intro i s H Ts hk hi I fp st sm hSH hl pr
    have e : i = n := by omega
    obtain ⟨its, rv, p1, _⟩ := I.list (sqL_same hx sm)
    obtain ⟨its2, rv2, p2, _⟩ := I.list (sqL_same hy sm)
    have l1 := rv.length
    have l2 := rv2.length
    refine codeAny_builtin F.entry_extend_loop ?_
    rw [Around.under_plainId F.plain_extend_loop _]
    show wpAny _ A.in1 (pyNext (.ref z) >>= _) _ _ s
    have hend : its.toArray[i]? = none ∨ its2.toArray[i]? = none := by
      by_cases c : xs.length ≤ i
      · exact .inl (by simp; omega)
      · exact .inr (by simp; omega)
    refine wpAny_bind (zl_end (S := S) hh D st p1.isList p2.isList hend fun h' hk' => ?_)
    exact wpAny_pure (hR _ H Ts (I.turnedL (t' := s.toks) (ch := [z, TI, TO, i1, i2]) (chg hk') fp) sm hSH (hl.trans e) pr)
  | succ k ih =>
    intro i s H Ts hk hi I fp st sm hSH hl pr
    have lt : i < n := by omega
    obtain ⟨its, rv, p1, z1⟩ := I.list (sqL_same hx sm)
    obtain ⟨its2, rv2, p2, _⟩ := I.list (sqL_same hy sm)
    have ex : xs[i]? = some xs[i] := List.getElem?_eq_getElem (by omega)
    have ey : ys[i]? = some ys[i] := List.getElem?_eq_getElem (by omega)
    obtain ⟨u, hu, ru⟩ := rv.get ex
    obtain ⟨u2, hu2, ru2⟩ := rv2.get ey
    obtain ⟨_, itS, nS, _, _, eS⟩ := I.lstM hSH
    refine codeAny_builtin F.entry_extend_loop ?_
    rw [Around.under_plainId F.plain_extend_loop _]
    show wpAny _ A.in1 (pyNext (.ref z) >>= _) _ _ s
    refine wpAny_bind (zl_item D st (Heap.lt_size eS) p1.isList p2.isList (x := u) (y := u2) (by simpa using hu) (by simpa using hu2) fun h' hT st' hk' => ?_)
    have fr : H s.heap.objs.size = none := I.hok.fresh (Nat.le_refl _)
    have new : ObjOk X.prog X.w (upd H s.heap.objs.size (.tup [xs[i], ys[i]])) h' s.heap.objs.size (.tup [xs[i], ys[i]]) :=
      ⟨by show 2 ≤ sizeLine; decide, [u, u2], .cons ru (.cons ru2 .nil), ⟨_, hT, rfl, _, rfl⟩⟩
    have I1 : Inv X pins σ (upd H s.heap.objs.size (.tup [xs[i], ys[i]])) { s with heap := h' } :=
      I.turnedNew (t' := s.toks) (ch := [z, TI, TO, i1, i2]) (chg hk') fp (Nat.le_refl _) new
    have eT : S ≠ s.heap.objs.size := Nat.ne_of_lt (Heap.lt_size eS)
    have sT : Same H (upd H s.heap.objs.size (.tup [xs[i], ys[i]])) := same_upd fr
    have upT : (upd H s.heap.objs.size (.tup [xs[i], ys[i]])) s.heap.objs.size = some (.tup [xs[i], ys[i]]) := upd_same
    have hlt : ∀ c ∈ [z, TI, TO, i1, i2], c ≠ s.heap.objs.size := fun c hc => Nat.ne_of_lt (Nat.lt_trans (hS c hc) (Heap.lt_size eS))
    have fp1 : ∀ c ∈ [z, TI, TO, i1, i2], FpOk X pins (upd H s.heap.objs.size (.tup [xs[i], ys[i]])) c := fun c hc => ⟨by rw [upd_ne (hlt c hc)]; exact (fp c hc).1, (fp c hc).2⟩
    have hS1 := sT _ _ hSH
    have prT : PairsAt (upd H s.heap.objs.size (.tup [xs[i], ys[i]])) (Ts ++ [s.heap.objs.size]) xs ys := by
      intro j T x y e1 e2 e3
      by_cases c : j < i
      · rw [List.getElem?_append_left (by omega)] at e1
        exact sT _ _ (pr j T x y e1 e2 e3)
      · have hj : j < (Ts ++ [s.heap.objs.size]).length := (List.getElem?_eq_some_iff.mp e1).1
        rw [List.length_append, List.length_singleton] at hj
        have ej : j = i := by omega
        subst ej
        rw [List.getElem?_append_right (by omega), hl, Nat.sub_self] at e1
        rw [ex] at e2
        rw [ey] at e3
        cases e1
        cases e2
        cases e3
        exact upT
    generalize upd H s.heap.objs.size (.tup [xs[i], ys[i]]) = H2 at *
    obtain ⟨zz, itS1, nS1, rS, lS, eS1⟩ := I1.lstM hS1
    have hlen : Ts.length = itS1.length := by rw [← lS, List.length_map]
    have hnl : n ≤ sizeLine := by omega
    show wpAny _ A.in1 (updateSeq S (·.push (.ref s.heap.objs.size)) >>= _) _ _ _
    refine wpAny_bind ?_
    refine wpAny_updateSeq eS1 rfl (wpAny_pure ⟨plainId_quiet F.plain_extend_loop _, ?_⟩) (by rw [List.size_toArray]; omega) (by show (itS1.toArray.push _).size ≤ sizeLine + 1; rw [Array.size_push, List.size_toArray]; omega)
    have hz' : (Ts.map V.ref ++ [V.ref s.heap.objs.size]).length ≤ sizeLine := by
      rw [List.length_append, List.length_map, List.length_singleton]
      omega
    have I2 := I1.lset (t' := s.toks) (f := (·.push (Value.ref s.heap.objs.size))) (its' := itS1 ++ [.ref s.heap.objs.size]) hS1 eS1 (by simp) (rS.append (.cons (show RelV (V.ref s.heap.objs.size) (Value.ref s.heap.objs.size) from rfl) .nil)) hz'
    have ne5 : ∀ c ∈ [z, TI, TO, i1, i2], c ≠ S := fun c hc => Nat.ne_of_lt (hS c hc)
    have keepS : ∀ c o, c ≠ S → h'.get? c = some o → (h'.update S (Obj.mapSeq (·.push (Value.ref s.heap.objs.size)))).get? c = some o := fun c o hc e => (Heap.get?_update_other _ _ (Ne.symm hc)).trans e
    have e2 : Ts.map V.ref ++ [V.ref s.heap.objs.size] = (Ts ++ [s.heap.objs.size]).map V.ref := by rw [List.map_append]; rfl
    rw [e2] at I2
    refine ih (i + 1) _ _ (Ts ++ [s.heap.objs.size]) (by omega) lt I2 (fun c hc => ⟨by rw [upd_ne (ne5 c hc)]; exact (fp1 c hc).1, (fp c hc).2⟩) ?_ (fun c o ec => ?_) upd_same (by rw [List.length_append, List.length_singleton, hl]) (fun j T x y e1 e2 e3 => ?_)
    · obtain ⟨q1, q2, q3, q4⟩ := st'
      refine ⟨keepS _ _ (ne5 _ (by simp)) q1, q2.at fun o e => keepS _ o (ne5 _ (by simp)) e, q3.at fun o e => keepS _ o (ne5 _ (by simp)) e, ?_⟩
      rcases q4 with ⟨q4, x0, y0, q5⟩ | ⟨T, f, oT, q4, hT4, r1, r2, r3, r4⟩
      · exact .inl ⟨keepS _ _ (ne5 _ (by simp)) q4, x0, y0, keepS _ _ (ne5 _ (by simp)) q5⟩
      · exact .inr ⟨T, f, oT, keepS _ _ (ne5 _ (by simp)) q4, keepS _ _ r4 hT4, r1, r2, r3, r4⟩
    · rw [upd_ne (ne_of_none ec S0)]
      exact sT _ _ (sm _ _ ec)
    · have q := prT j T x y e1 e2 e3
      rw [upd_ne (ne_of q hS1 (by intro y; cases y))]
      exact q
theorem five_below {n c m : Nat} (e : c = n + 4 ∨ c = n + 2 ∨ c = n + 3 ∨ c = n ∨ c = n + 1) (h : m = n + 5) : n ≤ c ∧ c < m := by omega
/-- list(zip(a, b)) -/
def rListZip (K : PySem.W.Frag) : List V → Hp → VK → Prop := fun vs H1 Q => ∃ (a b : Addr) (xs ys : List V), vs = [.ref a, .ref b] ∧ SqL K H1 a xs ∧ SqL K H1 b ys ∧
  ∀ (l : Addr) (Ts : List Addr) (H2 : Hp), Same H1 H2 → H1 l = none → H2 l = some (.lst (Ts.map V.ref)) → Ts.length = min xs.length ys.length → PairsAt H2 Ts xs ys → Q (.ref l) H2
def tListZip (K : PySem.W.Frag) (ta : TA) : TE := fun σ H Q => ta σ H fun vs H1 => rListZip K vs H1 Q
theorem pe_listZip {X : Cx} {e e2 : Expr} {ta : TA} {p p2 pos pos2 : Pos} (hg : Gl X "list") (hm : X.mg "list" = none) (hg2 : Gl X "zip") (hm2 : X.mg "zip" = none) (ha : PA X [e, e2] ta) (hc : X.calm = true := by rfl)
    (hs : starEach [e, e2] X.env = (false, eval e X.env) :: starEach [e2] X.env := by rfl) (hpl : (backTo pos2 (starEach [e2] X.env)).any (·.1) = false := by rfl) :
    PE X (.Call (.Name "list" p) [.Call (.Name "zip" p2) [e, e2] [] pos2] [] pos) (tListZip X.K ta) := by
  refine ⟨fun pins s σ H Q I h => ?_⟩
  refine Call_ (ld_blt I hg hm PyProof.Rows.boot_list ?_)
  refine PyProof.Rows.callWith_type1 (PyProof.Rows.args_cons ?_ rfl) rfl rfl
  refine Call_ (ld_blt I hg2 hm2 PyProof.Rows.boot_zip (PyProof.Rows.callWith_type1 (thn (ha.run pos2 pins s σ H _ I h) fun us s1 ⟨vs, H1, I1, r1, q1⟩ => ?_) hs hpl))
  obtain ⟨a, b, xs, ys, ex, hqx, hqy, q⟩ := q1
  subst ex
  cases r1 with
  | cons r rr =>
    cases rr with
    | cons r' rr =>
      cases rr
      cases r
      cases r'
      obtain ⟨its, rv, p1, z1⟩ := I1.list hqx
      obtain ⟨its2, rv2, p2, z2⟩ := I1.list hqy
      refine call_zip_2 p1.isList p2.isList fun h' hz hTI hTO h1 h2 hsz hk => ?_
      refine PyProof.Rows.args_nil ?_
      have I2 : Inv X pins σ H1 { s1 with heap := h' } := I1.kept (t' := s1.toks) hk
      generalize es2 : ({ s1 with heap := h' } : Shared) = s2 at I2
      have eh2 : s2.heap = h' := by rw [← es2]
      have eo : s2.heap.objs.size = s1.heap.objs.size + 5 := by rw [eh2, hsz]
      have D := PySem.W.ktu_apart s1.heap.objs.size a b p1.lt p2.lt
      have fresh5 : ∀ c, c ∈ [s1.heap.objs.size + 4, s1.heap.objs.size + 2, s1.heap.objs.size + 3, s1.heap.objs.size, s1.heap.objs.size + 1] → s1.heap.objs.size ≤ c ∧ c < s2.heap.objs.size := fun c hcm => by
        have e' : c = s1.heap.objs.size + 4 ∨ c = s1.heap.objs.size + 2 ∨ c = s1.heap.objs.size + 3 ∨ c = s1.heap.objs.size ∨ c = s1.heap.objs.size + 1 := by simpa using hcm
        exact five_below e' eo
      have hz2 : IsZip s2.heap (s1.heap.objs.size + 4) (s1.heap.objs.size + 2) (s1.heap.objs.size + 3) .none := by rw [eh2]; exact hz
      have st0 : ZSt (s1.heap.objs.size + 4) (s1.heap.objs.size + 2) (s1.heap.objs.size + 3) s1.heap.objs.size (s1.heap.objs.size + 1) a b s2.heap.objs.size 0 s2.heap := by
        rw [eh2]
        exact ⟨hTI, h1, h2, .inl ⟨hz, _, _, hTO⟩⟩
      have fp0 : ∀ c ∈ [s1.heap.objs.size + 4, s1.heap.objs.size + 2, s1.heap.objs.size + 3, s1.heap.objs.size, s1.heap.objs.size + 1], FpOk X pins (upd H1 s2.heap.objs.size (.lst [])) c := fun c hcm => by
        obtain ⟨f1, f2⟩ := fresh5 c hcm
        exact I1.fpOk f1 (by rw [upd_ne (Nat.ne_of_lt f2)]; exact I1.hok.fresh f1)
      have ltS : ∀ c ∈ [s1.heap.objs.size + 4, s1.heap.objs.size + 2, s1.heap.objs.size + 3, s1.heap.objs.size, s1.heap.objs.size + 1], c < s2.heap.objs.size := fun c hcm => (fresh5 c hcm).2
      have fr2 : H1 s2.heap.objs.size = none := I2.hok.fresh (Nat.le_refl _)
      clear eo hsz hk fresh5 I1 es2 eh2 hz hTI hTO h1 h2 p1 p2 rv rv2
      generalize s1.heap.objs.size + 4 = z at *
      generalize s1.heap.objs.size + 3 = TO at *
      generalize s1.heap.objs.size + 2 = TI at *
      generalize s1.heap.objs.size + 1 = i2 at *
      generalize s1.heap.objs.size = i1 at *
      have zS : s2.heap.objs.size ≠ z := Nat.ne_of_gt (ltS z (by simp))
      refine callType_codes (Q₁ := fun obj s₁ => obj = .ref s2.heap.objs.size ∧ s₁ = { s2 with heap := s2.heap.push { cls := .type "list", data := .seq #[] } }) F.called_list (F.typeCall_list_1 _) F.entry_list_init
        (code_list_new _ ⟨rfl, rfl⟩) fun obj s₁ h₁ => ?_
      obtain ⟨rfl, rfl⟩ := h₁
      have hS : (s2.heap.push { cls := .type "list", data := .seq #[] }).get? s2.heap.objs.size = some { cls := .type "list", data := .seq #[] } := Heap.get?_push_size _ rfl
      refine ⟨⟨_, hS, rfl⟩, F.args_list_init_2 _ _, ?_⟩
      show wpAny _ X.A.in1.in1 (do let old ← Builtin.List.listItems (.ref s2.heap.objs.size); Builtin.List.listUpdate (.ref s2.heap.objs.size) (fun _ => #[]); letGo old.toList.reverse; Builtin.List.listExtendWith (.ref s2.heap.objs.size) (.ref z) .none) _ _ _
      refine wpAny_bind ?_
      unfold Builtin.List.listItems
      refine wpAny_bind (wpAny_seqItems hS rfl (wpAny_pure ?_))
      show wpAny _ X.A.in1.in1 (updateSeq s2.heap.objs.size (fun _ => #[]) >>= fun _ => letGo (#[] : Array Value).toList.reverse >>= fun _ => Builtin.List.listExtendWith (.ref s2.heap.objs.size) (.ref z) .none) _ _ _
      refine wpAny_bind (wpAny_updateSeq hS rfl ?_)
      have hS2 := Heap.get?_update_self (Obj.mapSeq (fun _ => (#[] : Array Value))) hS rfl
      refine wpAny_bind (wpAny_letGo ?_)
      unfold Builtin.List.listExtendWith
      have up : ∀ (h : Heap) (f : Obj → Obj), (∀ b o, s2.heap.get? b = some o → h.get? b = some o) → ∀ b o, s2.heap.get? b = some o → (h.update s2.heap.objs.size f).get? b = some o := fun h f q b o e =>
        (Heap.get?_update_other _ _ (Ne.symm (Nat.ne_of_lt (Heap.lt_size e)))).trans (q b o e)
      have k1 : ∀ b o, s2.heap.get? b = some o → (s2.heap.push { cls := .type "list", data := .seq #[] }).get? b = some o := fun b o e => Heap.get?_push_of_some _ e
      have k2 := up _ (Obj.mapSeq (fun _ => (#[] : Array Value))) k1
      generalize (s2.heap.push { cls := .type "list", data := .seq #[] }).update s2.heap.objs.size (Obj.mapSeq (fun _ => (#[] : Array Value))) = h3 at hS2 k2 ⊢
      have hz3 : IsZip h3 z TI TO .none := k2 _ _ hz2
      have gty : (({ s2 with heap := h3 } : Shared)).TypeIs (.ref z) "zip" := ⟨_, hz3, rfl⟩
      refine wpAny_bind (wpAny_typeOf gty ?_)
      have g1 : Builtin.List.listSameRef (.ref s2.heap.objs.size) (.ref z) = false := by simp [Builtin.List.listSameRef, zS]
      have g2 : (Value.type "zip" == Value.type "list") = false := by decide
      have g3 : (Value.type "zip" == Value.type "tuple") = false := by decide
      simp only [g1, g2, g3, Bool.or_false, Bool.false_eq_true, if_false]
      refine wpAny_bind (wpAny_pyIter_zip (s := { s2 with heap := h3 }) hz3 ?_)
      refine wpAny_bind (wpAny_holding ?_)
      unfold Builtin.List.listLengthHint
      refine wpAny_bind (wpAny_specialOf gty zip_no_len ?_)
      show wpAny _ X.A.in1.in1 (specialOf (Value.ref z) (Str.ofString "__length_hint__") >>= _) _ _ _
      refine wpAny_bind (wpAny_specialOf gty zip_no_hint ?_)
      refine wpAny_pure ?_
      show wpAny _ X.A.in1.in1 (rule "list.extend.makes-room" >>= fun _ => Builtin.List.listTouch (.ref s2.heap.objs.size) >>= fun _ =>
        again (.builtin "list.extend.loop" ⟨[.ref s2.heap.objs.size, .ref z, .none], []⟩)) _ _ _
      refine wpAny_bind (wpAny_rule ?_)
      refine wpAny_bind ?_
      show wpAny _ X.A.in1.in1 (updateSeq s2.heap.objs.size (·.push .none) >>= fun _ => updateSeq s2.heap.objs.size (·.pop)) _ _ _
      refine wpAny_bind (wpAny_updateSeq hS2 rfl ?_)
      have hS3 := Heap.get?_update_self (Obj.mapSeq (·.push Value.none)) hS2 rfl
      refine wpAny_updateSeq (hz := by seq_fits) hS3 rfl ?_
      have hS4 := Heap.get?_update_self (Obj.mapSeq (·.pop)) hS3 rfl
      have k4 : ∀ b o, s2.heap.get? b = some o → ((h3.update s2.heap.objs.size (Obj.mapSeq (·.push Value.none))).update s2.heap.objs.size (Obj.mapSeq (·.pop))).get? b = some o := up _ _ (up _ _ k2)
      generalize (h3.update s2.heap.objs.size (Obj.mapSeq (·.push Value.none))).update s2.heap.objs.size (Obj.mapSeq (·.pop)) = h4 at hS4 k4 ⊢
      have I4 : Inv X pins σ (upd H1 s2.heap.objs.size (.lst [])) { s2 with heap := h4, toks := s2.toks } := I2.laid (t' := s2.toks) k4 (Nat.le_refl _) (show ObjOk X.prog X.w _ h4 _ (.lst []) from ⟨Nat.zero_le _, [], _, .nil, hS4⟩)
      refine wpAny_pure ⟨plainId_quiet F.plain_extend_loop _, zl_loop (X := X) (pins := pins) (σ := σ) (H1 := H1) (A := X.A.in1) (show X.A.in1.handled = none from I2.ok.hd hc) D ltS hqx hqy fr2 rfl (fun s' H' Ts J sm hSH hl pr => ?_) (min xs.length ys.length) 0 _ _ [] (Nat.sub_zero _) (Nat.zero_le _) I4 fp0 ?_ (same_upd fr2) upd_same rfl (fun j T x y e => by cases e)⟩
      · exact ⟨rfl, .ref s2.heap.objs.size, H', J, rfl, q _ Ts H' sm fr2 hSH hl pr⟩
      · obtain ⟨q1, q2, q3, q4⟩ := st0
        refine ⟨k4 _ _ q1, q2.at fun o e => k4 _ o e, q3.at fun o e => k4 _ o e, ?_⟩
        rcases q4 with ⟨q4, x0, y0, q5⟩ | ⟨T, f, oT, q4, hT4, r1, r2, r3, r4⟩
        · exact .inl ⟨k4 _ _ q4, x0, y0, k4 _ _ q5⟩
        · exact .inr ⟨T, f, oT, k4 _ _ q4, k4 _ _ hT4, r1, r2, r3, r4⟩
end Su
/-! ### ZN: zip of two lists whose pairs are kept by a name -/
namespace Su
open PySem PySem.Spec PyProof.Rows L2
abbrev ZO (h : Heap) (z TI TO : Addr) (g : Value) (f : Bool) : Prop := h.get? z = some { cls := .type "zip", dict := none, data := .fields #[g, .bool f, .bool false, .ref TI, .ref TO], slots := #[] }
section
variable {f : Bool} {prog : Program} {w : World} {A : Around} {E : Value → Shared → Prop} {s : Shared} {z TI TO T i1 i2 a b : Addr} {i : Nat} {xs ys : Array Value} {x y c d : Value}
/-- the pair told last is gone -/
theorem free_gone {Q : Bool → Shared → Prop} (gz : ZO s.heap z TI TO (rawInt T) f) (gT : s.heap.get? T = none) (q : Q true s) : wpAny (model prog w) A (Builtin.SmallTypes.ownedTupleIsFree (.ref z)) Q E s := by
  unfold Builtin.SmallTypes.ownedTupleIsFree
  refine wpAny_bind (wpAny_field gz rfl (x := rawInt T) (by rfl) ?_)
  show wpAny _ _ (loadIfAlive ((T : Int).toNat) >>= _) _ _ _
  rw [Int.toNat_natCast]
  have al : wpAny (model prog w) A (loadIfAlive T) (fun o s' => o = none ∧ s' = s) E s := by
    have h' : (s.heap.get? T = none ∧ s = s) := ⟨gT, rfl⟩
    exact fun _ _ _ => h'
  refine wpAny_bind (wpAny_mono al (fun o s' h => ?_) fun _ _ e => e)
  obtain ⟨rfl, rfl⟩ := h
  simp only [Option.isNone_none, if_true]
  exact wpAny_pure q
theorem zip_go {Q : Value → Shared → Prop} (D : ZipApart z TI TO i1 i2 a b) (gz : ZO s.heap z TI TO (rawInt T) f) (gT : s.heap.get? T = none) (gI : IsPair s.heap TI (.ref i1) (.ref i2)) (gO : IsPair s.heap TO c d)
    (g1 : s.heap.IsListIter i1 a i) (g2 : s.heap.IsListIter i2 b i) (l1 : s.heap.IsList a xs) (l2 : s.heap.IsList b ys) (ex : xs[i]? = some x) (ey : ys[i]? = some y)
    (q : ∀ h', ZO h' z TI TO (rawInt s.heap.objs.size) false → IsPair h' TO x y → h'.IsListIter i1 a (i + 1) → h'.IsListIter i2 b (i + 1) → IsPair h' s.heap.objs.size x y →
      (∀ e o, e ≠ z → e ≠ TO → e ≠ i1 → e ≠ i2 → s.heap.get? e = some o → h'.get? e = some o) → Q (.ref s.heap.objs.size) { s with heap := h' }) :
    wpAny (model prog w) A (Builtin.«zip.__next__» ⟨[.ref z], []⟩) (fun fin s' => ∃ v, fin = .done (.ret v) ∧ Q v s') E s := by
  show wpAny _ _ (field (.ref z) 2 >>= _) _ _ _
  refine wpAny_bind (wpAny_field gz rfl (x := .bool false) (by rfl) ?_)
  show wpAny _ _ (field (.ref z) 3 >>= _) _ _ _
  refine wpAny_bind (wpAny_field gz rfl (x := .ref TI) (by rfl) ?_)
  refine wpAny_bind (wpAny_seqItems gI rfl ?_)
  show wpAny _ _ (Builtin.SmallTypes.ownedTupleIsFree (.ref z) >>= _) _ _ _
  refine wpAny_bind (free_gone gz gT ?_)
  simp only [if_true]
  refine wpAny_bind (wpAny_rule ?_)
  refine wpAny_bind (wpAny_field gz rfl (x := .ref TO) (by rfl) ?_)
  refine wpAny_bind (wpAny_setField_rec gz (by simp) fun j1 z1 s1 => ?_)
  replace z1 : ZO j1 z TI TO .ellipsis f := z1
  refine wpAny_bind ?_
  simp only [List.zipIdx_cons, List.zipIdx_nil, List.forIn_cons, List.forIn_nil]
  refine wpAny_bind (wpAny_bind (wpAny_onRaise ?_))
  show wpAny _ _ (Builtin.SmallTypes.nextOf (.ref i1) >>= _) _ _ _
  refine wpAny_bind (wpAny_nextOf_list_item (g1.extBut s1.extBut D.i1z) (l1.extBut s1.extBut D.l1z) ex fun j2 t1 s2 => wpAny_pure ?_)
  have o2 : IsPair j2 TO c d := s2.extBut _ _ D.TOi1 (s1.extBut _ _ D.TOz gO)
  refine wpAny_bind (wpAny_seqItems o2 rfl ?_)
  refine wpAny_bind (wpAny_updateSeq_pair o2 fun j3 o3 s3 => ?_)
  replace o3 : IsPair j3 TO x d := o3
  refine wpAny_bind (wpAny_letGo (wpAny_pure ?_))
  refine wpAny_bind (wpAny_bind (wpAny_onRaise ?_))
  show wpAny _ _ (Builtin.SmallTypes.nextOf (.ref i2) >>= _) _ _ _
  refine wpAny_bind (wpAny_nextOf_list_item (((g2.extBut s1.extBut D.i2z).extBut s2.extBut D.i12.symm).extBut s3.extBut D.TOi2.symm)
    (((l2.extBut s1.extBut D.l2z).extBut s2.extBut D.l2i1).extBut s3.extBut D.l2TO) ey fun j4 t2 s4 => wpAny_pure ?_)
  have o4 : IsPair j4 TO x d := s4.extBut _ _ D.TOi2 o3
  refine wpAny_bind (wpAny_seqItems o4 rfl ?_)
  refine wpAny_bind (wpAny_updateSeq_pair o4 fun j5 o5 s5 => ?_)
  replace o5 : IsPair j5 TO x y := o5
  refine wpAny_bind (wpAny_letGo (wpAny_pure (wpAny_pure ?_)))
  refine wpAny_bind (wpAny_seqItems o5 rfl ?_)
  refine wpAny_bind (wpAny_newTuple ?_)
  have sz : j5.objs.size = s.heap.objs.size := by rw [s5.1, s4.1, s3.1, s2.1, s1.1]
  have z5 : ZO j5 z TI TO .ellipsis f := s5.extBut _ _ D.TOz.symm (s4.extBut _ _ D.i2z.symm (s3.extBut _ _ D.TOz.symm (s2.extBut _ _ D.i1z.symm z1)))
  have k5 : ∀ e o, e ≠ z → e ≠ TO → e ≠ i1 → e ≠ i2 → s.heap.get? e = some o → j5.get? e = some o := fun e o c1 c2 c3 c4 r =>
    s5.extBut _ _ c2 (s4.extBut _ _ c4 (s3.extBut _ _ c2 (s2.extBut _ _ c3 (s1.extBut _ _ c1 r))))
  have t15 : j5.IsListIter i1 a (i + 1) := ((t1.extBut s3.extBut D.TOi1.symm).extBut s4.extBut D.i12).extBut s5.extBut D.TOi1.symm
  have t25 : j5.IsListIter i2 b (i + 1) := t2.extBut s5.extBut D.TOi2.symm
  have zl : z < j5.objs.size := Heap.lt_size z5
  show wpAny _ _ (Builtin.SmallTypes.ownedTupleHandOut (.ref z) (.ref j5.objs.size) >>= _) _ _ _
  refine wpAny_bind ?_
  unfold Builtin.SmallTypes.ownedTupleHandOut
  have z6 : ZO (j5.push { cls := .type "tuple", data := .seq #[x, y] }) z TI TO .ellipsis f := Heap.get?_push_of_some _ z5
  refine wpAny_bind (wpAny_setField_rec z6 (by simp) fun j7 z7 s7 => ?_)
  replace z7 : ZO j7 z TI TO (rawInt j5.objs.size) f := z7
  refine wpAny_setField_rec z7 (by simp) fun j8 z8 s8 => ?_
  replace z8 : ZO j8 z TI TO (rawInt j5.objs.size) false := z8
  have up : ∀ e o, e ≠ z → j5.get? e = some o → j8.get? e = some o := fun e o c1 r => s8.extBut _ _ c1 (s7.extBut _ _ c1 (Heap.get?_push_of_some _ r))
  have t8 : IsPair j8 j5.objs.size x y := s8.extBut _ _ (Nat.ne_of_gt zl) (s7.extBut _ _ (Nat.ne_of_gt zl) (Heap.get?_push_size _ rfl))
  rw [sz] at z8 t8
  refine wpAny_pure ⟨_, rfl, ?_⟩
  show Q (.ref j5.objs.size) _
  rw [sz]
  exact q j8 z8 (up _ _ D.TOz o5) (t15.at fun o r => up _ o D.i1z r) (t25.at fun o r => up _ o D.i2z r) t8 fun e o c1 c2 c3 c4 r => up e o c1 (k5 e o c1 c2 c3 c4 r)
theorem zip_out {Q : Fin → Shared → Prop} (hh : A.handled = none) (D : ZipApart z TI TO i1 i2 a b) (gz : ZO s.heap z TI TO (rawInt T) f) (gT : s.heap.get? T = none) (gI : IsPair s.heap TI (.ref i1) (.ref i2)) (gO : IsPair s.heap TO c d)
    (g1 : s.heap.IsListIter i1 a i) (g2 : s.heap.IsListIter i2 b i) (l1 : s.heap.IsList a xs) (l2 : s.heap.IsList b ys) (en : xs[i]? = none ∨ ys[i]? = none)
    (q : ∀ h' e, (∀ v o, v ≠ z → v ≠ TO → v ≠ i1 → v ≠ i2 → s.heap.get? v = some o → h'.get? v = some o) → (∃ o, h'.get? e = some o ∧ o.cls = .type "StopIteration") → E (.ref e) { s with heap := h' }) :
    wpAny (model prog w) A (Builtin.«zip.__next__» ⟨[.ref z], []⟩) Q E s := by
  show wpAny _ _ (field (.ref z) 2 >>= _) _ _ _
  refine wpAny_bind (wpAny_field gz rfl (x := .bool false) (by rfl) ?_)
  show wpAny _ _ (field (.ref z) 3 >>= _) _ _ _
  refine wpAny_bind (wpAny_field gz rfl (x := .ref TI) (by rfl) ?_)
  refine wpAny_bind (wpAny_seqItems gI rfl ?_)
  show wpAny _ _ (Builtin.SmallTypes.ownedTupleIsFree (.ref z) >>= _) _ _ _
  refine wpAny_bind (free_gone gz gT ?_)
  simp only [if_true]
  refine wpAny_bind (wpAny_rule ?_)
  refine wpAny_bind (wpAny_field gz rfl (x := .ref TO) (by rfl) ?_)
  refine wpAny_bind (wpAny_setField_rec gz (by simp) fun j1 z1 s1 => ?_)
  replace z1 : ZO j1 z TI TO .ellipsis f := z1
  refine wpAny_bind ?_
  simp only [List.zipIdx_cons, List.zipIdx_nil, List.forIn_cons, List.forIn_nil]
  refine wpAny_bind (wpAny_bind (wpAny_onRaise ?_))
  show wpAny _ _ (Builtin.SmallTypes.nextOf (.ref i1) >>= _) _ _ _
  cases ex : xs[i]? with
  | none =>
    refine wpAny_bind (wpAny_nextOf_list_end hh (g1.extBut s1.extBut D.i1z) (l1.extBut s1.extBut D.l1z) ex fun j2 e s2 he => ?_)
    obtain ⟨oe, ho, hc⟩ := he
    have z2 : ZO j2 z TI TO .ellipsis f := s2 _ _ D.i1z.symm z1
    have ne : e ≠ z := fun r => by subst r; rw [z2] at ho; cases ho; simp at hc
    refine wpAny_setField_rec z2 (by simp) fun j3 _ s3 => q j3 e (fun v o c1 _ c3 _ r => s3.extBut _ _ c1 (s2 _ _ c3 (s1.extBut _ _ c1 r))) ⟨oe, s3.extBut _ _ ne ho, hc⟩
  | some x =>
    have ey : ys[i]? = none := by
      rcases en with r | r
      · rw [ex] at r
        cases r
      · exact r
    refine wpAny_bind (wpAny_nextOf_list_item (g1.extBut s1.extBut D.i1z) (l1.extBut s1.extBut D.l1z) ex fun j2 t1 s2 => wpAny_pure ?_)
    have o2 : IsPair j2 TO c d := s2.extBut _ _ D.TOi1 (s1.extBut _ _ D.TOz gO)
    refine wpAny_bind (wpAny_seqItems o2 rfl ?_)
    refine wpAny_bind (wpAny_updateSeq_pair o2 fun j3 o3 s3 => ?_)
    refine wpAny_bind (wpAny_letGo (wpAny_pure ?_))
    refine wpAny_bind (wpAny_bind (wpAny_onRaise ?_))
    show wpAny _ _ (Builtin.SmallTypes.nextOf (.ref i2) >>= _) _ _ _
    refine wpAny_bind (wpAny_nextOf_list_end hh (((g2.extBut s1.extBut D.i2z).extBut s2.extBut D.i12.symm).extBut s3.extBut D.TOi2.symm)
      (((l2.extBut s1.extBut D.l2z).extBut s2.extBut D.l2i1).extBut s3.extBut D.l2TO) ey fun j4 e s4 he => ?_)
    obtain ⟨oe, ho, hc⟩ := he
    have z4 : ZO j4 z TI TO .ellipsis f := s4 _ _ D.i2z.symm (s3.extBut _ _ D.TOz.symm (s2.extBut _ _ D.i1z.symm z1))
    have ne : e ≠ z := fun r => by subst r; rw [z4] at ho; cases ho; simp at hc
    refine wpAny_setField_rec z4 (by simp) fun j5 _ s5 => q j5 e (fun v o c1 c2 c3 c4 r => s5.extBut _ _ c1 (s4 _ _ c4 (s3.extBut _ _ c2 (s2.extBut _ _ c3 (s1.extBut _ _ c1 r))))) ⟨oe, s5.extBut _ _ ne ho, hc⟩
theorem next_go {Q : Option Value → Shared → Prop} (D : ZipApart z TI TO i1 i2 a b) (gz : ZO s.heap z TI TO (rawInt T) f) (gT : s.heap.get? T = none) (gI : IsPair s.heap TI (.ref i1) (.ref i2)) (gO : IsPair s.heap TO c d)
    (g1 : s.heap.IsListIter i1 a i) (g2 : s.heap.IsListIter i2 b i) (l1 : s.heap.IsList a xs) (l2 : s.heap.IsList b ys) (ex : xs[i]? = some x) (ey : ys[i]? = some y)
    (q : ∀ h', ZO h' z TI TO (rawInt s.heap.objs.size) false → IsPair h' TO x y → h'.IsListIter i1 a (i + 1) → h'.IsListIter i2 b (i + 1) → IsPair h' s.heap.objs.size x y →
      (∀ e o, e ≠ z → e ≠ TO → e ≠ i1 → e ≠ i2 → s.heap.get? e = some o → h'.get? e = some o) → Q (some (.ref s.heap.objs.size)) { s with heap := h' }) :
    wpAny (model prog w) A (pyNext (.ref z)) Q E s := by
  have ty : s.TypeIs (.ref z) "zip" := ⟨_, gz, rfl⟩
  unfold pyNext
  exact wpAny_bind (wpAny_attempt (wpAny_callSpecial?_slot (name := Str.ofString "__next__") ty F.slot_zip_next
    (wpAny_call_entry F.slot_zip_next ty F.entry_zip_next (zip_go D gz gT gI gO g1 g2 l1 l2 ex ey fun h' a1 a2 a3 a4 a5 a6 => wpAny_pure (q h' a1 a2 a3 a4 a5 a6)) (F.args_zip_next_1 _))))
theorem next_out {Q : Option Value → Shared → Prop} (hh : A.handled = none) (D : ZipApart z TI TO i1 i2 a b) (gz : ZO s.heap z TI TO (rawInt T) f) (gT : s.heap.get? T = none) (gI : IsPair s.heap TI (.ref i1) (.ref i2)) (gO : IsPair s.heap TO c d)
    (g1 : s.heap.IsListIter i1 a i) (g2 : s.heap.IsListIter i2 b i) (l1 : s.heap.IsList a xs) (l2 : s.heap.IsList b ys) (en : xs[i]? = none ∨ ys[i]? = none)
    (q : ∀ h', (∀ v o, v ≠ z → v ≠ TO → v ≠ i1 → v ≠ i2 → s.heap.get? v = some o → h'.get? v = some o) → Q none { s with heap := h' }) : wpAny (model prog w) A (pyNext (.ref z)) Q E s := by
  have ty : s.TypeIs (.ref z) "zip" := ⟨_, gz, rfl⟩
  unfold pyNext
  refine wpAny_bind (wpAny_attempt (wpAny_callSpecial?_slot (name := Str.ofString "__next__") ty F.slot_zip_next
    (wpAny_call_entry F.slot_zip_next ty F.entry_zip_next (zip_out hh D gz gT gI gO g1 g2 l1 l2 en fun h' e hk he => ?_) (F.args_zip_next_1 _))))
  obtain ⟨o, ho, hc⟩ := he
  refine wpAny_bind (wpAny_isInstance (T := "StopIteration") (b := true) ⟨o, ho, hc⟩ isSubtype_stop ?_)
  exact wpAny_pure (q _ hk)
end
/-- where the iterator stands; the pair told last may be kept, or gone -/
def ZAt (z TI TO i1 i2 a b : Addr) (i : Nat) (h : Heap) : Prop := (IsZip h z TI TO .none ∨ ∃ (T : Addr) (f : Bool), ZO h z TI TO (rawInt T) f) ∧ IsPair h TI (.ref i1) (.ref i2) ∧ (∃ x y, IsPair h TO x y) ∧ h.IsListIter i1 a i ∧ h.IsListIter i2 b i
theorem zip_some {h : Heap} {z TI TO : Addr} (g : IsZip h z TI TO .none ∨ ∃ (T : Addr) (f : Bool), ZO h z TI TO (rawInt T) f) : ∃ o, h.get? z = some o ∧ ∀ v, o.data ≠ .cell v := by
  rcases g with g | ⟨T, f, g⟩
  · exact ⟨_, g, fun v q => nomatch q⟩
  · exact ⟨_, g, fun v q => nomatch q⟩
theorem not_in {z TI TO i1 i2 c : Addr} (hc : c ∉ [z, TI, TO, i1, i2]) : c ≠ z ∧ c ≠ TI ∧ c ≠ TO ∧ c ≠ i1 ∧ c ≠ i2 := by
  simpa using hc
theorem turn_zipN {P : Program} {w : World} {K : PySem.W.Frag} {nm : Str} {tpos : Pos} {a b z TI TO i1 i2 : Addr} (D : ZipApart z TI TO i1 i2 a b) :
    Turn P w K (.Name nm tpos) (Itz K a b) [z, TI, TO, i1, i2] z (ZAt z TI TO i1 i2 a b) where
  mem := by simp
  obj := fun i h st c hc => by
    obtain ⟨gz, gI, ⟨x, y, gO⟩, ⟨o1, e1, _, d1⟩, ⟨o2, e2, _, d2⟩⟩ := st
    simp only [List.mem_cons, List.not_mem_nil, or_false] at hc
    rcases hc with rfl | rfl | rfl | rfl | rfl
    · exact zip_some gz
    · exact ⟨_, gI, fun v q => nomatch q⟩
    · exact ⟨_, gO, fun v q => nomatch q⟩
    · exact ⟨o1, e1, fun v q => by rw [d1] at q; cases q⟩
    · exact ⟨o2, e2, fun v q => by rw [d2] at q; cases q⟩
  keep := fun i h h' st k => by
    obtain ⟨gz, gI, ⟨x, y, gO⟩, g1, g2⟩ := st
    refine ⟨?_, k TI (by simp) _ gI, ⟨x, y, k TO (by simp) _ gO⟩, g1.at fun o q => k i1 (by simp) o q, g2.at fun o q => k i2 (by simp) o q⟩
    rcases gz with g | ⟨T, f, g⟩
    · exact .inl (k z (by simp) _ g)
    · exact .inr ⟨T, f, k z (by simp) _ g⟩
  item := by
    intro X hP hw hK hc i pins s σ H E I hf st hg
    subst hP hw hK
    obtain ⟨gz, gI, ⟨c0, d0, gO⟩, g1, g2⟩ := st
    obtain ⟨xs, ys, x, y, qx, qy, ex, ey⟩ := hg
    obtain ⟨us, ru, p1, _⟩ := I.list qx
    obtain ⟨us2, ru2, p2, _⟩ := I.list qy
    obtain ⟨u, hu, r1⟩ := ru.get ex
    obtain ⟨u2, hu2, r2⟩ := ru2.get ey
    have lt : ∀ c ∈ [z, TI, TO, i1, i2], c < s.heap.objs.size := fun c hc => by
      simp only [List.mem_cons, List.not_mem_nil, or_false] at hc
      rcases hc with rfl | rfl | rfl | rfl | rfl
      · obtain ⟨o, e, _⟩ := zip_some gz
        exact Heap.lt_size e
      · exact Heap.lt_size gI
      · exact Heap.lt_size gO
      · obtain ⟨_, e, _⟩ := g1
        exact Heap.lt_size e
      · obtain ⟨_, e, _⟩ := g2
        exact Heap.lt_size e
    have fin : ∀ h', (IsZip h' z TI TO .none ∨ ∃ (T : Addr) (f : Bool), ZO h' z TI TO (rawInt T) f) → IsPair h' TI (.ref i1) (.ref i2) → (∃ x y, IsPair h' TO x y) → h'.IsListIter i1 a (i + 1) → h'.IsListIter i2 b (i + 1) → IsPair h' s.heap.objs.size u u2 →
        (∀ e o, e ∉ [z, TI, TO, i1, i2] → s.heap.get? e = some o → h'.get? e = some o) → ∃ r, some (Value.ref s.heap.objs.size) = some r ∧
        wpAny (model X.prog X.w) X.A (letOwnedTupleGo (.Name nm tpos) (.ref z) r) (fun _ s2 => ∃ v H', Inv X pins σ H' s2 ∧ RelV v r ∧ (Itz X.K a b).yld i H v H' ∧ ZAt z TI TO i1 i2 a b (i + 1) s2.heap ∧ ∀ c ∈ [z, TI, TO, i1, i2], H' c = none) E { s with heap := h' } := by
      intro h' a1 a2 a3 a4 a5 a6 k
      refine ⟨_, rfl, ?_⟩
      unfold letOwnedTupleGo
      refine wpAny_pure ?_
      have new : ObjOk X.prog X.w (upd H s.heap.objs.size (.tup [x, y])) h' s.heap.objs.size (.tup [x, y]) := ⟨by show 2 ≤ sizeLine; decide, [u, u2], .cons r1 (.cons r2 .nil), ⟨_, a6, rfl, _, rfl⟩⟩
      have I1 : Inv X pins σ (upd H s.heap.objs.size (.tup [x, y])) { s with heap := h' } := I.turnedNew (t' := s.toks) (ch := [z, TI, TO, i1, i2]) k hf (Nat.le_refl _) new
      refine ⟨.ref s.heap.objs.size, _, I1, rfl, ⟨_, x, y, rfl, I.hok.fresh (Nat.le_refl _), rfl, fun l hl => by rw [I.list_inj hl qx]; exact ex, fun l hl => by rw [I.list_inj hl qy]; exact ey⟩, ⟨a1, a2, a3, a4, a5⟩, fun c hc => ?_⟩
      rw [upd_ne (Nat.ne_of_lt (lt c hc))]
      exact (hf c hc).1
    have kI : ∀ {h' : Heap}, (∀ e o, e ≠ z → e ≠ TO → e ≠ i1 → e ≠ i2 → s.heap.get? e = some o → h'.get? e = some o) → IsPair h' TI (.ref i1) (.ref i2) := fun k => k _ _ D.TIz D.TITO D.TIi1 D.TIi2 gI
    have k5 : ∀ {h' : Heap}, (∀ e o, e ≠ z → e ≠ TO → e ≠ i1 → e ≠ i2 → s.heap.get? e = some o → h'.get? e = some o) → ∀ e o, e ∉ [z, TI, TO, i1, i2] → s.heap.get? e = some o → h'.get? e = some o := fun k e o hc r => by
      obtain ⟨n1, _, n3, n4, n5⟩ := not_in hc
      exact k e o n1 n3 n4 n5 r
    rcases gz with gz | ⟨T, f, gz⟩
    · refine wpAny_pyNext_zip_item D gz gI gO g1 g2 p1.isList p2.isList (x := u) (y := u2) (by simpa using hu) (by simpa using hu2) fun h' b1 b2 b3 b4 b5 _ k => ?_
      exact fin h' (.inr ⟨_, _, b1⟩) (kI k) ⟨_, _, b2⟩ b3 b4 b5 (k5 k)
    · cases gT : s.heap.get? T with
      | none =>
        refine next_go D gz gT gI gO g1 g2 p1.isList p2.isList (x := u) (y := u2) (by simpa using hu) (by simpa using hu2) fun h' b1 b2 b3 b4 b5 k => ?_
        exact fin h' (.inr ⟨_, _, b1⟩) (kI k) ⟨_, _, b2⟩ b3 b4 b5 (k5 k)
      | some oT =>
        refine wpAny_pyNext_zip_item_held D gz gT gI g1 g2 p1.isList p2.isList (x := u) (y := u2) (by simpa using hu) (by simpa using hu2) fun h' b1 b3 b4 b5 _ k => ?_
        have k' : ∀ e o, e ≠ z → e ≠ TO → e ≠ i1 → e ≠ i2 → s.heap.get? e = some o → h'.get? e = some o := fun e o c1 _ c3 c4 r => k e o c1 c3 c4 r
        exact fin h' (.inr ⟨_, _, b1⟩) (kI k') ⟨_, _, k _ _ D.TOz D.TOi1 D.TOi2 gO⟩ b3 b4 b5 (k5 k')
  done := by
    intro X hP hw hK hc i pins s σ H E I hf st hg
    subst hP hw hK
    obtain ⟨gz, gI, ⟨c0, d0, gO⟩, g1, g2⟩ := st
    obtain ⟨xs, ys, qx, qy, en⟩ := hg
    obtain ⟨us, ru, p1, _⟩ := I.list qx
    obtain ⟨us2, ru2, p2, _⟩ := I.list qy
    have n1 := ru.length
    have n2 := ru2.length
    have he : us.toArray[i]? = none ∨ us2.toArray[i]? = none := by
      rcases en with q | q
      · exact .inl (by simp; omega)
      · exact .inr (by simp; omega)
    have fin : ∀ h', (∀ e o, e ∉ [z, TI, TO, i1, i2] → s.heap.get? e = some o → h'.get? e = some o) → (none : Option Value) = none ∧ Inv X pins σ H { s with heap := h' } := fun h' k => ⟨rfl, I.turnedL (t' := s.toks) (ch := [z, TI, TO, i1, i2]) k hf⟩
    have k5 : ∀ {h' : Heap}, (∀ e o, e ≠ z → e ≠ TO → e ≠ i1 → e ≠ i2 → s.heap.get? e = some o → h'.get? e = some o) → ∀ e o, e ∉ [z, TI, TO, i1, i2] → s.heap.get? e = some o → h'.get? e = some o := fun k e o hc r => by
      obtain ⟨n1, _, n3, n4, n5⟩ := not_in hc
      exact k e o n1 n3 n4 n5 r
    rcases gz with gz | ⟨T, f, gz⟩
    · exact wpAny_pyNext_zip_end (I.ok.hd hc) D gz gI gO g1 g2 p1.isList p2.isList he fun h' k => fin h' (k5 k)
    · cases gT : s.heap.get? T with
      | none => exact next_out (I.ok.hd hc) D gz gT gI gO g1 g2 p1.isList p2.isList he fun h' k => fin h' (k5 k)
      | some oT => exact wpAny_pyNext_zip_end_held (I.ok.hd hc) D gz gT gI g1 g2 p1.isList p2.isList he fun h' k => fin h' (k5 fun e o c1 _ c3 c4 r => k e o c1 c3 c4 r)
  self := fun A i s Q E st h => by
    rcases st.1 with g | ⟨T, f, g⟩
    · exact wpAny_pyIter_zip g h
    · cases f
      · exact wpAny_pyIter_zip g h
      · have ty : s.TypeIs (.ref z) "zip" := ⟨_, g, rfl⟩
        refine wpAny_pyIter_slot ty F.slot_zip_iter (wpAny_call_entry F.slot_zip_iter ty F.entry_zip_iter ?_ (F.args_zip_iter_1 _))
        show wpAny _ _ (ret (.ref z)) _ _ s
        exact wpAny_pure ⟨_, rfl, "zip", _, ty, F.slot_zip_next.lookup, h⟩
def iZipN (K : PySem.W.Frag) (ta : TA) : TI := fun σ H R => ta σ H fun vs H1 => ∃ a b xs ys, vs = [.ref a, .ref b] ∧ SqL K H1 a xs ∧ SqL K H1 b ys ∧ R (Itz K a b) H1
/-- for p in zip(a, b) -/
theorem pi_zipN {X : Cx} {e e2 : Expr} {ta : TA} {p pos tpos : Pos} {nm : Str} (hg : Gl X "zip") (hm : X.mg "zip" = none) (ha : PA X [e, e2] ta)
    (hs : starEach [e, e2] X.env = (false, eval e X.env) :: starEach [e2] X.env := by rfl) (hpl : (backTo pos (starEach [e2] X.env)).any (·.1) = false := by rfl) :
    PI X (.Name nm tpos) (.Call (.Name "zip" p) [e, e2] [] pos) (iZipN X.K ta) := by
  refine ⟨fun pins s σ H R I h => ?_⟩
  refine Call_ (ld_blt I hg hm PyProof.Rows.boot_zip (PyProof.Rows.callWith_type1 (thn (ha.run pos pins s σ H _ I h) fun us s1 ⟨vs, H1, I1, r1, q1⟩ => ?_) hs hpl))
  obtain ⟨a, b, xs, ys, rfl, qx, qy, q⟩ := q1
  obtain ⟨u1, u2, rfl, rr1, rr2⟩ : ∃ u1 u2, us = [u1, u2] ∧ RelV (.ref a) u1 ∧ RelV (.ref b) u2 := by
    cases r1 with
    | cons r t =>
      cases t with
      | cons r2 t2 =>
        cases t2
        exact ⟨_, _, rfl, r, r2⟩
  cases rr1
  cases rr2
  obtain ⟨us, ru, p1, _⟩ := I1.list qx
  obtain ⟨us2, ru2, p2, _⟩ := I1.list qy
  have fresh : ∀ c ∈ [s1.heap.objs.size + 4, s1.heap.objs.size + 2, s1.heap.objs.size + 3, s1.heap.objs.size, s1.heap.objs.size + 1], FpOk X pins H1 c := fun c hc => by
    have le : s1.heap.objs.size ≤ c := by
      simp only [List.mem_cons, List.not_mem_nil, or_false] at hc
      rcases hc with rfl | rfl | rfl | rfl | rfl <;> first | exact Nat.le_add_right _ _ | exact Nat.le_refl _
    exact I1.fpOk le (I1.hok.fresh le)
  refine call_zip_2 p1.isList p2.isList fun h' gz gI gO g1 g2 sz k => wpAny_pyIter_zip gz ?_
  exact ⟨s1.heap.objs.size + 4, _, _, _, H1, rfl, I1.kept (t' := s1.toks) k, turn_zipN (PySem.W.ktu_apart s1.heap.objs.size a b p1.lt p2.lt), ⟨.inl gz, gI, ⟨_, _, gO⟩, g1, g2⟩, fresh, q⟩
/-- a comprehension over zip of two lists of one length -/
theorem lc_zipLL {K : PySem.W.Frag} {a b : Addr} {xs ys : List V} {g : TG} {tt : TT} {te : TE} {vs : List Nat} {σ : L2.St} {H1 : Hp} {D : Addr} {Qd : Hp → Prop} (hl : ys.length = xs.length) (Pv : Nat → Hp → Prop) (h0 : Pv 0 (upd H1 D (.lst [])))
    (hq : ∀ i H, i ≤ xs.length → Pv i H → SqL K H a xs ∧ SqL K H b ys)
    (hs : ∀ (i : Nat) (x y : V) (T : Addr) (H : Hp), xs[i]? = some x → ys[i]? = some y → Pv i H → H T = none → g (.ref T) (wipe σ vs) (upd H T (.tup [x, y])) fun σ2 H2 => wipe σ2 vs = wipe σ vs ∧ tt σ2 H2 fun b H3 =>
      if b = true then te σ2 H3 fun y H4 => ∃ acc, H4 D = some (.lst acc) ∧ acc.length < sizeLine ∧ Pv (i + 1) (upd H4 D (.lst (acc ++ [y]))) else Pv (i + 1) H3) (hd : ∀ H, Pv xs.length H → Qd H) :
    ∃ W : Nat → Nat → Hp → Prop, (∃ m, W 0 m (upd H1 D (.lst []))) ∧ ∀ i m H, W i m H →
      ((Itz K a b).stop i H ∧ Qd H) ∨ ((Itz K a b).go i H ∧ ∃ Nx : Hp → Prop, (∀ H', Nx H' → ∃ m', m' < m ∧ W (i + 1) m' H') ∧ ∀ x H', (Itz K a b).yld i H x H' → g x (wipe σ vs) H' fun σ2 H2 => wipe σ2 vs = wipe σ vs ∧ tt σ2 H2 fun b H3 =>
        if b = true then te σ2 H3 fun y H4 => ∃ acc, H4 D = some (.lst acc) ∧ acc.length < sizeLine ∧ Nx (upd H4 D (.lst (acc ++ [y]))) else Nx H3) := by
  refine ⟨fun i m H => m = xs.length - i ∧ i ≤ xs.length ∧ Pv i H, ⟨xs.length, (Nat.sub_zero _).symm, Nat.zero_le _, h0⟩, ?_⟩
  rintro i m H ⟨rfl, hi, p⟩
  obtain ⟨qx, qy⟩ := hq i H hi p
  by_cases lt : i < xs.length
  · have ex : xs[i]? = some xs[i] := List.getElem?_eq_getElem lt
    have ey : ys[i]? = some ys[i] := List.getElem?_eq_getElem (by omega)
    refine .inr ⟨⟨xs, ys, _, _, qx, qy, ex, ey⟩, Pv (i + 1), fun H' p' => ⟨xs.length - (i + 1), by omega, rfl, lt, p'⟩, fun v H' y => ?_⟩
    obtain ⟨T, x', y', rfl, nT, rfl, f1, f2⟩ := y
    exact hs i x' y' T H (f1 xs qx) (f2 ys qy) p nT
  · have e : i = xs.length := by omega
    subst e
    exact .inl ⟨⟨xs, ys, qx, qy, .inl (Nat.le_refl _)⟩, hd H p⟩
end Su
/-! ### MT: max and min of a pair of numbers -/
namespace Su
open PySem PySem.Spec PyProof.Rows L2 PySem.W
theorem ints_alike (i j : Int) : AlikeAll [.int i, .int j] := by
  refine ⟨fun x hx y hy => ?_, fun x hx => ?_⟩
  · simp only [List.mem_cons, List.not_mem_nil, or_false] at hx hy
    rcases hx with rfl | rfl <;> rcases hy with rfl | rfl <;> rfl
  · simp only [List.mem_cons, List.not_mem_nil, or_false] at hx
    rcases hx with rfl | rfl <;> exact fun h => nomatch h
theorem pair_flat {i j : Int} : PyData.depthAll [.int i, .int j] = 0 := by simp [PyData.depthAll, PyData.depth]
abbrev rMax2 : List V → Hp → VK → Prop := fun xs H Q => ∃ i j, xs = [.int i, .int j] ∧ Q (.int (if j > i then j else i)) H
abbrev rMin2 : List V → Hp → VK → Prop := fun xs H Q => ∃ i j, xs = [.int i, .int j] ∧ Q (.int (if j < i then j else i)) H
abbrev rLst1 (K : PySem.W.Frag) : List V → Hp → VK → Prop := fun xs H Q => ∃ p ys, xs = [.ref p] ∧ (SqL K H p ys ∨ SqT K H p ys) ∧ ∀ l, H l = none → Q (.ref l) (upd H l (.lst ys))
section
variable {X : Cx}
/-- max(p), min(p), p a pair of numbers -/
def rMaxT (K : PySem.W.Frag) : List V → Hp → VK → Prop := fun vs H Q => ∃ (p : Addr) (i j : Int), vs = [.ref p] ∧ SqT K H p [.int i, .int j] ∧ Q (.int (max i j)) H
def rMinT (K : PySem.W.Frag) : List V → Hp → VK → Prop := fun vs H Q => ∃ (p : Addr) (i j : Int), vs = [.ref p] ∧ SqT K H p [.int i, .int j] ∧ Q (.int (min i j)) H
theorem pair_reads {h : Heap} {i j : Int} {us : List Value} (r : Vals [.int i, .int j] us) : ReadsAll h us [.int i, .int j] [] := by
  obtain ⟨t, u, rfl⟩ := Vals.int2 r
  exact .cons (.int i t) (.cons (.int j u) .nil)
theorem reads_num {h : Heap} {v : Value} {m : Int} {bs : List Addr} (r : Reads h v (.int m) bs) : RelV (.int m) v := by
  cases r with
  | int i t => exact ⟨t, rfl⟩
theorem call_maxT (hc : X.calm = true) (hu : X.A.units + 64 < cLine) : CallR X (.builtin "max") (rMaxT X.K) := by
  intro pins s σ H vs us Q I r h
  obtain ⟨p, i, j, rfl, hs, q⟩ := h
  obtain ⟨its, rv, hl, _⟩ := I.tuple hs
  rw [Vals.ref1 r]
  refine max_tuple_data (I.ok.hd hc) (show s.heap.IsTuple p its.toArray from hl) (pair_reads rv) (ints_alike i j) (by rw [pair_flat]; omega) fun _ v h' tk bs _ rd k => ?_
  refine ⟨.int (max i j), H, I.kept k, ?_, q⟩
  have e : maxD (.int i) [.int j] = .int (max i j) := maxD_ints i [j]
  rw [e] at rd
  exact reads_num rd
theorem call_minT (hc : X.calm = true) (hu : X.A.units + 64 < cLine) : CallR X (.builtin "min") (rMinT X.K) := by
  intro pins s σ H vs us Q I r h
  obtain ⟨p, i, j, rfl, hs, q⟩ := h
  obtain ⟨its, rv, hl, _⟩ := I.tuple hs
  rw [Vals.ref1 r]
  refine min_tuple_data (I.ok.hd hc) (show s.heap.IsTuple p its.toArray from hl) (pair_reads rv) (ints_alike i j) (by rw [pair_flat]; omega) fun _ v h' tk bs _ rd k => ?_
  refine ⟨.int (min i j), H, I.kept k, ?_, q⟩
  have e : minD (.int i) [.int j] = .int (min i j) := minD_ints i [j]
  rw [e] at rd
  exact reads_num rd
end
end Su
/-! ### DF: defs with defaults -/
namespace Su
open PySem PySem.Spec PyProof.Rows L2
structure AtD (K : PySem.W.Frag) (mg : Str → Option Value) (x : Str) (st : Stmt) (ps : List Str) (dvs : List V) : Prop where
  ex : ∃ (f : Addr) (fd : FuncData), FunD K x x (defArgs st) (defBody st) (defScope st) dvs [] f fd ∧ mg x = some (.ref f) ∧ ∀ j, j ≤ dvs.length → ∃ ds, Vals (dvs.drop j) ds ∧ Binds K fd ps ds
structure CalD (P : Program) (w : World) (K : PySem.W.Frag) (mg : Str → Option Value) (base : Heap) (k : Nat) (x : Str) (ps : List Str) (dvs : List V) (sp : Sp) : Prop where
  ex : ∃ (f : Addr) (fd : FuncData), FnOk P w K mg base CX0 k f fd ps sp ∧ mg x = some (.ref f) ∧ PySem.W.keepIn K (.ref f) = true ∧ ∀ j, j ≤ dvs.length → ∃ ds, Vals (dvs.drop j) ds ∧ Binds K fd ps ds
section
variable {P : Program} {w : World} {K : PySem.W.Frag} {mg : Str → Option Value} {base : Heap}
theorem cal_ofD {x : Str} {st : Stmt} {N ps : List Str} {dvs : List V} {k : Nat} {sp : Sp} (T : AtD K mg x st ps dvs) (S : FnScope N ps (defScope st)) (len : ∀ vs H Q E, sp vs H Q E → vs.length = ps.length)
    (hb : ∀ (f : Addr) (cdv : Value) (A : Around) (outer : List Env) (s : Shared) (H : Hp) (vs : List V) (Q : VK) (E : XK), Room k (A.deeper (envOfC x (defScope st) s.heap.objs.size f cdv)) → sp vs H Q E →
      ∃ t, PSs (cxOf CX0 P w K mg base N x (defScope st) f cdv A outer s H E).nox (defBody st) t ∧ t { nx := fun _ H' => Q .non H', rt := Q } (start N vs) H) : CalD P w K mg base (k + 1) x ps dvs sp := by
  obtain ⟨f, fd, F, hm, b⟩ := T.ex
  refine ⟨f, fd, F.ok S len fun cdv A outer s H vs Q E hr h => ?_, hm, F.kp, b⟩
  obtain ⟨t, h1, h2⟩ := hb f cdv A outer s H vs Q E hr h
  exact ⟨t, h1.nox, h2⟩
end
section
variable {X : Cx} {k j : Nat} {x : Str} {ps : List Str} {sp : Sp} {p pos : Pos} {e : Expr} {es : List Expr} {t : TA} {dvs : List V}
theorem pe_ownD (i : Nat) (C : CalD X.prog X.w X.K X.mg X.base k x ps dvs sp) (hr : Room j X.A) (hk : k ≤ j) (hg : Gl X x) (hi : i ≤ dvs.length) (ha : PA X (e :: es) t)
    (hdb : (x == ("__debug__" : Str)) = false := by decide) (he : starEach (e :: es) X.env = (false, eval e X.env) :: starEach es X.env := by rfl) (hpl : (backTo pos (starEach es X.env)).any (·.1) = false := by rfl) :
    PE X (.Call (.Name x p) (e :: es) [] pos) (tCall sp (dvs.drop i) E0 t) := by
  obtain ⟨f, fd, F, hm, kp, b⟩ := C.ex
  obtain ⟨ds, hv, hb⟩ := b i hi
  exact pe_call F (hr.mono hk) hg hm kp hb hv (fun _ _ _ _ _ _ _ h => h.elim) ha hdb he hpl
end
end Su
/-! ### XA: an exception that is caught and kept -/
namespace Su
open PySem PySem.Spec PyProof.Rows L2
/-- at a: an exception of the class cls, its dict at d -/
def exK (a : Addr) (cls : Value) (d : Option Addr) : HO := .ext fun h => ∃ (oe : Obj) (vs : Array Value), h.get? a = some oe ∧ Zc cls d oe ∧ oe.data = .fields vs
theorem exK_ok {P : Program} {w : World} {H : Hp} {h : Heap} {a : Addr} {cls : Value} {d : Option Addr} {oe : Obj} {vs : Array Value} (e : h.get? a = some oe) (z : Zc cls d oe) (hd : oe.data = .fields vs) : ObjOk P w H h a (exK a cls d) := by
  refine ⟨⟨oe, vs, e, z, hd⟩, ⟨oe, e⟩, fun h1 h2 p k => ?_⟩
  obtain ⟨o, v, e1, z1, d1⟩ := p
  exact ⟨o, v, k _ e1, z1, d1⟩
section
variable {X : Cx} {pins : List (Addr × Obj)} {σ : L2.St} {H : Hp} {s : Shared}
/-- what is new since the entry may be tracked from now on -/
theorem track {a : Addr} {o : HO} (I : Inv X pins σ H s) (ha : H a = none) (h0 : X.s_0.heap.get? a = none) (nl : a ≠ X.env.locals) (nc : ∀ x c, X.env.cells.lookup x = some c → c ≠ a) (np : ∀ p ∈ X.pn ++ pins, p.1 ≠ a)
    (new : ObjOk X.prog X.w (upd H a o) s.heap a o) : Inv X pins σ (upd H a o) s where
  ok := I.ok
  os := I.os
  bare := I.bare
  base := {
    keep := I.base.keep
    slot := I.base.slot
    free := fun b u q n x => by
      rw [upd_ne fun z => by rw [z, h0] at q; cases q]
      exact I.base.free b u q n x
    there := I.base.there
    tups := fun b xs q => by
      have z := I.base.tups b xs q
      rw [upd_ne (ne_of_none z ha)]
      exact z
    frzs := fun b u v q => by
      have z := I.base.frzs b u v q
      rw [upd_ne (ne_of_none z ha)]
      exact z
    tbls := fun b ps q => by
      obtain ⟨more, z⟩ := I.base.tbls b ps q
      exact ⟨more, by rw [upd_ne (ne_of_none z ha)]; exact z⟩ }
  loc := I.loc
  cell := I.cell
  free := by
    rw [upd_ne nl.symm]
    exact I.free
  freeC := fun x c e => by
    rw [upd_ne (nc x c e)]
    exact I.freeC x c e
  pin := fun p hp => by
    obtain ⟨p1, p2, p3⟩ := I.pin p hp
    exact ⟨p1, by rw [upd_ne (np p hp)]; exact p2, p3⟩
  hok := HOk.laidN I.hok (fun _ _ q => q) ha new
  len := I.len
end
def wKeep (K : PySem.W.Frag) (c : Value) (i : Nat) (ts : Addr → TS) (Wo : WX) (D : Ends) : WX := fun cls d σ H =>
  ∃ b, PySem.W.exmOne K cls c = some b ∧
    (b = true → ∀ a, H a = none → ts a { nx := fun σ' H' => D.nx (σ'.set i none) (upd H' a (exK a cls d)), rt := fun _ _ => False, bk := fun _ _ => False, ct := fun _ _ => False } (σ.set i (some (.ref a))) H) ∧
    (b = false → Wo cls d σ H)
section
variable {X : Cx} {x n : Str} {c : Value} {i : Nat} {body suite : List Stmt} {b0 : Stmt} {np pos pos' : Pos} {tb : WX → TS} {ts : Addr → TS} {Wo : WX}
/-- try: .. except x as n: suite, the exception tracked behind the suite -/
theorem ps_try_keep (hex : X.ex = []) (hs : X.stack = X.env :: X.outer) (hf : X.env.frame = some X.env.locals) (hN : X.N.Nodup) (hi : X.N[i]? = some n) (hln : X.env.kindOf n = some .local) (hc : Names X x c) (tk : Takes X Wo)
    (hb : ∀ (W : WX) (pn : List (Addr × Obj)) (xe : Value → Shared → Prop), Takes (X.tr pn xe) W → PassesOwn (model X.prog X.w) X.A X.env xe → PSs (X.tr pn xe) body (tb W))
    (hsu : ∀ (a : Addr) (oe : Obj) (pn : List (Addr × Obj)), PSs (X.suite a ((a, oe) :: pn)) (b0 :: suite) (ts a)) :
    PS X (.Try body [.ExceptHandler (some (.Name x np)) (some n) (b0 :: suite) pos'] [] [] pos) (fun D σ H => tb (wKeep X.K c i ts Wo D) D σ H) := by
  refine ⟨fun pins s σ H D I h => ?_⟩
  have ok := I.ok
  have frm : X.A.frames = some (X.env :: X.outer) := by
    rw [ok.frames, hs]
  refine wpAny_Try_except ?_
  refine wpAny_mono ((hb (wKeep X.K c i ts Wo D) (X.pn ++ pins) (fun u t => wpAny (model X.prog X.w) X.A (noteFrame u X.env) (fun _ t2 => wpAny (model X.prog X.w) X.A (setFlight u none) (fun _ t3 =>
    wpAny (model X.prog X.w) X.A (handleBy u X.env [.ExceptHandler (some (.Name x np)) (some n) (b0 :: suite) pos']) (SP X pins D) X.xe t3) X.xe t2) X.xe t) (fun u t xx => ?_) PassesOwn.looking).run [] s σ H D (I.toTry _) h) (fun fl t hsp => ?_) (fun _ _ z => z)
  · obtain ⟨a, B, sI, pins2, τ, G, cls, d, rfl, Jt, nb, up, sky, na, os, ag, b, hb1, hyes, hno⟩ := xx
    have J : Inv X pins τ G sI := Jt.ofTry ok
    have sky2 : Sky B (X.env :: X.outer) a (Zc cls d) X.env.locals t.heap := by
      rw [← hs]
      exact sky
    show wpAny (model X.prog X.w) X.A (noteFrame (.ref a) X.env) _ _ _
    refine Sky.land Zc.steady frm hf sky2 fun g3 fl3 up3 => ?_
    have J3 : Inv X pins τ G { t with heap := g3 } := J.landed nb fl3.1 (up.trans up3) os ag
    obtain ⟨oe3, vs3, at3, zc3, dt3⟩ := fl3.there
    have nofr : a ∉ frs (X.env :: X.outer) := by
      intro hm
      obtain ⟨_, o', e', hnf⟩ := fl3.2.2.1.mem hm
      rw [at3] at e'
      cases e'
      exact hnf _ dt3
    have nL : a ≠ X.env.locals := fun z => nofr (List.mem_filterMap.mpr ⟨X.env, List.mem_cons_self, by rw [hf, z]⟩)
    have nF : a ∉ X.fs := by
      intro hm
      obtain ⟨e, he, q⟩ := List.mem_filterMap.mp hm
      exact nofr (List.mem_filterMap.mpr ⟨e, List.mem_cons_of_mem _ he, q⟩)
    -- it wasn't there ahead
    have gone : sI.heap.get? a = none := by
      cases z : sI.heap.get? a with
      | none => rfl
      | some o =>
        have y := nb a o z (by rw [hs]; exact nofr)
        rw [fl3.2.1] at y
        cases y
    have gone0 : X.s_0.heap.get? a = none := by
      cases z : X.s_0.heap.get? a with
      | none => rfl
      | some o =>
        obtain ⟨o', y⟩ := J.base.there a o z (by rw [hex]; simp)
        rw [gone] at y
        cases y
    have noc : ∀ y k, X.env.cells.lookup y = some k → k ≠ a := by
      rintro y k e rfl
      obtain ⟨v, o, e1, _⟩ := J.cell y k e
      rw [gone] at e1
      cases e1
    have nop : ∀ q ∈ X.pn ++ pins, q.1 ≠ a := by
      intro q hq e
      have y := (J.pin q hq).1
      rw [e, gone] at y
      cases y
    have S3 := J3.suite at3 dt3 na nL nF
    refine wpAny_handleBy_cons (codeAny_handlers_test ?_) (by intro q; cases q)
    have LT : PySem.W.Looks (model X.prog X.w) g3 (typeOf (.ref a)) cls := fun A Q E s k q => wpAny_typeOf_ref (k _ _ at3) (by rw [zc3.1]; exact q)
    have LM := PySem.W.exm_one (M := model X.prog X.w) (J3.kIn) LT hb1
    have asked : ∀ {Q : Value → Shared → Prop} {E : Value → Shared → Prop}, Q c { t with heap := g3 } → wpAny (model X.prog X.w) (X.A.mark (some (.ref a))) (eval (.Name x np) X.env) Q E { t with heap := g3 } := by
      intro Q E q
      obtain ⟨hg, hdbg, hm | ⟨hm, hv, hnn⟩⟩ := hc
      · exact ld_glob (X := X.suite a ((a, oe3) :: (X.pn ++ pins))) S3 hg hm q hdbg
      · exact ld_blt (X := X.suite a ((a, oe3) :: (X.pn ++ pins))) S3 hg hm hv q hnn hdbg
    refine asked (LM.here ?_)
    cases b with
    | true =>
      refine codeAny_handlers_suite_as (HandSPX.lands_againZ fl3 fun g4 fl4 up4 => ?_)
      have J4 : Inv X pins τ G { t with heap := g4 } := J.landed nb fl4.1 ((up.trans up3).trans up4) os ag
      obtain ⟨oe4, vs4, at4, zc4, dt4⟩ := fl4.there
      have S4 := J4.suite at4 dt4 na nL nF
      refine store_ok (X := X.suite a ((a, oe4) :: (X.pn ++ pins))) (v := .ref a) S4 hN hi (.inl hln) rfl (fun t5 S5 => ?_) (.inr hln)
      refine wpAny_mono ((hsu a oe4 (X.pn ++ pins)).run [] t5 _ G _ S5 (hyes rfl a na)) (fun fl t6 hsp => ?_) (fun _ _ z => False.elim z)
      cases fl with
      | next =>
        obtain ⟨τ6, G6, S6, q6⟩ := hsp
        obtain ⟨p1, p2, _⟩ := S6.pin (a, oe4) (List.mem_append_left _ List.mem_cons_self)
        have J6 : Inv X pins τ6 (upd G6 a (exK a cls d)) t6 := track (S6.unsuite ok) p2 gone0 nL noc nop (exK_ok p1 zc4 dt4)
        exact gone_ok J6 hN hi hln fun t7 J7 => ⟨_, _, J7, q6⟩
      | brk =>
        obtain ⟨_, _, _, q6⟩ := hsp
        exact False.elim q6
      | cont =>
        obtain ⟨_, _, _, q6⟩ := hsp
        exact False.elim q6
      | ret u =>
        obtain ⟨_, _, _, _, _, q6⟩ := hsp
        exact False.elim q6
    | false =>
      show wpAny _ X.A (handleBy (.ref a) X.env []) _ _ _
      refine wpAny_handleBy_nil ?_
      obtain ⟨k1, k2, k3, oe, vs, T, oT, ts', he, hz, hd, h1, hr⟩ := id fl3
      unfold PySem.passOn
      refine wpAny_bind (wpAny_field he hd h1 ?_)
      rw [if_neg (show ¬ ((Value.ref T == Value.none) = true) from by simp)]
      have away : wpAny (model X.prog X.w) X.A (setFlight (.ref a) X.env.frame) (fun _ t4 => wpAny (model X.prog X.w) X.A (throw (.ref a) : Sem Flow) (SP X pins D) X.xe t4) X.xe { t with heap := g3 } := by
        rw [hf]
        refine HandSPX.setFlight_upZ fl3 fun g4 hh4 up4 => wpAny_throw (tk _ _ ?_)
        exact ⟨a, B, sI, pins, τ, G, cls, d, rfl, J, nb, (up.trans up3).trans up4, .inr (.inr (by rw [hs]; exact hh4)), na, os, ag, hno rfl⟩
      first
        | exact wpAny_bind (wpAny_pure (wpAny_bind away))
        | exact wpAny_bind away
  · cases fl with
    | next =>
      obtain ⟨τ, G, J, q⟩ := hsp
      exact wpAny_execs_nil ⟨τ, G, J.ofTry ok, q⟩
    | brk =>
      obtain ⟨τ, G, J, q⟩ := hsp
      exact ⟨τ, G, J.ofTry ok, q⟩
    | cont =>
      obtain ⟨τ, G, J, q⟩ := hsp
      exact ⟨τ, G, J.ofTry ok, q⟩
    | ret u =>
      obtain ⟨v, τ, G, J, r, q⟩ := hsp
      exact ⟨v, τ, G, J.ofTry ok, r, q⟩
end
end Su
/-! ### XB: what is asked of a kept exception: isinstance, a field -/
namespace Su
open PySem PySem.Spec PyProof.Rows L2
/-- what the written part says of an own exception class -/
structure ExcT (K : PySem.W.Frag) (C : Addr) : Prop where
  cl : (PySem.W.clsIn K C).isSome = true
  ga : PySem.W.findIn K (.ref C) "__getattribute__" = some (some (.builtin "BaseException.__getattribute__"))
  gg : PySem.W.findIn K (.ref C) "__getattr__" = some none
  sub : PySem.W.subIn K (.ref C) (.type "BaseException") = some true
  cc : PySem.W.findIn K (.ref C) "__class__" = some (some (.builtin "object.__class__"))
  sp : PySem.W.specialIn K (.builtin "object.__class__") "__get__" = some (some (.builtin "getset_descriptor.__get__"))
  tk : PySem.W.takesIn K (.builtin "object.__class__") = some true
  mr : PySem.W.mroIn K C (.type "object") = some true
  hd : PySem.W.hasDictIn K C = true
/-- its dict, if it has one, is told -/
def XdAt (H : Hp) (d : Option Addr) : Prop := ∀ dd, d = some dd → ∃ fs, H dd = some (.xd fs)
section
variable {X : Cx} {pins : List (Addr × Obj)} {σ : L2.St} {H : Hp} {s : Shared}
theorem exK_inst {a C : Addr} {d : Option Addr} (I : Inv X pins σ H s) (e : H a = some (exK a (.ref C) d)) (hd : XdAt H d) : ∃ (ox : Obj) (od : Option Obj), PySem.W.InstAt s.heap a ox C od := by
  obtain ⟨oe, vs, e1, z, dt⟩ := (I.hok a _ e).1
  have no : PySem.W.notCls oe = true := by
    unfold PySem.W.notCls
    rw [dt]
  cases d with
  | none => exact ⟨oe, none, e1, z.1, no, by rw [z.2]; trivial⟩
  | some dd =>
    obtain ⟨fs, hx⟩ := hd dd rfl
    obtain ⟨mA, hns, _⟩ := (show ObjOk X.prog X.w H s.heap dd (.xd fs) from I.hok dd _ hx)
    obtain ⟨od, ho, _⟩ := lookIn_ns hns
    exact ⟨oe, some od, e1, z.1, no, by rw [z.2]; exact ho⟩
theorem exK_kit {a C : Addr} {d : Option Addr} (T : ExcT X.K C) (I : Inv X pins σ H s) (e : H a = some (exK a (.ref C) d)) (hd : XdAt H d) : ∃ P : Heap → Prop, PySem.W.KitX X.K (.ref a) (.ref C) P ∧ P s.heap := by
  obtain ⟨ox, od, J⟩ := exK_inst I e hd
  exact ⟨_, PySem.W.kitx_exc T.cl T.ga T.gg T.sub T.cc T.sp T.tk T.mr, J⟩
/-- isinstance(e, c) -/
def rIsiE (K : PySem.W.Frag) : List V → Hp → VK → Prop := fun xs H Q => ∃ (a C : Addr) (d : Option Addr) (c : V) (u : Value) (b : Bool), xs = [.ref a, c] ∧ ClsV c u ∧ ExcT K C ∧ H a = some (exK a (.ref C) d) ∧ XdAt H d ∧ PySem.W.kitOne K (.ref C) u = some b ∧ Q (.bl b) H
theorem call_isiE : CallR X (.builtin "isinstance") (rIsiE X.K) := by
  intro pins s σ H xs us Q I r h
  obtain ⟨a, C, d, c, u, b, rfl, k, T, e, hd, ek, q⟩ := h
  obtain ⟨u1, u2, rfl, r1, r2⟩ := vals2 r
  cases r1
  have e2 := k.eq r2
  subst e2
  obtain ⟨P, Z, p⟩ := exK_kit T I e hd
  exact PySem.W.kia_one Z I.kIn p ek (fun z => nomatch z) fun tk => ⟨.bl b, H, I.tok tk, rfl, q⟩
/-- isinstance(e, (c, ..)) -/
def rIsiET (K : PySem.W.Frag) : List V → Hp → VK → Prop := fun xs H Q => ∃ (a C tp : Addr) (d : Option Addr) (cs : List V) (us : List Value) (b : Bool), xs = [.ref a, .ref tp] ∧ T2 H tp cs ∧ Paired ClsV cs us ∧ ExcT K C ∧ H a = some (exK a (.ref C) d) ∧ XdAt H d ∧
  PySem.W.kitAny K (.ref C) us = some b ∧ Q (.bl b) H
theorem call_isiET : CallR X (.builtin "isinstance") (rIsiET X.K) := by
  intro pins s σ H xs us Q I r h
  obtain ⟨a, C, tp, d, cs, ws, b, rfl, hT, k, T, e, hd, ek, q⟩ := h
  obtain ⟨u1, u2, rfl, r1, r2⟩ := vals2 r
  cases r1
  cases r2
  obtain ⟨P, Z, p⟩ := exK_kit T I e hd
  obtain ⟨its, rv, ⟨⟨oc, od, dt, sl⟩, h1, h2, n, h3⟩, _⟩ := I.tuple (hT.sq (K := X.K))
  have e3 := ClsV.all k rv
  subst e3
  simp only at h2 h3
  subst h2 h3
  exact PySem.W.kia_tup Z I.kIn p h1 ek (fun z => nomatch z) fun tk => ⟨.bl b, H, I.tok tk, rfl, q⟩
/-- e.f -/
def tXfld (K : PySem.W.Frag) (f : Str) (te : TE) : TE := fun σ H Q => te σ H fun x H1 => ∃ (a C dd : Addr) (fs : List (Str × V)) (v : V), x = .ref a ∧ ExcT K C ∧ PySem.W.findIn K (.ref C) f = some none ∧ H1 a = some (exK a (.ref C) (some dd)) ∧ H1 dd = some (.xd fs) ∧ fs.lookup f = some v ∧ Q v H1
theorem pe_xfld {e : Expr} {f : Str} {te : TE} {pos : Pos} (he : PE X e te) (hb : attributeBase e f X.env (eval e X.env) = eval e X.env := by rfl) : PE X (.Attribute e f pos) (tXfld X.K f te) := by
  refine ⟨fun pins s σ H Q I h => ?_⟩
  refine attr_of hb (thn (he.run pins s σ H _ I h) fun u s1 ⟨x, H1, I1, rx, a, C, dd, fs, v, ex, T, no, ea, ed, ef, q⟩ => ?_)
  subst ex
  cases rx
  obtain ⟨oe, vs, e1, z, dt⟩ := (I1.hok a _ ea).1
  obtain ⟨mA, hns, hr⟩ := (show ObjOk X.prog X.w H1 s1.heap dd (.xd fs) from I1.hok dd _ ed)
  obtain ⟨od, ho, hl⟩ := lookIn_ns hns
  obtain ⟨u, hu, ru⟩ := RelO.some_of (v := v) (o := mA f) (by rw [← ef]; exact hr f)
  have J : PySem.W.InstAt s1.heap a oe C (some od) := ⟨e1, z.1, by unfold PySem.W.notCls; rw [dt], by rw [z.2]; exact ho⟩
  exact HandSPX.exc_get I1.kIn J T.ga T.gg T.sub (PySem.W.findObj_own T.hd no rfl (by rw [hl, hu])) (handed_of ru) ⟨v, H1, I1.tok _, ru, q⟩
end
end Su
/-! ### XF: an exception that is caught, seen from the begin of its suite on -/
namespace Su
open PySem PySem.Spec PyProof.Rows L2
def wIn (K : PySem.W.Frag) (c : Value) (i : Nat) (ts : Addr → List (Addr × Obj) → TS) (Wo : WX) (D : Ends) : WX := fun cls d σ H =>
  ∃ b, PySem.W.exmOne K cls c = some b ∧
    (b = true → ∀ a pn, H a = none → ts a pn { nx := fun σ' H' => D.nx (σ'.set i none) H', rt := D.rt, bk := fun σ' H' => D.bk (σ'.set i none) H', ct := fun σ' H' => D.ct (σ'.set i none) H' } (σ.set i (some (.ref a))) (upd H a (exK a cls d))) ∧
    (b = false → Wo cls d σ H)
def tTryIn (K : PySem.W.Frag) (c : Value) (i : Nat) (ts : Addr → List (Addr × Obj) → TS) (Wo : WX) (tb : WX → TS) : TS := fun D σ H => tb (wIn K c i ts Wo D) D σ H
section
variable {X : Cx} {x n : Str} {c : Value} {i : Nat} {body suite : List Stmt} {b0 : Stmt} {np pos pos' : Pos} {tb : WX → TS} {ts : Addr → List (Addr × Obj) → TS} {Wo : WX}
/-- try: .. except x as n: suite, the exception tracked in the suite -/
theorem ps_try_in (hex : X.ex = []) (hs : X.stack = X.env :: X.outer) (hf : X.env.frame = some X.env.locals) (hN : X.N.Nodup) (hi : X.N[i]? = some n) (hln : X.env.kindOf n = some .local) (hc : Names X x c) (tk : Takes X Wo)
    (hb : ∀ (W : WX) (pn : List (Addr × Obj)) (xe : Value → Shared → Prop), Takes (X.tr pn xe) W → PassesOwn (model X.prog X.w) X.A X.env xe → PSs (X.tr pn xe) body (tb W))
    (hsu : ∀ (a : Addr) (pn : List (Addr × Obj)), PSs (X.suite a pn) (b0 :: suite) (ts a pn)) :
    PS X (.Try body [.ExceptHandler (some (.Name x np)) (some n) (b0 :: suite) pos'] [] [] pos) (tTryIn X.K c i ts Wo tb) := by
  refine ⟨fun pins s σ H D I h => ?_⟩
  have ok := I.ok
  have frm : X.A.frames = some (X.env :: X.outer) := by
    rw [ok.frames, hs]
  refine wpAny_Try_except ?_
  refine wpAny_mono ((hb (wIn X.K c i ts Wo D) (X.pn ++ pins) (fun u t => wpAny (model X.prog X.w) X.A (noteFrame u X.env) (fun _ t2 => wpAny (model X.prog X.w) X.A (setFlight u none) (fun _ t3 =>
    wpAny (model X.prog X.w) X.A (handleBy u X.env [.ExceptHandler (some (.Name x np)) (some n) (b0 :: suite) pos']) (SP X pins D) X.xe t3) X.xe t2) X.xe t) (fun u t xx => ?_) PassesOwn.looking).run [] s σ H D (I.toTry _) h) (fun fl t hsp => ?_) (fun _ _ z => z)
  · obtain ⟨a, B, sI, pins2, τ, G, cls, d, rfl, Jt, nb, up, sky, na, os, ag, b, hb1, hyes, hno⟩ := xx
    have J : Inv X pins τ G sI := Jt.ofTry ok
    have sky2 : Sky B (X.env :: X.outer) a (Zc cls d) X.env.locals t.heap := by
      rw [← hs]
      exact sky
    show wpAny (model X.prog X.w) X.A (noteFrame (.ref a) X.env) _ _ _
    refine Sky.land Zc.steady frm hf sky2 fun g3 fl3 up3 => ?_
    have J3 : Inv X pins τ G { t with heap := g3 } := J.landed nb fl3.1 (up.trans up3) os ag
    obtain ⟨oe3, vs3, at3, zc3, dt3⟩ := fl3.there
    have nofr : a ∉ frs (X.env :: X.outer) := by
      intro hm
      obtain ⟨_, o', e', hnf⟩ := fl3.2.2.1.mem hm
      rw [at3] at e'
      cases e'
      exact hnf _ dt3
    have nL : a ≠ X.env.locals := fun z => nofr (List.mem_filterMap.mpr ⟨X.env, List.mem_cons_self, by rw [hf, z]⟩)
    have nF : a ∉ X.fs := by
      intro hm
      obtain ⟨e, he, q⟩ := List.mem_filterMap.mp hm
      exact nofr (List.mem_filterMap.mpr ⟨e, List.mem_cons_of_mem _ he, q⟩)
    -- it wasn't there ahead
    have gone : sI.heap.get? a = none := by
      cases z : sI.heap.get? a with
      | none => rfl
      | some o =>
        have y := nb a o z (by rw [hs]; exact nofr)
        rw [fl3.2.1] at y
        cases y
    have gone0 : X.s_0.heap.get? a = none := by
      cases z : X.s_0.heap.get? a with
      | none => rfl
      | some o =>
        obtain ⟨o', y⟩ := J.base.there a o z (by rw [hex]; simp)
        rw [gone] at y
        cases y
    have noc : ∀ y k, X.env.cells.lookup y = some k → k ≠ a := by
      rintro y k e rfl
      obtain ⟨v, o, e1, _⟩ := J.cell y k e
      rw [gone] at e1
      cases e1
    have nop : ∀ q ∈ X.pn ++ pins, q.1 ≠ a := by
      intro q hq e
      have y := (J.pin q hq).1
      rw [e, gone] at y
      cases y
    have S3 := J3.suite at3 dt3 na nL nF
    refine wpAny_handleBy_cons (codeAny_handlers_test ?_) (by intro q; cases q)
    have LT : PySem.W.Looks (model X.prog X.w) g3 (typeOf (.ref a)) cls := fun A Q E s k q => wpAny_typeOf_ref (k _ _ at3) (by rw [zc3.1]; exact q)
    have LM := PySem.W.exm_one (M := model X.prog X.w) (J3.kIn) LT hb1
    have asked : ∀ {Q : Value → Shared → Prop} {E : Value → Shared → Prop}, Q c { t with heap := g3 } → wpAny (model X.prog X.w) (X.A.mark (some (.ref a))) (eval (.Name x np) X.env) Q E { t with heap := g3 } := by
      intro Q E q
      obtain ⟨hg, hdbg, hm | ⟨hm, hv, hnn⟩⟩ := hc
      · exact ld_glob (X := X.suite a ((a, oe3) :: (X.pn ++ pins))) S3 hg hm q hdbg
      · exact ld_blt (X := X.suite a ((a, oe3) :: (X.pn ++ pins))) S3 hg hm hv q hnn hdbg
    refine asked (LM.here ?_)
    cases b with
    | true =>
      refine codeAny_handlers_suite_as (HandSPX.lands_againZ fl3 fun g4 fl4 up4 => ?_)
      have J4 : Inv X pins τ G { t with heap := g4 } := J.landed nb fl4.1 ((up.trans up3).trans up4) os ag
      obtain ⟨oe4, vs4, at4, zc4, dt4⟩ := fl4.there
      have J5 : Inv X pins τ (upd G a (exK a cls d)) { t with heap := g4 } := track J4 na gone0 nL noc nop (exK_ok at4 zc4 dt4)
      have S4 : Inv (X.suite a (X.pn ++ pins)) [] τ (upd G a (exK a cls d)) { t with heap := g4 } := ⟨J5.ok.suite _ _, J5.os, J5.bare, J5.base, J5.loc, J5.cell, J5.free, J5.freeC, fun p hp => J5.pin p (by rw [List.append_nil] at hp; exact hp), J5.hok, J5.len⟩
      refine store_ok (X := X.suite a (X.pn ++ pins)) (v := .ref a) S4 hN hi (.inl hln) rfl (fun t5 S5 => ?_) (.inr hln)
      refine wpAny_mono ((hsu a (X.pn ++ pins)).run [] t5 _ _ _ S5 (hyes rfl a _ na)) (fun fl t6 hsp => ?_) (fun _ _ z => False.elim z)
      have end_ : ∀ {σ6 : L2.St} {H6 : Hp} {Q : Shared → Prop}, Inv (X.suite a (X.pn ++ pins)) [] σ6 H6 t6 → (∀ t7, Inv X pins (σ6.set i none) H6 t7 → Q t7) →
          wpAny (model X.prog X.w) X.A (do bindName X.env n .none; unbindBehindTheSuite X.env n pos') (fun _ t7 => Q t7) X.xe t6 := fun {σ6 H6 Q} S6 hq => by
        have J6 : Inv X pins σ6 H6 t6 := ⟨ok, S6.os, S6.bare, S6.base, S6.loc, S6.cell, S6.free, S6.freeC, fun p hp => S6.pin p (List.mem_append_left _ hp), S6.hok, S6.len⟩
        exact gone_ok J6 hN hi hln hq
      cases fl with
      | next =>
        obtain ⟨σ6, H6, S6, q6⟩ := hsp
        exact end_ S6 fun t7 J7 => ⟨_, _, J7, q6⟩
      | brk =>
        obtain ⟨σ6, H6, S6, q6⟩ := hsp
        exact end_ S6 fun t7 J7 => ⟨_, _, J7, q6⟩
      | cont =>
        obtain ⟨σ6, H6, S6, q6⟩ := hsp
        exact end_ S6 fun t7 J7 => ⟨_, _, J7, q6⟩
      | ret u =>
        obtain ⟨v6, σ6, H6, S6, r6, q6⟩ := hsp
        exact end_ S6 fun t7 J7 => ⟨_, _, _, J7, r6, q6⟩
    | false =>
      show wpAny _ X.A (handleBy (.ref a) X.env []) _ _ _
      refine wpAny_handleBy_nil ?_
      obtain ⟨k1, k2, k3, oe, vs, T, oT, ts', he, hz, hd, h1, hr⟩ := id fl3
      unfold PySem.passOn
      refine wpAny_bind (wpAny_field he hd h1 ?_)
      rw [if_neg (show ¬ ((Value.ref T == Value.none) = true) from by simp)]
      have away : wpAny (model X.prog X.w) X.A (setFlight (.ref a) X.env.frame) (fun _ t4 => wpAny (model X.prog X.w) X.A (throw (.ref a) : Sem Flow) (SP X pins D) X.xe t4) X.xe { t with heap := g3 } := by
        rw [hf]
        refine HandSPX.setFlight_upZ fl3 fun g4 hh4 up4 => wpAny_throw (tk _ _ ?_)
        exact ⟨a, B, sI, pins, τ, G, cls, d, rfl, J, nb, (up.trans up3).trans up4, .inr (.inr (by rw [hs]; exact hh4)), na, os, ag, hno rfl⟩
      first
        | exact wpAny_bind (wpAny_pure (wpAny_bind away))
        | exact wpAny_bind away
  · cases fl with
    | next =>
      obtain ⟨τ, G, J, q⟩ := hsp
      exact wpAny_execs_nil ⟨τ, G, J.ofTry ok, q⟩
    | brk =>
      obtain ⟨τ, G, J, q⟩ := hsp
      exact ⟨τ, G, J.ofTry ok, q⟩
    | cont =>
      obtain ⟨τ, G, J, q⟩ := hsp
      exact ⟨τ, G, J.ofTry ok, q⟩
    | ret u =>
      obtain ⟨v, τ, G, J, r, q⟩ := hsp
      exact ⟨v, τ, G, J.ofTry ok, r, q⟩
end
section
variable {X : Cx}
/-- repr of a scalar, wherever -/
def rReprS : List V → Hp → VK → Prop := fun xs H Q => (xs = [.non] ∧ Q (.str "None") H) ∨ (∃ b : Bool, xs = [.bl b] ∧ Q (.str (if b then "True" else "False")) H) ∨ ∃ i : Int, xs = [.int i] ∧ i.natAbs.log2 < 1920 ∧ Q (.str (toString i)) H
theorem call_reprS : CallR X (.builtin "repr") rReprS := by
  intro pins s σ H xs us Q I r h
  rcases h with ⟨rfl, q⟩ | ⟨b, rfl, q⟩ | ⟨i, rfl, hz, q⟩
  · obtain ⟨u, rfl, ru⟩ := vals1 r
    cases ru
    exact PySem.P.repr_of_none ⟨.str _, H, I.tok _, ⟨_, rfl⟩, q⟩
  · obtain ⟨u, rfl, ru⟩ := vals1 r
    cases ru
    exact PySem.P.repr_of_bool ⟨.str _, H, I.tok _, ⟨_, rfl⟩, q⟩
  · obtain ⟨u, rfl, t, rfl⟩ := vals1 r
    exact PySem.P.repr_of_int hz ⟨.str _, H, I.tok _, ⟨_, rfl⟩, q⟩
end
end Su
/-! ### GA: things of any kind -/
namespace Su
open PySem PySem.Spec PyProof.Rows L2
inductive G where
  | non
  | bl (b : Bool)
  | int (i : Int)
  | str (s : Str)
  | lst (l : List G)
  | tup (l : List G)
  | dct
mutual
/-- the value is such a thing; its lists stand apart from p -/
inductive Tg (p : Addr) (H : Hp) : V → G → Prop
  | non : Tg p H .non .non
  | bl (b : Bool) : Tg p H (.bl b) (.bl b)
  | int (i : Int) : Tg p H (.int i) (.int i)
  | str (s : Str) : Tg p H (.str s) (.str s)
  | lst {a : Addr} {vs : List V} {ds : List G} (n : a ≠ p) (e : H a = some (.lst vs)) (t : TgL p H vs ds) : Tg p H (.ref a) (.lst ds)
  | tup {a : Addr} {vs : List V} {ds : List G} (e : T2 H a vs) (t : TgL p H vs ds) : Tg p H (.ref a) (.tup ds)
  | dct {a : Addr} (e : H a = some (.dK [])) : Tg p H (.ref a) .dct
inductive TgL (p : Addr) (H : Hp) : List V → List G → Prop
  | nil : TgL p H [] []
  | cons {v : V} {vs : List V} {d : G} {ds : List G} (h : Tg p H v d) (t : TgL p H vs ds) : TgL p H (v :: vs) (d :: ds)
end
/-- what keeps such things -/
structure Keeps (p : Addr) (H H' : Hp) : Prop where
  ls : ∀ a vs, a ≠ p → H a = some (.lst vs) → H' a = some (.lst vs)
  tw : ∀ a vs, T2 H a vs → T2 H' a vs
  dk : ∀ a kvs, H a = some (.dK kvs) → H' a = some (.dK kvs)
theorem Keeps.of {p : Addr} {H H' : Hp} (k : Kept p H H') (hp : PoolAt H p) : Keeps p H H' := by
  refine ⟨fun a vs n z => k _ _ z n, fun a vs h => K2.of k hp _ _ h, fun a kvs z => ?_⟩
  obtain ⟨o, e, g, m, rfl, _⟩ := hp
  exact k _ _ z (ne_of z e (by intro y; cases y))
theorem Keeps.same {p : Addr} {H H' : Hp} (s : Same H H') : Keeps p H H' := ⟨fun a vs n z => s _ _ z, fun a vs h => h.same s, fun a kvs z => s _ _ z⟩
mutual
theorem Tg.keep {p : Addr} {H H' : Hp} (k : Keeps p H H') : ∀ {v : V} {g : G}, Tg p H v g → Tg p H' v g
  | _, _, .non => .non
  | _, _, .bl b => .bl b
  | _, _, .int i => .int i
  | _, _, .str s => .str s
  | _, _, .lst n e t => .lst n (k.ls _ _ n e) (TgL.keep k t)
  | _, _, .tup e t => .tup (k.tw _ _ e) (TgL.keep k t)
  | _, _, .dct e => .dct (k.dk _ _ e)
theorem TgL.keep {p : Addr} {H H' : Hp} (k : Keeps p H H') : ∀ {vs : List V} {gs : List G}, TgL p H vs gs → TgL p H' vs gs
  | _, _, .nil => .nil
  | _, _, .cons h t => .cons (Tg.keep k h) (TgL.keep k t)
end
theorem TgL.len {p : Addr} {H : Hp} : ∀ {vs : List V} {gs : List G}, TgL p H vs gs → vs.length = gs.length
  | _, _, .nil => rfl
  | _, _, .cons _ t => by
    rw [List.length_cons, List.length_cons, TgL.len t]
theorem TgL.get {p : Addr} {H : Hp} : ∀ {vs : List V} {gs : List G}, TgL p H vs gs → ∀ {i : Nat} {v : V}, vs[i]? = some v → ∃ g, gs[i]? = some g ∧ Tg p H v g
  | _, _, .nil, i, v, e => by simp at e
  | _, _, .cons h t, 0, v, e => by
    obtain rfl := (by simpa using e : _ = v)
    exact ⟨_, rfl, h⟩
  | _, _, .cons h t, i + 1, v, e => TgL.get t (i := i) (by simpa using e)
theorem TgL.ints {p : Addr} {H : Hp} : ∀ ns : List Int, TgL p H (ns.map V.int) (ns.map G.int)
  | [] => .nil
  | n :: ns => .cons (.int n) (TgL.ints ns)
theorem TgL.app {p : Addr} {H : Hp} : ∀ {vs ws : List V} {gs hs : List G}, TgL p H vs gs → TgL p H ws hs → TgL p H (vs ++ ws) (gs ++ hs)
  | _, _, _, _, .nil, h => h
  | _, _, _, _, .cons x t, h => .cons x (TgL.app t h)
/-! kinds -/
def tyG : G → String
  | .non => "NoneType"
  | .bl _ => "bool"
  | .int _ => "int"
  | .str _ => "str"
  | .lst _ => "list"
  | .tup _ => "tuple"
  | .dct => "dict"
theorem Tg.ty {K : PySem.W.Frag} {p : Addr} {H : Hp} {v : V} {g : G} (h : Tg p H v g) : TyX K H v (.type (tyG g)) := by
  cases h with
  | non => exact .base .non
  | bl b => exact .base (.bl b)
  | int i => exact .base (.int i)
  | str s => exact .base (.str s)
  | lst n e t => exact .base (.lst e)
  | tup e t => exact e.ty
  | dct e => exact .base (.dK e)
def isInt : G → Bool
  | .non => false
  | .bl _ => true
  | .int _ => true
  | .str _ => false
  | .lst _ => false
  | .tup _ => false
  | .dct => false
theorem kit_int {K : PySem.W.Frag} (g : G) : PySem.W.kitOne K (.type (tyG g)) (.type "int") = some (isInt g) := by
  refine kit_ty ?_
  cases g
  · exact (by decide +kernel : kitB "NoneType" "int" = some false)
  · exact (by decide +kernel : kitB "bool" "int" = some true)
  · exact (by decide +kernel : kitB "int" "int" = some true)
  · exact (by decide +kernel : kitB "str" "int" = some false)
  · exact (by decide +kernel : kitB "list" "int" = some false)
  · exact (by decide +kernel : kitB "tuple" "int" = some false)
  · exact (by decide +kernel : kitB "dict" "int" = some false)
def isBool : G → Bool
  | .non => false
  | .bl _ => true
  | .int _ => false
  | .str _ => false
  | .lst _ => false
  | .tup _ => false
  | .dct => false
theorem kit_bool {K : PySem.W.Frag} (g : G) : PySem.W.kitOne K (.type (tyG g)) (.type "bool") = some (isBool g) := by
  refine kit_ty ?_
  cases g
  · exact (by decide +kernel : kitB "NoneType" "bool" = some false)
  · exact (by decide +kernel : kitB "bool" "bool" = some true)
  · exact (by decide +kernel : kitB "int" "bool" = some false)
  · exact (by decide +kernel : kitB "str" "bool" = some false)
  · exact (by decide +kernel : kitB "list" "bool" = some false)
  · exact (by decide +kernel : kitB "tuple" "bool" = some false)
  · exact (by decide +kernel : kitB "dict" "bool" = some false)
def isStr : G → Bool
  | .non => false
  | .bl _ => false
  | .int _ => false
  | .str _ => true
  | .lst _ => false
  | .tup _ => false
  | .dct => false
theorem kit_str {K : PySem.W.Frag} (g : G) : PySem.W.kitOne K (.type (tyG g)) (.type "str") = some (isStr g) := by
  refine kit_ty ?_
  cases g
  · exact (by decide +kernel : kitB "NoneType" "str" = some false)
  · exact (by decide +kernel : kitB "bool" "str" = some false)
  · exact (by decide +kernel : kitB "int" "str" = some false)
  · exact (by decide +kernel : kitB "str" "str" = some true)
  · exact (by decide +kernel : kitB "list" "str" = some false)
  · exact (by decide +kernel : kitB "tuple" "str" = some false)
  · exact (by decide +kernel : kitB "dict" "str" = some false)
def isTuple : G → Bool
  | .non => false
  | .bl _ => false
  | .int _ => false
  | .str _ => false
  | .lst _ => false
  | .tup _ => true
  | .dct => false
theorem kit_tuple {K : PySem.W.Frag} (g : G) : PySem.W.kitOne K (.type (tyG g)) (.type "tuple") = some (isTuple g) := by
  refine kit_ty ?_
  cases g
  · exact (by decide +kernel : kitB "NoneType" "tuple" = some false)
  · exact (by decide +kernel : kitB "bool" "tuple" = some false)
  · exact (by decide +kernel : kitB "int" "tuple" = some false)
  · exact (by decide +kernel : kitB "str" "tuple" = some false)
  · exact (by decide +kernel : kitB "list" "tuple" = some false)
  · exact (by decide +kernel : kitB "tuple" "tuple" = some true)
  · exact (by decide +kernel : kitB "dict" "tuple" = some false)
def isList : G → Bool
  | .non => false
  | .bl _ => false
  | .int _ => false
  | .str _ => false
  | .lst _ => true
  | .tup _ => false
  | .dct => false
theorem kit_list {K : PySem.W.Frag} (g : G) : PySem.W.kitOne K (.type (tyG g)) (.type "list") = some (isList g) := by
  refine kit_ty ?_
  cases g
  · exact (by decide +kernel : kitB "NoneType" "list" = some false)
  · exact (by decide +kernel : kitB "bool" "list" = some false)
  · exact (by decide +kernel : kitB "int" "list" = some false)
  · exact (by decide +kernel : kitB "str" "list" = some false)
  · exact (by decide +kernel : kitB "list" "list" = some true)
  · exact (by decide +kernel : kitB "tuple" "list" = some false)
  · exact (by decide +kernel : kitB "dict" "list" = some false)
end Su
/-! ### GB: such things as data -/
namespace Su
open PySem PySem.Spec PyProof.Rows L2
mutual
def toD : G → PyData
  | .non => .none
  | .bl b => .bool b
  | .int i => .int i
  | .str s => .str s
  | .lst l => .list (toDs l)
  | .tup l => .tuple (toDs l)
  | .dct => .dict []
def toDs : List G → List PyData
  | [] => []
  | g :: gs => toD g :: toDs gs
end
mutual
def okD : G → Bool
  | .dct => false
  | .lst l => okDs l
  | .tup l => okDs l
  | _ => true
def okDs : List G → Bool
  | [] => true
  | g :: gs => okD g && okDs gs
end
mutual
theorem Tg.dp {K : PySem.W.Frag} {p : Addr} {H : Hp} : ∀ {v : V} {g : G}, Tg p H v g → okD g = true → Dp K H v (toD g)
  | _, _, .non, _ => .non
  | _, _, .bl b, _ => .bl b
  | _, _, .int i, _ => .int i
  | _, _, .str s, _ => .str s
  | _, _, .lst n e t, h => .lst (SqL.of e) (TgL.dp t (by simpa only [okD] using h))
  | _, _, .tup e t, h => .tup e.sq (TgL.dp t (by simpa only [okD] using h))
  | _, _, .dct _, h => by simp [okD] at h
theorem TgL.dp {K : PySem.W.Frag} {p : Addr} {H : Hp} : ∀ {vs : List V} {gs : List G}, TgL p H vs gs → okDs gs = true → DpAll K H vs (toDs gs)
  | _, _, .nil, _ => .nil
  | _, _, .cons x t, h => by
    simp only [okDs, Bool.and_eq_true] at h
    exact .cons (Tg.dp x h.1) (TgL.dp t h.2)
end
theorem toDs_map : ∀ gs : List G, toDs gs = gs.map toD
  | [] => rfl
  | g :: gs => by
    show toD g :: toDs gs = toD g :: gs.map toD
    rw [toDs_map gs]
theorem okDs_all : ∀ gs : List G, okDs gs = gs.all okD
  | [] => rfl
  | g :: gs => by
    show (okD g && okDs gs) = (okD g && gs.all okD)
    rw [okDs_all gs]
theorem eqv_nilD (ds : List PyData) : PyData.eqv (.list ds) (.list []) = ds.isEmpty := by
  cases ds with
  | nil => rfl
  | cons x l => rfl
/-- a thing that may stand in a tuple -/
structure OkE (g : G) : Prop where
  ok : okD g = true
  cl : (toD g).canLay0 = true
  dp : (toD g).depth ≤ 4
theorem lay_all : ∀ {gs : List G}, (∀ g ∈ gs, OkE g) → PyData.canLayAll0 (toDs gs) = true ∧ PyData.depthAll (toDs gs) ≤ 4
  | [], _ => ⟨by simp [toDs, PyData.canLayAll0], by simp [toDs, PyData.depthAll]⟩
  | g :: gs, h => by
    obtain ⟨a, b⟩ := lay_all fun x hx => h x (List.mem_cons_of_mem _ hx)
    have c := h g List.mem_cons_self
    refine ⟨?_, ?_⟩
    · simp only [toDs, PyData.canLayAll0, c.cl, a, Bool.and_self]
    · simp only [toDs, PyData.depthAll]
      have := c.dp
      omega
/-- a list of such things beside [] -/
theorem OkE.list {gs : List G} (h : ∀ g ∈ gs, OkE g) : okDs gs = true ∧ SeqAt.shaped (.list (toDs gs)) = true := by
  obtain ⟨a, b⟩ := lay_all h
  refine ⟨?_, ?_⟩
  · rw [okDs_all, List.all_eq_true]
    exact fun g hg => (h g hg).ok
  · unfold SeqAt.shaped
    rw [Bool.and_eq_true, decide_eq_true_eq]
    refine ⟨by simp only [PyData.canLay0, a], ?_⟩
    simp only [PyData.depth]
    omega
theorem shaped_nil : SeqAt.shaped (.list []) = true := by
  have f2 : Fine (.list []) 1 0 := Fine.list FineL.nil
  exact f2.shaped (by decide)
end Su
/-! ### GC: repr of such things -/
namespace Su
open PySem PySem.Spec PyProof.Rows L2
structure Fz (g : G) (n m : Nat) : Prop where
  sh : (toD g).showable = true
  dp : (toD g).depth ≤ n
  lv : (toD g).leavesShort 30 = true
  wt : (toD g).weight ≤ m
structure FzL (gs : List G) (n m : Nat) : Prop where
  sh : PyData.showableAll (toDs gs) = true
  dp : PyData.depthAll (toDs gs) ≤ n
  lv : PyData.leavesShortAll 30 (toDs gs) = true
  wt : PyData.weightAll (toDs gs) ≤ m
theorem Fz.up {g : G} {n m n' m' : Nat} (h : Fz g n m) (a : n ≤ n') (b : m ≤ m') : Fz g n' m' := ⟨h.sh, Nat.le_trans h.dp a, h.lv, Nat.le_trans h.wt b⟩
theorem FzL.up {g : List G} {n m n' m' : Nat} (h : FzL g n m) (a : n ≤ n') (b : m ≤ m') : FzL g n' m' := ⟨h.sh, Nat.le_trans h.dp a, h.lv, Nat.le_trans h.wt b⟩
theorem Fz.int {i : Int} (h1 : -1000000 ≤ i) (h2 : i ≤ 1000000) : Fz (.int i) 0 40 := by
  have hb : i.natAbs < 10 ^ 12 := by omega
  have hl : i.natAbs.log2 < 39 := by
    by_cases z : i.natAbs = 0
    · rw [z]
      decide
    · exact (Nat.log2_lt z).mpr (by omega)
  refine ⟨?_, by simp [toD, PyData.depth], ?_, ?_⟩
  · simp only [toD, PyData.showable, decide_eq_true_eq]
    omega
  · simp only [toD, PyData.leavesShort, decide_eq_true_eq]
    exact Nat.le_trans (PyData.shown_int_le hb) (by decide)
  · simp only [toD, PyData.weight]
    split <;> omega
theorem Fz.none : Fz .non 0 0 := ⟨by simp [toD, PyData.showable], by simp [toD, PyData.depth], by simp [toD, PyData.leavesShort], by simp [toD, PyData.weight]⟩
theorem Fz.bool (b : Bool) : Fz (.bl b) 0 0 := ⟨by simp [toD, PyData.showable], by simp [toD, PyData.depth], by simp [toD, PyData.leavesShort], by simp [toD, PyData.weight]⟩
theorem Fz.dct : Fz .dct 1 0 := ⟨by simp [toD, PyData.showable, PyData.showableKv], by simp [toD, PyData.depth, PyData.depthKv], by simp [toD, PyData.leavesShort, PyData.leavesShortKv], by simp [toD, PyData.weight, PyData.weightKv]⟩
theorem FzL.nil {n : Nat} : FzL [] n 0 := ⟨by simp [toDs, PyData.showableAll], by simp [toDs, PyData.depthAll], by simp [toDs, PyData.leavesShortAll], by simp [toDs, PyData.weightAll]⟩
theorem FzL.cons {g : G} {gs : List G} {n m k : Nat} (h : Fz g n m) (t : FzL gs n k) : FzL (g :: gs) n (m + 1 + k) := by
  refine ⟨?_, ?_, ?_, ?_⟩
  · simp only [toDs, PyData.showableAll, h.sh, t.sh, Bool.and_self]
  · simp only [toDs, PyData.depthAll]
    have := h.dp
    have := t.dp
    omega
  · simp only [toDs, PyData.leavesShortAll, h.lv, t.lv, Bool.and_self]
  · simp only [toDs, PyData.weightAll]
    have := h.wt
    have := t.wt
    omega
theorem Fz.tup {gs : List G} {n m : Nat} (t : FzL gs n m) : Fz (.tup gs) (n + 1) m :=
  ⟨by simpa only [toD, PyData.showable] using t.sh, by simp only [toD, PyData.depth]; have := t.dp; omega, by simpa only [toD, PyData.leavesShort] using t.lv, by simpa only [toD, PyData.weight] using t.wt⟩
theorem Fz.lst {gs : List G} {n m : Nat} (t : FzL gs n m) : Fz (.lst gs) (n + 1) m :=
  ⟨by simpa only [toD, PyData.showable] using t.sh, by simp only [toD, PyData.depth]; have := t.dp; omega, by simpa only [toD, PyData.leavesShort] using t.lv, by simpa only [toD, PyData.weight] using t.wt⟩
theorem FzL.all {n m : Nat} : ∀ {gs : List G}, (∀ g ∈ gs, Fz g n m) → FzL gs n ((m + 1) * gs.length)
  | [], _ => FzL.nil
  | g :: gs, h => by
    have a := FzL.cons (h g List.mem_cons_self) (FzL.all fun y hy => h y (List.mem_cons_of_mem _ hy))
    have e : m + 1 + (m + 1) * gs.length = (m + 1) * (g :: gs).length := by
      rw [List.length_cons, Nat.mul_add, Nat.mul_one, Nat.add_comm]
    rw [e] at a
    exact a
theorem Fz.len {g : G} {n m : Nat} (h : Fz g n m) (hm : m ≤ 500000) : (toD g).shown.length ≤ sizeLine := by
  have a := PyData.shown_le 30 (by decide) (toD g) h.lv
  have b := h.wt
  rw [sizeLine_eq]
  omega
mutual
theorem okD_nd : ∀ g : G, okD g = true → (toD g).hasDict = false
  | .non, _ => by simp [toD, PyData.hasDict]
  | .bl _, _ => by simp [toD, PyData.hasDict]
  | .int _, _ => by simp [toD, PyData.hasDict]
  | .str _, _ => by simp [toD, PyData.hasDict]
  | .lst l, h => by
    simp only [toD, PyData.hasDict]
    exact okDs_nd l (by simpa only [okD] using h)
  | .tup l, h => by
    simp only [toD, PyData.hasDict]
    exact okDs_nd l (by simpa only [okD] using h)
  | .dct, h => by simp [okD] at h
theorem okDs_nd : ∀ gs : List G, okDs gs = true → PyData.hasDictAll (toDs gs) = false
  | [], _ => by simp [toDs, PyData.hasDictAll]
  | g :: gs, h => by
    simp only [okDs, Bool.and_eq_true] at h
    simp only [toDs, PyData.hasDictAll, okD_nd g h.1, okDs_nd gs h.2, Bool.or_self]
end
/-- a thing without a dict, or an empty dict -/
def Flat (g : G) : Prop := okD g = true ∨ g = .dct
section
variable {X : Cx} {pins : List (Addr × Obj)} {σ : L2.St} {H : Hp} {s : Shared} {p : Addr}
theorem flat_reads (I : Inv X pins σ H s) {v : V} {g : G} {u : Value} (h : Tg p H v g) (r : RelV v u) (fl : Flat g) : ∃ as, Reads s.heap u (toD g) as ∧ ((toD g).hasDict = true → sysModules ∉ as) := by
  rcases fl with ok | rfl
  · obtain ⟨as, rd⟩ := Dp.reads I (toD g) v u (h.dp ok) r
    exact ⟨as, rd, PyData.noDict_hsm (okD_nd g ok)⟩
  · cases h with
    | @dct a e =>
      cases r
      obtain ⟨_, lo, vs, kv, o, es, ep, ho, hx, hd, _, pr, _⟩ := dk_of I.hok e
      cases kv
      have ee : es.toList = [] := by
        cases hz : es.toList with
        | nil => rfl
        | cons x l =>
          rw [hz] at pr
          cases pr
      refine ⟨_, Reads.dict (kvs := []) ho hx.1 hd (by rw [ee]; exact .nil) (by rw [ee]; exact .nil), fun _ hm => ?_⟩
      rcases List.mem_append.mp hm with z | z
      · rcases List.mem_cons.mp z with y | y
        · rw [← y] at lo
          simp at lo
        · cases y
      · cases z
theorem rows_reads (I : Inv X pins σ H s) : ∀ {vs : List V} {gs : List G} {us : List Value}, TgL p H vs gs → Vals vs us → (∀ g ∈ gs, Flat g) → PyData.showableAll (toDs gs) = true → (∀ t ∈ PyData.shownAll (toDs gs), t.length ≤ sizeLine) →
    (∃ as, ReadsAll s.heap us (toDs gs) as) ∧ ∃ bs, ReadAtMost s.heap (PyData.depthAll (toDs gs)) bs ∧ ReprAllK X.prog X.w bs s.heap (PyData.depthAll (toDs gs)) us (PyData.shownAll (toDs gs))
  | _, _, _, .nil, r, _, _, _ => by
    cases r
    exact ⟨⟨_, .nil⟩, [], (fun _ h => nomatch h), by simp only [toDs, PyData.shownAll]; exact .nil⟩
  | _, _, _, .cons (d := d) (ds := ds) h t, r, fl, sh, hz => by
    cases r with
    | cons r1 r2 =>
      have sh' : (toD d).showable = true ∧ PyData.showableAll (toDs ds) = true := by simpa [toDs, PyData.showableAll] using sh
      obtain ⟨as, rd, hsm⟩ := flat_reads I h r1 (fl d List.mem_cons_self)
      obtain ⟨b1, hb1, k1⟩ := ReprK.of_reads (prog := X.prog) (w := X.w) rd sh'.1 hsm (hz _ (by simp only [toDs, PyData.shownAll]; exact List.mem_cons_self ..))
      obtain ⟨⟨as2, rd2⟩, b2, hb2, k2⟩ := rows_reads I t r2 (fun g hg => fl g (List.mem_cons_of_mem _ hg)) sh'.2 (fun t ht => hz t (by simp only [toDs, PyData.shownAll]; exact List.mem_cons_of_mem _ ht))
      refine ⟨⟨_, .cons rd rd2⟩, b1 ++ b2, ?_, ?_⟩
      · intro b hm
        simp only [toDs, PyData.depthAll]
        rcases List.mem_append.mp hm with hm | hm
        · obtain ⟨d', as', r', hd'⟩ := hb1 b hm
          exact ⟨d', as', r', Nat.le_trans hd' (Nat.le_max_left _ _)⟩
        · obtain ⟨d', as', r', hd'⟩ := hb2 b hm
          exact ⟨d', as', r', Nat.le_trans hd' (Nat.le_max_right _ _)⟩
      · simp only [toDs, PyData.depthAll, PyData.shownAll]
        exact .cons ((k1.more fun b hb => List.mem_append_left _ hb).level_le (Nat.le_max_left _ _)) (k2.more_le (fun b hb => List.mem_append_right _ hb) (Nat.le_max_right _ _))
end
/-- what may be shown: flat, or a list of flat things -/
structure Shw (g : G) : Prop where
  fz : Fz g 40 500000
  fl : Flat g ∨ ∃ gs, g = .lst gs ∧ ∀ x ∈ gs, Flat x
section
variable {X : Cx}
def rReprG : List V → Hp → VK → Prop := fun xs H Q => ∃ (p : Addr) (v : V) (g : G), xs = [v] ∧ Tg p H v g ∧ Shw g ∧ Q (.str (toD g).shown) H
theorem call_reprG (hg : X.A.guards = some []) (hu : X.A.units + 64 < cLine) : CallR X (.builtin "repr") rReprG := by
  intro pins s σ H xs us Q I r h
  obtain ⟨p, v, g, rfl, ht, sw, q⟩ := h
  obtain ⟨u, rfl, ru⟩ := vals1 r
  have hz := sw.fz.len (Nat.le_refl _)
  have hdp := sw.fz.dp
  have ht0 := ht
  rcases sw.fl with fl | ⟨gs, rfl, fl⟩
  · cases ht with
    | non =>
      cases ru
      simp only [toD, PyData.shown] at q
      exact PySem.P.repr_of_none ⟨.str _, H, I.tok _, ⟨_, rfl⟩, q⟩
    | bl b =>
      cases ru
      simp only [toD, PyData.shown] at q
      exact PySem.P.repr_of_bool ⟨.str _, H, I.tok _, ⟨_, rfl⟩, q⟩
    | int i =>
      obtain ⟨t, rfl⟩ := ru
      simp only [toD, PyData.shown] at q
      have z := sw.fz.sh
      simp only [toD, PyData.showable, decide_eq_true_eq] at z
      exact PySem.P.repr_of_int z ⟨.str _, H, I.tok _, ⟨_, rfl⟩, q⟩
    | str x =>
      obtain ⟨t, rfl⟩ := ru
      simp only [toD, PyData.shown] at q hz
      exact PySem.P.repr_of_str ⟨.str _, H, I.tok _, ⟨_, rfl⟩, q⟩ hz
    | @lst a vs ds n e t =>
      cases ru
      obtain ⟨as, rd, hsm⟩ := flat_reads I ht0 rfl fl
      exact repr_of_reads' rd sw.fz.sh hsm hg (by omega) (fun _ _ z => z) (fun h' u tk hk => ⟨.str _, H, I.kept hk, ⟨u, rfl⟩, q⟩) hz
    | @tup a vs ds e t =>
      cases ru
      obtain ⟨as, rd, hsm⟩ := flat_reads I ht0 rfl fl
      exact repr_of_reads' rd sw.fz.sh hsm hg (by omega) (fun _ _ z => z) (fun h' u tk hk => ⟨.str _, H, I.kept hk, ⟨u, rfl⟩, q⟩) hz
    | @dct a e =>
      cases ru
      obtain ⟨as, rd, hsm⟩ := flat_reads I ht0 rfl fl
      exact repr_of_reads' rd sw.fz.sh hsm hg (by omega) (fun _ _ z => z) (fun h' u tk hk => ⟨.str _, H, I.kept hk, ⟨u, rfl⟩, q⟩) hz
  · cases ht with
    | @lst a vs _ n e t =>
      cases ru
      obtain ⟨its, rv, ⟨o, na, ho, hc, _, hd⟩, _⟩ := I.list (SqL.of e)
      have hz' : (listText (PyData.shownAll (toDs gs))).length ≤ sizeLine := by simpa only [toD, PyData.shown] using hz
      have sh' : PyData.showableAll (toDs gs) = true := by simpa only [toD, PyData.showable] using sw.fz.sh
      obtain ⟨⟨as, rda⟩, bs, hb, hk⟩ := rows_reads I t rv fl sh' (fun t ht => Nat.le_trans (listText_mem_le ht) hz')
      have rd : Reads s.heap (.ref a) (.list (toDs gs)) (a :: as) := Reads.list ho hc hd (by simpa using rda)
      have hna : a ∉ bs := not_mem_of_deeper rd (by simp only [PyData.depth]; omega) hb
      have q2 : Q (.str (listText (PyData.shownAll (toDs gs)))) H := by simpa only [toD, PyData.shown] using q
      simp only [toD, PyData.depth] at hdp
      refine call_repr_slot (by omega) ⟨o, ho, hc⟩ F.slot_list_repr.toG ?_
      cases its with
      | nil =>
        have e0 : toDs gs = [] := by
          clear q q2 hz hz' hdp sw sh' hk hb hna rd ht0 fl
          generalize toDs gs = ds at rda ⊢
          cases rda
          rfl
        rw [e0] at q2
        simp only [PyData.shownAll, listText_nil] at q2
        exact call_list_repr_empty ⟨o, ho, hc⟩ ho hd ⟨_, _, rfl, .str _, H, I.kept fun _ _ e => e, ⟨_, rfl⟩, q2⟩
      | cons x l =>
        exact call_list_reprK ho hc hd hna (by simpa using hk.length_eq) (fun i y e => hk.item i y (by simpa using e)) hg (fun b _ => Clear.nil b) (by show X.A.units + 1 + (_ + 1) < cLine; omega) (fun _ _ z => z) (fun h' u tk hk => ⟨_, _, rfl, .str _, H, I.kept hk, ⟨u, rfl⟩, q2⟩) hz'
end
end Su
/-! ### EO: written things, piece by piece: what an expression gives, as a thing -/
namespace Su
open PySem PySem.Spec PyProof.Rows L2
/-- whatever else was made since H0, te gives the thing g -/
def EOk (p : Addr) (H0 : Hp) (σ : L2.St) (te : TE) (g : G) : Prop := ∀ (H : Hp) (Q : VK), PoolAt H p → Same H0 H → (∀ v H', PoolAt H' p → Same H H' → Tg p H' v g → Q v H') → te σ H Q
def EsOk (p : Addr) (H0 : Hp) (σ : L2.St) (ta : TA) (gs : List G) : Prop := ∀ (H : Hp) (Q : List V → Hp → Prop), PoolAt H p → Same H0 H → (∀ vs H', PoolAt H' p → Same H H' → TgL p H' vs gs → Q vs H') → ta σ H Q
theorem TgL.drop {p : Addr} {H : Hp} : ∀ (n : Nat) {vs : List V} {gs : List G}, TgL p H vs gs → TgL p H (vs.drop n) (gs.drop n)
  | 0, _, _, h => h
  | _ + 1, _, _, .nil => .nil
  | n + 1, _, _, .cons _ t => t.drop n
theorem TgL.take {p : Addr} {H : Hp} : ∀ (n : Nat) {vs : List V} {gs : List G}, TgL p H vs gs → TgL p H (vs.take n) (gs.take n)
  | 0, _, _, _ => .nil
  | _ + 1, _, _, .nil => .nil
  | n + 1, _, _, .cons h t => .cons h (t.take n)
theorem TgL.rev {p : Addr} {H : Hp} : ∀ {vs : List V} {gs : List G}, TgL p H vs gs → TgL p H vs.reverse gs.reverse
  | _, _, .nil => .nil
  | _, _, .cons h t => by
    rw [List.reverse_cons, List.reverse_cons]
    exact t.rev.app (.cons h .nil)
theorem TgL.at {p : Addr} {H : Hp} : ∀ {vs : List V} {gs : List G}, TgL p H vs gs → ∀ {i : Nat} {g : G}, gs[i]? = some g → ∃ v, vs[i]? = some v ∧ Tg p H v g
  | _, _, .nil, i, g, e => by simp at e
  | _, _, .cons h t, 0, g, e => by
    obtain rfl := (by simpa using e : _ = g)
    exact ⟨_, rfl, h⟩
  | _, _, .cons h t, i + 1, g, e => t.at (i := i) (by simpa using e)
mutual
/-- no list, no dict in it -/
def noL : G → Bool
  | .tup l => noLs l
  | .lst _ => false
  | .dct => false
  | _ => true
def noLs : List G → Bool
  | [] => true
  | g :: gs => noL g && noLs gs
end
mutual
theorem Tg.keep2 {p : Addr} {H H' : Hp} (k : K2 H H') : ∀ {v : V} {g : G}, Tg p H v g → noL g = true → Tg p H' v g
  | _, _, .non, _ => .non
  | _, _, .bl b, _ => .bl b
  | _, _, .int i, _ => .int i
  | _, _, .str s, _ => .str s
  | _, _, .lst n e t, h => by simp [noL] at h
  | _, _, .tup e t, h => .tup (k _ _ e) (TgL.keep2 k t (by simpa [noL] using h))
  | _, _, .dct e, h => by simp [noL] at h
theorem TgL.keep2 {p : Addr} {H H' : Hp} (k : K2 H H') : ∀ {vs : List V} {gs : List G}, TgL p H vs gs → noLs gs = true → TgL p H' vs gs
  | _, _, .nil, _ => .nil
  | _, _, .cons h t, z => by
    simp only [noLs, Bool.and_eq_true] at z
    exact .cons (Tg.keep2 k h z.1) (TgL.keep2 k t z.2)
end
theorem noLs_all {gs : List G} (h : ∀ g ∈ gs, noL g = true) : noLs gs = true := by
  induction gs with
  | nil => simp [noLs]
  | cons g gs ih =>
    simp only [noLs, Bool.and_eq_true]
    exact ⟨h g List.mem_cons_self, ih fun x hx => h x (List.mem_cons_of_mem _ hx)⟩
theorem cut_toN {xs : List V} (k : Nat) : cutV xs none (some (k : Int)) = xs.take k := by
  have e0 : HT.sIx xs.length 0 (none : Option Int) = 0 := rfl
  have e1 : HT.sIx xs.length xs.length (some (k : Int)) = min k xs.length := HT.sIx_nat xs.length xs.length k
  unfold cutV
  rw [e0, e1, List.drop_zero, Nat.sub_zero]
  rcases Nat.le_total k xs.length with h | h
  · rw [Nat.min_eq_left h]
  · rw [Nat.min_eq_right h, List.take_of_length_le (Nat.le_refl _), List.take_of_length_le h]
section
variable {p : Addr} {H0 : Hp} {σ : L2.St} {K : PySem.W.Frag}
theorem EsOk.nil : EsOk p H0 σ tNil [] := fun H Q hp s q => q [] H hp (Same.refl H) .nil
theorem EsOk.cons {te : TE} {ta : TA} {g : G} {gs : List G} (h : EOk p H0 σ te g) (t : EsOk p H0 σ ta gs) : EsOk p H0 σ (tCons te ta) (g :: gs) :=
  fun H Q hp s q => h H _ hp s fun v H1 hp1 s1 tg => t H1 _ hp1 (s.trans s1) fun vs H2 hp2 s2 tgs => q (v :: vs) H2 hp2 (s1.trans s2) (.cons (tg.keep (Keeps.same s2)) tgs)
theorem EOk.const {v : V} {g : G} (h : ∀ H, Tg p H v g) : EOk p H0 σ (tC v) g := fun H Q hp s q => q v H hp (Same.refl H) (h H)
theorem EOk.int (i : Int) : EOk p H0 σ (tC (.int i)) (.int i) := EOk.const fun _ => .int i
theorem EOk.bl (b : Bool) : EOk p H0 σ (tC (.bl b)) (.bl b) := EOk.const fun _ => .bl b
theorem EOk.str (x : Str) : EOk p H0 σ (tC (.str x)) (.str x) := EOk.const fun _ => .str x
theorem EOk.non : EOk p H0 σ (tC .non) .non := EOk.const fun _ => .non
theorem EOk.neg (i : Int) : EOk p H0 σ (tUn (rU fun i => .int (-i)) (tC (.int i))) (.int (-i)) := fun H Q hp s q => ⟨i, rfl, q _ H hp (Same.refl H) (.int _)⟩
theorem EOk.var {i : Nat} {v : V} {g : G} (e : σ[i]? = some (some v)) (h : Tg p H0 v g) : EOk p H0 σ (tVar i) g := fun H Q hp s q => ⟨v, e, q v H hp (Same.refl H) (h.keep (Keeps.same s))⟩
theorem EOk.tup {ta : TA} {gs : List G} (h : EsOk p H0 σ ta gs) (l : gs.length ≤ 1000) : EOk p H0 σ (tTupF ta) (.tup gs) :=
  fun H Q hp s q => h H _ hp s fun vs H1 hp1 s1 t => ⟨by rw [t.len]; exact Nat.le_trans l (by decide), fun v H2 s2 nv pv => q _ H2 (hp1.same s2) (s1.trans s2) (.tup (.inl pv) (t.keep (Keeps.same s2)))⟩
theorem EOk.lst {ta : TA} {gs : List G} (h : EsOk p H0 σ ta gs) (l : gs.length ≤ 1000) : EOk p H0 σ (tLst ta) (.lst gs) :=
  fun H Q hp s q => h H _ hp s fun vs H1 hp1 s1 t => ⟨by rw [t.len]; exact Nat.le_trans l (by decide), fun a na => q _ _ (hp1.same (same_upd na)) (s1.trans (same_upd na)) (.lst (pool_ne hp1 na) upd_same (t.keep (Keeps.same (same_upd na))))⟩
theorem EOk.dct : EOk p H0 σ tDNewK .dct := fun H Q hp s q a na => q _ _ (hp.same (same_upd na)) (same_upd na) (.dct upd_same)
theorem lst_at {H : Hp} {v : V} {gs : List G} (h : Tg p H v (.lst gs)) : ∃ a vs, v = .ref a ∧ a ≠ p ∧ H a = some (.lst vs) ∧ TgL p H vs gs := by
  cases h with
  | lst n e t => exact ⟨_, _, rfl, n, e, t⟩
theorem tupG_at {H : Hp} {v : V} {gs : List G} (h : Tg p H v (.tup gs)) : ∃ a vs, v = .ref a ∧ T2 H a vs ∧ TgL p H vs gs := by
  cases h with
  | tup e t => exact ⟨_, _, rfl, e, t⟩
theorem EOk.cat {ta tb : TE} {gs hs : List G} (ha : EOk p H0 σ ta (.lst gs)) (hb : EOk p H0 σ tb (.lst hs)) (l : gs.length + hs.length ≤ 1000) : EOk p H0 σ (tOp rCat ta tb) (.lst (gs ++ hs)) :=
  fun H Q hp s q => ha H _ hp s fun v H1 hp1 s1 t1 => hb H1 _ hp1 (s.trans s1) fun u H2 hp2 s2 t2 => by
    obtain ⟨a, vs, rfl, na, ea, ta⟩ := lst_at (t1.keep (Keeps.same s2))
    obtain ⟨b, us, rfl, nb, eb, tb⟩ := lst_at t2
    refine ⟨a, b, vs, us, rfl, rfl, ea, eb, ?_, fun c nc => ?_⟩
    · rw [ta.len, tb.len]
      exact Nat.le_trans l (by decide)
    · exact q _ _ (hp2.same (same_upd nc)) ((s1.trans s2).trans (same_upd nc)) (.lst (pool_ne hp2 nc) upd_same ((ta.app tb).keep (Keeps.same (same_upd nc))))
/-- the same, with the list's own place told -/
theorem EOk.catN {ta tb : TE} {gs hs : List G} (ha : EOk p H0 σ ta (.lst gs)) (hb : EOk p H0 σ tb (.lst hs)) (l : gs.length + hs.length ≤ 1000) {H : Hp} {Q : VK} (hp : PoolAt H p) (s : Same H0 H)
    (q : ∀ c vs H2, PoolAt H2 p → Same H H2 → H2 c = none → c ≠ p → TgL p H2 vs (gs ++ hs) → Q (.ref c) (upd H2 c (.lst vs))) : tOp rCat ta tb σ H Q :=
  ha H _ hp s fun v H1 hp1 s1 t1 => hb H1 _ hp1 (s.trans s1) fun u H2 hp2 s2 t2 => by
    obtain ⟨a, vs, rfl, na, ea, ta⟩ := lst_at (t1.keep (Keeps.same s2))
    obtain ⟨b, us, rfl, nb, eb, tb⟩ := lst_at t2
    refine ⟨a, b, vs, us, rfl, rfl, ea, eb, ?_, fun c nc => ?_⟩
    · rw [ta.len, tb.len]
      exact Nat.le_trans l (by decide)
    · exact q c _ H2 hp2 (s1.trans s2) nc (pool_ne hp2 nc) (ta.app tb)
theorem EOk.from1 {te : TE} {gs : List G} (h : EOk p H0 σ te (.lst gs)) : EOk p H0 σ (tSl (rSlL K) te (tPart (tC (.int 1))) tNoPart) (.lst (gs.drop 1)) :=
  fun H Q hp s q => h H _ hp s fun v H1 hp1 s1 t1 => by
    obtain ⟨a, vs, rfl, na, ea, ta⟩ := lst_at t1
    refine ⟨1, rfl, a, vs, rfl, SqL.of ea, fun c nc => ?_⟩
    rw [cut_tail]
    exact q _ _ (hp1.same (same_upd nc)) (s1.trans (same_upd nc)) (.lst (pool_ne hp1 nc) upd_same ((ta.drop 1).keep (Keeps.same (same_upd nc))))
theorem EOk.to1 {te : TE} {gs : List G} (h : EOk p H0 σ te (.lst gs)) : EOk p H0 σ (tSl (rSlL K) te tNoPart (tPart (tC (.int 1)))) (.lst (gs.take 1)) :=
  fun H Q hp s q => h H _ hp s fun v H1 hp1 s1 t1 => by
    obtain ⟨a, vs, rfl, na, ea, ta⟩ := lst_at t1
    refine ⟨1, rfl, a, vs, rfl, SqL.of ea, fun c nc => ?_⟩
    rw [show cutV vs none (some (1 : Int)) = vs.take 1 from cut_toN 1]
    exact q _ _ (hp1.same (same_upd nc)) (s1.trans (same_upd nc)) (.lst (pool_ne hp1 nc) upd_same ((ta.take 1).keep (Keeps.same (same_upd nc))))
theorem EOk.toEnd {te : TE} {gs : List G} (h : EOk p H0 σ te (.lst gs)) : EOk p H0 σ (tSl (rSlL K) te tNoPart (tPart (tUn (rU fun i => .int (-i)) (tC (.int 1))))) (.lst (gs.take (gs.length - 1))) :=
  fun H Q hp s q => h H _ hp s fun v H1 hp1 s1 t1 => by
    obtain ⟨a, vs, rfl, na, ea, ta⟩ := lst_at t1
    refine ⟨1, rfl, -1, rfl, a, vs, rfl, SqL.of ea, fun c nc => ?_⟩
    have e0 : HT.sIx vs.length 0 (none : Option Int) = 0 := rfl
    have e1 : HT.sIx vs.length vs.length (some (-1 : Int)) = gs.length - 1 := by
      show (if (-1 : Int) < 0 then ((-1 : Int) + (vs.length : Int)).toNat else min (-1 : Int).toNat vs.length) = _
      rw [if_pos (by decide), ta.len]
      omega
    have e2 : cutV vs none (some (-1 : Int)) = vs.take (gs.length - 1) := by
      unfold cutV
      rw [e0, e1, List.drop_zero, Nat.sub_zero]
    rw [e2]
    exact q _ _ (hp1.same (same_upd nc)) (s1.trans (same_upd nc)) (.lst (pool_ne hp1 nc) upd_same ((ta.take _).keep (Keeps.same (same_upd nc))))
theorem EOk.rev {te : TE} {gs : List G} (h : EOk p H0 σ te (.lst gs)) : EOk p H0 σ (tRevL K te) (.lst gs.reverse) :=
  fun H Q hp s q => h H _ hp s fun v H1 hp1 s1 t1 => by
    obtain ⟨a, vs, rfl, na, ea, ta⟩ := lst_at t1
    exact ⟨a, vs, rfl, SqL.of ea, fun c nc => q _ _ (hp1.same (same_upd nc)) (s1.trans (same_upd nc)) (.lst (pool_ne hp1 nc) upd_same (ta.rev.keep (Keeps.same (same_upd nc))))⟩
theorem EOk.tupOf {te : TE} {gs : List G} (h : EOk p H0 σ te (.lst gs)) : EOk p H0 σ (tCB (rTupL K) (tCons te tNil)) (.tup gs) :=
  fun H Q hp s q => h H _ hp s fun v H1 hp1 s1 t1 => by
    obtain ⟨a, vs, rfl, na, ea, ta⟩ := lst_at t1
    exact ⟨a, vs, rfl, SqL.of ea, fun c H2 s2 nc pc => q _ H2 (hp1.same s2) (s1.trans s2) (.tup (.inl pc) (ta.keep (Keeps.same s2)))⟩
theorem EOk.ixL {te : TE} {gs : List G} {i : Nat} {g : G} (h : EOk p H0 σ te (.lst gs)) (e : gs[i]? = some g) : EOk p H0 σ (tOp (rIxL K) te (tC (.int (i : Nat)))) g :=
  fun H Q hp s q => h H _ hp s fun v H1 hp1 s1 t1 => by
    obtain ⟨a, vs, rfl, na, ea, ta⟩ := lst_at t1
    obtain ⟨v, ev, tv⟩ := ta.at e
    exact ⟨a, vs, _, v, rfl, rfl, SqL.of ea, atI_nat ev, q _ H1 hp1 s1 tv⟩
theorem EOk.ixT {te : TE} {gs : List G} {i : Nat} {g : G} (h : EOk p H0 σ te (.tup gs)) (e : gs[i]? = some g) : EOk p H0 σ (tOp (rIxT K) te (tC (.int (i : Nat)))) g :=
  fun H Q hp s q => h H _ hp s fun v H1 hp1 s1 t1 => by
    obtain ⟨a, vs, rfl, ea, ta⟩ := tupG_at t1
    obtain ⟨v, ev, tv⟩ := ta.at e
    exact ⟨a, vs, _, v, rfl, rfl, ea.sq, atI_nat ev, q _ H1 hp1 s1 tv⟩
end
end Su
/-! ### DU: len, str and repr of an instance, by its own methods -/
namespace Su
open PySem PySem.Spec PyProof.Rows L2
/-- a special method of the class at C -/
structure MetD (P : Program) (w : World) (K : PySem.W.Frag) (mg : Str → Option Value) (base : Heap) (k : Nat) (C : Addr) (m : Str) (sp : Sp) : Prop where
  ex : ∃ (f : Addr) (fd : FuncData), PySem.W.findIn K (.ref C) m = some (some (.ref f)) ∧ PySem.W.isFn K (.ref f) = true ∧ FnG P w K mg base CX0 k f fd ["self"] sp ∧ Binds K fd ["self"] []
section
variable {X : Cx} {k j : Nat} {f C : Addr} {fd : FuncData} {ps : List Str} {sp : Sp}
theorem run_fnG {A : Around} {pins : List (Addr × Obj)} {σ : L2.St} {H : Hp} {s : Shared} {Q : VK} {us : List Value} {vs : List V} (sb : Sub X k A) (hg : A.guards = some []) (F : FnG X.prog X.w X.K X.mg X.base CX0 k f fd ps sp) (hb : Binds X.K fd ps [])
    (I : Inv X pins σ H s) (r : Vals vs us) (h : sp vs H Q E0) : wpAny (model X.prog X.w) A (call (.ref f) us) (EP X pins σ Q) X.xe s := by
  have e0 : Env0 X.prog X.w X.K X.mg X.base A X.stack s H := by
    have e := I.env0
    exact ⟨by rw [sb.fr]; exact e.frames, e.mod, e.bs, e.bsz, e.funs, e.frf, e.hok, e.bare⟩
  have hl : us.length = ps.length := by rw [← r.length]; exact F.len _ _ _ _ h
  refine wpAny_call (codeAny_mono (F.run A X.stack s H ⟨us, []⟩ us vs Q E0 hg sb.room e0 (by
    have := hb s us I.kIn (by simpa using hl)
    simpa using this) r h) fun r s' hq => ?_)
  cases r with
  | error e => exact False.elim hq
  | ok fl =>
    cases fl with
    | ret u => exact I.after hq
    | next => exact False.elim hq
    | brk => exact False.elim hq
    | cont => exact False.elim hq
def rLenI (C : Addr) (sp : Sp) : List V → Hp → VK → Prop := fun xs H Q => ∃ (a dx : Addr) (fs : List (Str × V)), xs = [.ref a] ∧ H a = some (.ins C dx fs) ∧ sp [.ref a] H (fun v H' => ∃ n : Int, v = .int n ∧ (0 ≤ n ∧ n < 2 ^ 63) ∧ Q (.int n) H') E0
theorem call_lenI (M : MetD X.prog X.w X.K X.mg X.base k C "__len__" sp) (hg : X.A.guards = some []) (hr : Room j X.A) (hk : k + 1 ≤ j) : CallR X (.builtin "len") (rLenI C sp) := by
  intro pins s σ H xs us Q I r h
  obtain ⟨a, dx, fs, rfl, ea, hsp⟩ := h
  obtain ⟨f, fd, hs, hf, F, hb⟩ := M.ex
  rw [Vals.ref1 r]
  obtain ⟨mA, J, _⟩ := ins_get I.hok ea
  obtain ⟨od, J, _⟩ := J.look
  obtain ⟨m, hF⟩ := I.fr
  have sb : Sub X (k + 1) X.A := ⟨hr.mono hk, rfl⟩
  refine PySem.W.len_K hF I.ok.mod.kin J hs hf ?_
  refine wpAny_mono (run_fnG sb.in1 hg F hb I (vs := [.ref a]) (.cons rfl .nil) hsp) (fun u s' z => ?_) (fun _ _ z => z)
  obtain ⟨v, H', I', rv, n, rfl, h01, q⟩ := z
  obtain ⟨t, rfl⟩ := rv
  exact ⟨h01, .int n, H', I'.tok _, ⟨_, rfl⟩, q⟩
def rTxtI (C : Addr) (sp : Sp) : List V → Hp → VK → Prop := fun xs H Q => ∃ (a dx : Addr) (fs : List (Str × V)), xs = [.ref a] ∧ H a = some (.ins C dx fs) ∧ sp [.ref a] H (fun v H' => ∃ x : Str, v = .str x ∧ Q (.str x) H') E0
theorem call_strI (M : MetD X.prog X.w X.K X.mg X.base k C "__str__" sp) (hg : X.A.guards = some []) (hr : Room j X.A) (hk : k + 2 ≤ j) : CallR X (.type "str") (rTxtI C sp) := by
  intro pins s σ H xs us Q I r h
  obtain ⟨a, dx, fs, rfl, ea, hsp⟩ := h
  obtain ⟨f, fd, hs, hf, F, hb⟩ := M.ex
  rw [Vals.ref1 r]
  obtain ⟨mA, J, _⟩ := ins_get I.hok ea
  obtain ⟨od, J, _⟩ := J.look
  have sb : Sub X (k + 2) X.A := ⟨hr.mono hk, rfl⟩
  refine PySem.W.kso_call sb.in1.in1.room.units0 I.kIn J hs hf ?_
  refine wpAny_mono (run_fnG sb.in1.in1 hg F hb I (vs := [.ref a]) (.cons rfl .nil) hsp) (fun u s' z => ?_) (fun _ _ z => z)
  obtain ⟨v, H', I', rv, x, rfl, q⟩ := z
  obtain ⟨t, rfl⟩ := rv
  exact ⟨.str x, H', I', ⟨_, rfl⟩, q⟩
theorem call_reprI (M : MetD X.prog X.w X.K X.mg X.base k C "__repr__" sp) (hg : X.A.guards = some []) (hr : Room j X.A) (hk : k + 1 ≤ j) : CallR X (.builtin "repr") (rTxtI C sp) := by
  intro pins s σ H xs us Q I r h
  obtain ⟨a, dx, fs, rfl, ea, hsp⟩ := h
  obtain ⟨f, fd, hs, hf, F, hb⟩ := M.ex
  rw [Vals.ref1 r]
  obtain ⟨mA, J, _⟩ := ins_get I.hok ea
  obtain ⟨od, J, _⟩ := J.look
  obtain ⟨m, hF⟩ := I.fr
  have sb : Sub X (k + 1) X.A := ⟨hr.mono hk, rfl⟩
  refine PySem.W.repr_K sb.in1.room.units0 hF I.ok.mod.kin J hs hf ?_
  refine wpAny_mono (run_fnG sb.in1 hg F hb I (vs := [.ref a]) (.cons rfl .nil) hsp) (fun u s' z => ?_) (fun _ _ z => z)
  obtain ⟨v, H', I', rv, x, rfl, q⟩ := z
  obtain ⟨t, rfl⟩ := rv
  exact ⟨.str x, H', I', ⟨_, rfl⟩, q⟩
end
section
open Builtin
variable {prog : Program} {w : World} {A : Around} {E : Value → Shared → Prop} {s : Shared} {K : PySem.W.Frag} {x C f : Addr} {ox : Obj} {od : Option Obj}
def LenTru (Q : Bool → Shared → Prop) (v : Value) (s' : Shared) : Prop := match v with
  | .int n _ => (0 ≤ n ∧ n < 2 ^ 63) ∧ Q (n != 0) { s' with toks := s'.toks + 1 }
  | _ => False
theorem truthy_len {Q : Bool → Shared → Prop} (X : K.In s.heap) (I : PySem.W.InstAt s.heap x ox C od) (hb : PySem.W.findIn K (.ref C) "__bool__" = some none) (hl : PySem.W.findIn K (.ref C) "__len__" = some (some (.ref f))) (hf : PySem.W.isFn K (.ref f) = true)
    (h : wpAny (model prog w) A.in1 (call (.ref f) [.ref x]) (LenTru Q) E s) : wpAny (model prog w) A (truthy (.ref x)) Q E s := by
  unfold truthy
  refine wpAny_bind (m := callSpecial? (.ref x) (Str.ofString "__bool__")) (wpAny_bind (wpAny_bind (I.type.here ((PySem.W.looks_findIn X hb).here (wpAny_pure ?_)))))
  refine wpAny_bind (wpAny_bind (I.type.here ((PySem.W.looks_findIn X hl).here ?_)))
  show wpAny _ _ (if (some (Value.ref f)).isNone = true then _ else _) _ _ _
  rw [if_neg (by simp)]
  refine wpAny_bind (wpAny_runValue (codeAny_builtin PySem.entry_len ?_))
  rw [Around.under_plainId (by decide +kernel) _]
  unfold Builtin.«len»
  refine wpAny_bind (m := oneArg "len" _) (wpAny_pure ?_)
  refine wpAny_bind (m := callSpecial? (.ref x) (Str.ofString "__len__")) (PySem.W.special_fn X I hl (beq_iff_eq.mp hf) (wpAny_mono h (fun r s' hr => ?_) fun _ _ y => y))
  cases r <;> first | exact hr.elim | skip
  rename_i n u
  obtain ⟨⟨h0, h1⟩, hq⟩ := hr
  refine wpAny_bind (wpAny_holding (wpAny_pure ?_))
  refine wpAny_bind (wpAny_letGo ?_)
  show wpAny _ _ (if n < 0 then _ else _) _ _ _
  rw [if_neg (by omega)]
  show wpAny _ _ (if n ≥ 2 ^ 63 then _ else _) _ _ _
  rw [if_neg (by omega)]
  exact wpAny_bind (wpAny_mkInt (wpAny_pure (wpAny_pure hq)))
end
end Su
/-! ### CG: defs that write things out (without k04's MX) -/
namespace Su
open PySem PySem.Spec PyProof.Rows L2
structure CalG (P : Program) (w : World) (K : PySem.W.Frag) (mg : Str → Option Value) (base : Heap) (k : Nat) (x : Str) (ps : List Str) (sp : Sp) : Prop where
  ex : ∃ (f : Addr) (fd : FuncData), FnG P w K mg base CX0 k f fd ps sp ∧ mg x = some (.ref f) ∧ PySem.W.keepIn K (.ref f) = true ∧ Binds K fd ps []
section
variable {X : Cx} {k j : Nat} {x : Str} {ps : List Str} {sp : Sp} {e : Expr} {es : List Expr} {t : TA} {pos p : Pos}
theorem pe_ownG (C : CalG X.prog X.w X.K X.mg X.base k x ps sp) (hgd : X.A.guards = some []) (hr : Room j X.A) (hk : k ≤ j) (hg : Gl X x) (ha : PA X (e :: es) t)
    (hdb : (x == ("__debug__" : Str)) = false := by decide) (he : starEach (e :: es) X.env = (false, eval e X.env) :: starEach es X.env := by rfl) (hpl : (backTo pos (starEach es X.env)).any (·.1) = false := by rfl) :
    PE X (.Call (.Name x p) (e :: es) [] pos) (tCall sp [] E0 t) := by
  obtain ⟨f, fd, F, hm, kp, b⟩ := C.ex
  refine ⟨fun pins s σ H Q I h => ?_⟩
  refine wpAny_Call_Name_kw (ld_glob I hg hm ?_ hdb)
  refine PySem.W.callWith_K (h₀ := X.base) I.ok.mod.kin kp (thn (ha.run pos pins s σ H _ I h) fun us s1 ⟨vs, H1, I1, r, q⟩ => ⟨I1.kIn, ?_⟩) he hpl
  have q2 : sp (vs ++ []) H1 Q E0 := q
  rw [List.append_nil] at q2
  exact run_fnG ⟨hr.mono hk, rfl⟩ hgd F b I1 r q2
end
section
variable {P : Program} {w : World} {K : PySem.W.Frag} {mg : Str → Option Value} {base : Heap}
theorem cal_ofG {x : Str} {st : Stmt} {N ps : List Str} {k : Nat} {sp : Sp} (T : At K mg x st ps) (S : FnScope N ps (defScope st)) (len : ∀ vs H Q E, sp vs H Q E → vs.length = ps.length)
    (hb : ∀ (f : Addr) (cdv : Value) (A : Around) (outer : List Env) (s : Shared) (H : Hp) (vs : List V) (Q : VK) (E : XK), (A.deeper (envOfC x (defScope st) s.heap.objs.size f cdv)).guards = some [] → Room k (A.deeper (envOfC x (defScope st) s.heap.objs.size f cdv)) → sp vs H Q E →
      ∃ t, PSs (cxOf CX0 P w K mg base N x (defScope st) f cdv A outer s H E).nox (defBody st) t ∧ t { nx := fun _ H' => Q .non H', rt := Q } (start N vs) H) : CalG P w K mg base (k + 1) x ps sp := by
  obtain ⟨f, fd, F, hm, b⟩ := T.ex
  exact ⟨f, fd, fnG_fun F S len (fun cdv A outer s H vs Q E hg hr h => hb f cdv A outer s H vs Q E hg hr h), hm, F.kp, b⟩
end
end Su
namespace Su
open PySem PySem.Spec PyProof.Rows L2
def topS (i : Nat) : Stmt := PySem.Challenge.pw_surehand_k37_ages_looked_at.main.body.getD i (.Pass ⟨0, 0, 0, 0⟩)
abbrev s_HandError : Stmt := topS 1
abbrev s_NoShelf : Stmt := topS 2
abbrev s_NoWeb : Stmt := topS 3
abbrev s_is_whole : Stmt := topS 10
abbrev sIsWhole : Stmt := topS 10
abbrev s_is_room : Stmt := topS 11
abbrev sIsRoom : Stmt := topS 11
abbrev s_are_rising : Stmt := topS 12
abbrev s_are_rooms : Stmt := topS 13
abbrev s_is_way : Stmt := topS 14
abbrev sIsWay : Stmt := topS 14
abbrev s_is_size : Stmt := topS 15
abbrev sIsSize : Stmt := topS 15
abbrev s_how_many_bits : Stmt := topS 16
abbrev sHowMany : Stmt := topS 16
abbrev s_is_slot : Stmt := topS 17
abbrev sIsSlot : Stmt := topS 17
abbrev s_is_bit : Stmt := topS 18
abbrev sIsBit : Stmt := topS 18
abbrev s_are_slots : Stmt := topS 19
abbrev sAreSlots : Stmt := topS 19
abbrev s_are_bits : Stmt := topS 20
abbrev sAreBits : Stmt := topS 20
abbrev s_wrong_part : Stmt := topS 22
abbrev s_look_at_kind : Stmt := topS 23
abbrev s_are_tos : Stmt := topS 27
abbrev s_is_row : Stmt := topS 28
abbrev s_rooms_in : Stmt := topS 29
abbrev s_look_at_web : Stmt := topS 30
abbrev s_ages : Stmt := topS 32
abbrev s_first_ages : Stmt := topS 33
abbrev s_joined_ages : Stmt := topS 34
abbrev s_behind_ask : Stmt := topS 35
abbrev s_behind_row : Stmt := topS 36
abbrev s_lets_ages : Stmt := topS 37
abbrev s_are_ages : Stmt := topS 38
abbrev s_is_list_of_ages : Stmt := topS 39
abbrev s_allows : Stmt := topS 40
abbrev s_law_pool : Stmt := topS 42
abbrev sPool : Stmt := topS 42
abbrev s_law_take : Stmt := topS 43
abbrev sTake : Stmt := topS 43
abbrev s_law_picked : Stmt := topS 44
abbrev sPicked : Stmt := topS 44
abbrev s_law_tos : Stmt := topS 45
abbrev s_law_web : Stmt := topS 46
abbrev s_law_web_rooms : Stmt := topS 47
abbrev s_law_aged : Stmt := topS 48
abbrev s_law_both_ages : Stmt := topS 49
abbrev s_law_behind : Stmt := topS 50
abbrev sBehind : Stmt := topS 50
abbrev s_law_numbers_so : Stmt := topS 51
abbrev s_law_row_so : Stmt := topS 52
abbrev s_law_due : Stmt := topS 53
abbrev s_law_wider : Stmt := topS 54
abbrev s_law_bent_row : Stmt := topS 55
abbrev s_law_bent : Stmt := topS 56
abbrev s_law : Stmt := topS 57
abbrev sLaw : Stmt := topS 57
end Su
/-! ### W1: how a row of a web is looked at, of a row that is one -/
namespace Su
open PySem PySem.Spec PyProof.Rows L2
structure GbW (mg : Str → Option Value) : Prop where
  last : ∃ t, mg "LAST_ROOM" = some (.int 99 t)
  rows : ∃ t, mg "MOST_ROWS" = some (.int 80 t)
  rooms : ∃ t, mg "MOST_ROOMS" = some (.int 12 t)
def spWholeI : Sp := fun vs H Q _ => ∃ (i : Int), vs = [.int i] ∧ Q (.bl true) H
def spRoomI : Sp := fun vs H Q _ => ∃ (i : Int), vs = [.int i] ∧ 0 ≤ i ∧ i ≤ 99 ∧ Q (.bl true) H
def spRising (K : PySem.W.Frag) : Sp := fun vs H Q _ => ∃ (a : Addr) (ns : List Int), vs = [.ref a] ∧ T2 H a (ns.map V.int) ∧ ns.Pairwise (· < ·) ∧ ns.length ≤ 1000 ∧ ∀ H', Same H H' → Q (.bl true) H'
def spRooms (K : PySem.W.Frag) : Sp := fun vs H Q _ => ∃ (a : Addr) (ns : List Int) (lo hi : Int), vs = [.ref a, .int lo, .int hi] ∧ T2 H a (ns.map V.int) ∧ Ris 0 99 ns ∧ lo ≤ ns.length ∧ ns.length ≤ hi ∧ ns.length ≤ 1000 ∧ ∀ H', Same H H' → Q (.bl true) H'
def spTos (K : PySem.W.Frag) : Sp := fun vs H Q _ => ∃ (a : Addr) (ns : List Int) (n : Nat), vs = [.ref a, .int n] ∧ T2 H a (ns.map V.int) ∧ Ris 0 ((n : Int) - 1) ns ∧ n ≤ 80 ∧ ∀ H', Same H H' → Q (.bl true) H'
def spRow (K : PySem.W.Frag) : Sp := fun vs H Q _ => ∃ (v : V) (r : Rw) (n : Nat), vs = [v, .int n] ∧ RowAt H v r ∧ RowOk n r ∧ n ≤ 80 ∧ ∀ H', Same H H' → Q (.bl true) H'
theorem sc_is_whole : FnScope ["thing"] ["thing"] (defScope s_is_whole) := ⟨rfl, rfl, rfl, by decide +kernel, rfl, by decide +kernel, by decide +kernel⟩
theorem sc_is_room : FnScope ["thing"] ["thing"] (defScope s_is_room) := ⟨rfl, rfl, rfl, by decide +kernel, rfl, by decide +kernel, by decide +kernel⟩
theorem sc_are_rising : FnScope ["numbers", "one", "other"] ["numbers"] (defScope s_are_rising) := ⟨rfl, rfl, rfl, by decide +kernel, rfl, by decide +kernel, by decide +kernel⟩
theorem sc_are_rooms : FnScope ["thing", "least", "most", "room"] ["thing", "least", "most"] (defScope s_are_rooms) := ⟨rfl, rfl, rfl, by decide +kernel, rfl, by decide +kernel, by decide +kernel⟩
theorem sc_are_tos : FnScope ["thing", "rows", "to"] ["thing", "rows"] (defScope s_are_tos) := ⟨rfl, rfl, rfl, by decide +kernel, rfl, by decide +kernel, by decide +kernel⟩
theorem sc_is_row : FnScope ["thing", "rows"] ["thing", "rows"] (defScope s_is_row) := ⟨rfl, rfl, rfl, by decide +kernel, rfl, by decide +kernel, by decide +kernel⟩
section
variable {P : Program} {w : World} {K : PySem.W.Frag} {mg : Str → Option Value} {base : Heap}
theorem ok_whole (T : At K mg "is_whole" s_is_whole ["thing"]) (B : Bt mg) : Cal P w K mg base 1 "is_whole" ["thing"] spWholeI := by
  refine cal_of T sc_is_whole (fun vs H Q E h => ?_) (fun f cdv A outer s H vs Q E hr h => ?_)
  · obtain ⟨i, rfl, _⟩ := h
    rfl
  · obtain ⟨i, rfl, q⟩ := h
    refine ⟨_, (pss_one (ps_ret (pe_and (pe_callB call_isi (by rfl) B.isinstance (by decide +kernel) (pa_cons (pv 0) (pa_cons (pe_bltn (v := .ty "int") (u := .type "int") (by rfl) B.int (by decide +kernel) rfl) pa_nil))) (pe_one (pe_not (pe_callB call_isi (by rfl) B.isinstance (by decide +kernel) (pa_cons (pv 0) (pa_cons (pe_bltn (v := .ty "bool") (u := .type "bool") (by rfl) B.bool (by decide +kernel) rfl) pa_nil)))))))), ?_⟩
    refine ⟨_, rfl, .int i, .ty "int", .type "int", .type "int", true, rfl, .ty "int", .base (.int i), kit_ty (by decide +kernel), _, rfl, iteT ?_⟩
    exact ⟨_, rfl, .int i, .ty "bool", .type "int", .type "bool", false, rfl, .ty "bool", .base (.int i), kit_ty (by decide +kernel), _, rfl, q⟩
theorem ok_room (T : At K mg "is_room" s_is_room ["thing"]) (D : GbW mg) (c_is_whole : Cal P w K mg base 1 "is_whole" ["thing"] spWholeI) : Cal P w K mg base 2 "is_room" ["thing"] spRoomI := by
  obtain ⟨tl, mLast⟩ := D.last
  refine cal_of T sc_is_room (fun vs H Q E h => ?_) (fun f cdv A outer s H vs Q E hr h => ?_)
  · obtain ⟨i, rfl, _⟩ := h
    rfl
  · obtain ⟨i, rfl, i0, i1, q⟩ := h
    refine ⟨_, (pss_one (ps_ret (pe_and (pe_own c_is_whole hr (by decide) (by rfl) (pa_cons (pv 0) pa_nil)) (pe_one (pe_chain op_le op_le pe_int (pv 0) (pe_glob (v := .int 99) rfl mLast ⟨_, rfl⟩)))))), ?_⟩
    refine ⟨_, rfl, i, rfl, _, rfl, iteT ?_⟩
    refine ⟨_, rfl, _, _, rfl, rfl, _, rfl, iteB (fun _ => ?_) (fun z => absurd (of_decide_eq_false z) (by omega))⟩
    refine ⟨_, _, rfl, rfl, ?_⟩
    have z : (V.bl (decide (i ≤ 99))) = .bl true := congrArg V.bl (decide_eq_true i1)
    exact (congrArg (fun v => Q v H) z).mpr q
theorem ok_rising (T : At K mg "are_rising" s_are_rising ["numbers"]) (B : Bt mg) : Cal P w K mg base 1 "are_rising" ["numbers"] (spRising K) := by
  refine cal_of T sc_are_rising (fun vs H Q E h => ?_) (fun f cdv A outer s H vs Q E hr h => ?_)
  · obtain ⟨a, ns, rfl, _⟩ := h
    rfl
  · obtain ⟨a, ns, rfl, ha, pw, hl, q⟩ := h
    refine ⟨_, (pss_one (ps_ret (pe_callB (cr_all rfl) (by rfl) B.all (by decide +kernel) (pa_cons (pe_lc (own := [("one", 1), ("other", 2)]) (g := (gTup K 2 (gCons (gName 1) (gCons (gName 2) gNil)))) (tt := tYes) (te := (tOp (rI0 fun i j => .bl (decide (i < j))) (tVar 1) (tVar 2))) (by rfl) sc_are_rising.nd (RZ.pi_zipA (by rfl) B.zip (pa_cons (pv 0) (pa_cons (pe_slice sl_tup2 (pv 0) (po_some pe_int) po_none) pa_nil))) (blkOk_by (own := [("one", 1), ("other", 2)]) (N := ["numbers", "one", "other"]) (sc := defScope s_are_rising) (by decide +kernel)) (fun _ _ _ _ _ => (pg_tup (by rfl) (pgs_cons (pg_name (i := 1) sc_are_rising.nd rfl (Or.inl rfl)) (pgs_cons (pg_name (i := 2) sc_are_rising.nd rfl (Or.inl rfl)) pgs_nil)))) (fun _ _ _ _ _ => pts_nil) (fun _ _ _ _ _ => (pe_cmpR op_lt (pv 1) (pv 2) (nomark _)))) pa_nil)))), ?_⟩
    refine ⟨_, rfl, _, rfl, 1, rfl, a, _, rfl, ha, fun b H1 s1 hb => ?_⟩
    rw [cut_tail, ← List.map_drop] at hb
    refine ⟨a, b, _, _, rfl, .inr ⟨(ha.same s1).sq, hb.sq, fun D nD => ?_⟩⟩
    refine lc_zipT (K := K) (a := a) (b := b) (xs := ns.map V.int) (ys := (ns.drop 1).map V.int) (by rw [List.length_map, List.length_map, List.length_drop]; omega) (fun i H2 => Same H H2 ∧ T2 H2 a (ns.map V.int) ∧ T2 H2 b ((ns.drop 1).map V.int) ∧ H2 D = some (.lst (List.replicate i (V.bl true)))) ?_ ?_ ?_ ?_
    · have sD : Same H1 (upd H1 D (.lst [])) := same_upd nD
      exact ⟨s1.trans sD, (ha.same s1).same sD, hb.same sD, upd_same⟩
    · rintro i H2 _ ⟨_, h1, h2, _⟩
      exact ⟨h1.sq, h2.sq⟩
    · rintro i x y T H2 hx hy ⟨s2, h1, h2, hD⟩ nT
      have sT : Same H2 (upd H2 T (.tup [x, y])) := same_upd nT
      rw [List.getElem?_map] at hx hy
      rw [List.getElem?_drop] at hy
      obtain ⟨n1, e1, rfl⟩ := Option.map_eq_some_iff.mp hx
      obtain ⟨n2, e2, rfl⟩ := Option.map_eq_some_iff.mp hy
      have lt : n1 < n2 := by
        obtain ⟨l1, rfl⟩ := List.getElem?_eq_some_iff.mp e1
        obtain ⟨l2, rfl⟩ := List.getElem?_eq_some_iff.mp e2
        exact List.pairwise_iff_getElem.mp pw i (1 + i) l1 l2 (by omega)
      have hi : i < ns.length := (List.getElem?_eq_some_iff.mp e1).1
      refine ⟨T, _, rfl, SqT.of upd_same, rfl, _, _, rfl, _, _, rfl, rfl, rfl, tyes ?_⟩
      refine ⟨_, rfl, _, rfl, _, _, rfl, rfl, List.replicate i (V.bl true), sT _ _ hD, ?_, ?_⟩
      · rw [List.length_replicate]
        exact small1000 (by omega)
      · have z : (V.bl (decide (n1 < n2))) = .bl true := congrArg V.bl (decide_eq_true lt)
        have h3 := sT _ _ hD
        have k3 := (K2.same sT).trans (K2.lst (u := .lst (List.replicate (i + 1) (V.bl true))) h3)
        show _ ∧ _ ∧ _ ∧ _
        rw [show (fun i j => V.bl (decide (i < j))) n1 n2 = V.bl true from z, rep_snoc]
        refine ⟨fun c o ec => ?_, k3 _ _ h1, k3 _ _ h2, upd_same⟩
        rw [upd_ne (ne_of_none (s1 _ _ ec) nD)]
        exact sT _ _ (s2 _ _ ec)
    · rintro H2 ⟨s2, h1, h2, hD⟩
      refine ⟨D, List.replicate ((ns.drop 1).map V.int).length true, rfl, ?_, ?_⟩
      · rw [rep_map]
        exact SqL.of hD
      · rw [rep_all]
        exact q H2 s2
theorem ok_rooms (T : At K mg "are_rooms" s_are_rooms ["thing", "least", "most"]) (B : Bt mg) (c_is_room : Cal P w K mg base 2 "is_room" ["thing"] spRoomI) (c_are_rising : Cal P w K mg base 1 "are_rising" ["numbers"] (spRising K)) :
    Cal P w K mg base 3 "are_rooms" ["thing", "least", "most"] (spRooms K) := by
  refine cal_of T sc_are_rooms (fun vs H Q E h => ?_) (fun f cdv A outer s H vs Q E hr h => ?_)
  · obtain ⟨a, ns, lo, hi, rfl, _⟩ := h
    rfl
  · obtain ⟨a, ns, lo, hi, rfl, ha, ris, h1, h2, hl, q⟩ := h
    refine ⟨_, (pss_cons (ps_if (PW.pt (pw_or (pt_not (pt_val (pe_callB call_isi (by rfl) B.isinstance (by decide +kernel) (pa_cons (pv 0) (pa_cons (pe_bltn (v := .ty "tuple") (u := .type "tuple") (by rfl) B.tuple (by decide +kernel) rfl) pa_nil))))) (pw_or1 (pt_not (pt_chain op_le op_le (pv 1) (pe_callB call_len_seq (by rfl) B.len PySem.boot_len (pa_cons (pv 0) pa_nil)) (pv 2)))))) (pss_one (ps_ret pe_bl)) pss_nil)
      (pss_one (ps_ret (pe_and (pe_callB (cr_all rfl) (by rfl) B.all (by decide +kernel) (pa_cons (pe_lc (own := [("room", 3)]) (g := (gName 3)) (tt := tYes) (te := (tCall spRoomI [] E0 (tCons (tVar 3) tNil))) (by rfl) sc_are_rooms.nd (pi_tup (pv 0)) (blkOk_by (own := [("room", 3)]) (N := ["thing", "least", "most", "room"]) (sc := defScope s_are_rooms) (by decide +kernel)) (fun _ _ _ _ _ => (pg_name (i := 3) sc_are_rooms.nd rfl (Or.inl rfl))) (fun _ _ _ _ _ => pts_nil) (fun _ _ _ _ _ => (pe_own c_is_room hr (by decide) (by rfl) (pa_cons (pv 3) pa_nil)))) pa_nil)) (pe_one (pe_own c_are_rising hr (by decide) (by rfl) (pa_cons (pv 0) pa_nil))))))), ?_⟩
    refine ⟨_, rfl, .ref a, .ty "tuple", .type "tuple", .type "tuple", true, rfl, .ty "tuple", ha.ty, kit_ty (by decide +kernel), _, rfl, iteF ?_⟩
    refine ⟨_, rfl, _, rfl, a, _, rfl, .inr ha.sq, _, _, rfl, rfl, _, rfl, iteB (fun _ => ?_) (fun z => absurd (of_decide_eq_false z) (by rw [List.length_map]; omega))⟩
    refine ⟨_, rfl, _, _, rfl, rfl, _, rfl, ?_⟩
    rw [show decide (((ns.map V.int).length : Int) ≤ hi) = true from decide_eq_true (by rw [List.length_map]; omega)]
    refine iteF ?_
    refine ⟨_, rfl, a, rfl, ⟨_, ha.sq⟩, fun D nD => ?_⟩
    refine lc_tup (K := K) (a := a) (xs := ns.map V.int) (fun i H2 => Same H H2 ∧ T2 H2 a (ns.map V.int) ∧ H2 D = some (.lst (List.replicate i (V.bl true)))) ?_ ?_ ?_ ?_
    · have sD : Same H (upd H D (.lst [])) := same_upd nD
      exact ⟨sD, ha.same sD, upd_same⟩
    · rintro i H2 _ ⟨_, h3, _⟩
      exact h3.sq
    · rintro i x H2 hx ⟨s2, h3, hD⟩
      rw [List.getElem?_map] at hx
      obtain ⟨n1, e1, rfl⟩ := Option.map_eq_some_iff.mp hx
      have hi : i < ns.length := (List.getElem?_eq_some_iff.mp e1).1
      have hm := List.mem_of_getElem? e1
      refine ⟨rfl, tyes ?_⟩
      refine ⟨_, rfl, n1, rfl, ris.lo n1 hm, ris.hi n1 hm, List.replicate i (V.bl true), hD, (by rw [List.length_replicate]; exact small1000 (by omega)), ?_⟩
      rw [rep_snoc]
      refine ⟨fun c o ec => ?_, K2.lst hD _ _ h3, upd_same⟩
      rw [upd_ne (ne_of_none ec nD)]
      exact s2 _ _ ec
    · rintro H2 ⟨s2, h3, hD⟩
      refine ⟨D, List.replicate (ns.map V.int).length true, rfl, (by rw [rep_map]; exact SqL.of hD), ?_⟩
      rw [rep_all]
      refine ⟨_, rfl, iteT ?_⟩
      exact ⟨_, rfl, a, ns, rfl, h3, ris.pw, hl, fun H3 s3 => q H3 (s2.trans s3)⟩
theorem ok_tos (T : At K mg "are_tos" s_are_tos ["thing", "rows"]) (B : Bt mg) (c_is_whole : Cal P w K mg base 1 "is_whole" ["thing"] spWholeI) (c_are_rising : Cal P w K mg base 1 "are_rising" ["numbers"] (spRising K)) :
    Cal P w K mg base 2 "are_tos" ["thing", "rows"] (spTos K) := by
  refine cal_of T sc_are_tos (fun vs H Q E h => ?_) (fun f cdv A outer s H vs Q E hr h => ?_)
  · obtain ⟨a, ns, n, rfl, _⟩ := h
    rfl
  · obtain ⟨a, ns, n, rfl, ha, ris, n8, q⟩ := h
    have hl := ris_len ris
    refine ⟨_, (pss_cons (ps_if (PW.pt (pw_or (pt_not (pt_val (pe_callB call_isi (by rfl) B.isinstance (by decide +kernel) (pa_cons (pv 0) (pa_cons (pe_bltn (v := .ty "tuple") (u := .type "tuple") (by rfl) B.tuple (by decide +kernel) rfl) pa_nil))))) (pw_or1 (pt_cmpR op_gt (pe_callB call_len_seq (by rfl) B.len PySem.boot_len (pa_cons (pv 0) pa_nil)) (pv 1) (nomark _))))) (pss_one (ps_ret pe_bl)) pss_nil)
      (pss_one (ps_ret (pe_and (pe_callB (cr_all rfl) (by rfl) B.all (by decide +kernel) (pa_cons (pe_lc (own := [("to", 2)]) (g := (gName 2)) (tt := tYes) (te := (tAndV (tCall spWholeI [] E0 (tCons (tVar 2) tNil)) (tChain (rI0 fun i j => .bl (decide (i ≤ j))) (rI0 fun i j => .bl (decide (i < j))) (tC (.int 0)) (tVar 2) (tVar 1)))) (by rfl) sc_are_tos.nd (pi_tup (pv 0)) (blkOk_by (own := [("to", 2)]) (N := ["thing", "rows", "to"]) (sc := defScope s_are_tos) (by decide +kernel)) (fun _ _ _ _ _ => (pg_name (i := 2) sc_are_tos.nd rfl (Or.inl rfl))) (fun _ _ _ _ _ => pts_nil) (fun _ _ _ _ _ => (pe_and (pe_own c_is_whole hr (by decide) (by rfl) (pa_cons (pv 2) pa_nil)) (pe_one (pe_chain op_le op_lt pe_int (pv 2) (pv 1)))))) pa_nil)) (pe_one (pe_own c_are_rising hr (by decide) (by rfl) (pa_cons (pv 0) pa_nil))))))), ?_⟩
    refine ⟨_, rfl, .ref a, .ty "tuple", .type "tuple", .type "tuple", true, rfl, .ty "tuple", ha.ty, kit_ty (by decide +kernel), _, rfl, iteF ?_⟩
    refine ⟨_, rfl, a, _, rfl, .inr ha.sq, _, rfl, _, _, rfl, rfl, _, rfl, iteB (fun z => absurd (of_decide_eq_true z) (by rw [List.length_map]; omega)) (fun _ => ?_)⟩
    refine ⟨_, rfl, a, rfl, ⟨_, ha.sq⟩, fun D nD => ?_⟩
    refine lc_tup (K := K) (a := a) (xs := ns.map V.int) (fun i H2 => Same H H2 ∧ T2 H2 a (ns.map V.int) ∧ H2 D = some (.lst (List.replicate i (V.bl true)))) ?_ ?_ ?_ ?_
    · have sD : Same H (upd H D (.lst [])) := same_upd nD
      exact ⟨sD, ha.same sD, upd_same⟩
    · rintro i H2 _ ⟨_, h3, _⟩
      exact h3.sq
    · rintro i x H2 hx ⟨s2, h3, hD⟩
      rw [List.getElem?_map] at hx
      obtain ⟨n1, e1, rfl⟩ := Option.map_eq_some_iff.mp hx
      have hi : i < ns.length := (List.getElem?_eq_some_iff.mp e1).1
      have hm := List.mem_of_getElem? e1
      have g0 := ris.lo n1 hm
      have g1 := ris.hi n1 hm
      refine ⟨rfl, tyes ?_⟩
      refine ⟨_, rfl, n1, rfl, _, rfl, iteT ?_⟩
      refine ⟨_, rfl, _, _, rfl, rfl, _, rfl, iteB (fun _ => ?_) (fun z => absurd (of_decide_eq_false z) (by omega))⟩
      refine ⟨_, rfl, _, _, rfl, rfl, List.replicate i (V.bl true), hD, (by rw [List.length_replicate]; exact small1000 (by omega)), ?_⟩
      have z : (V.bl (decide (n1 < (n : Int)))) = .bl true := congrArg V.bl (decide_eq_true (by omega))
      show _ ∧ _ ∧ _
      rw [show (fun i j => V.bl (decide (i < j))) n1 (n : Int) = V.bl true from z, rep_snoc]
      refine ⟨fun c o ec => ?_, K2.lst hD _ _ h3, upd_same⟩
      rw [upd_ne (ne_of_none ec nD)]
      exact s2 _ _ ec
    · rintro H2 ⟨s2, h3, hD⟩
      refine ⟨D, List.replicate (ns.map V.int).length true, rfl, (by rw [rep_map]; exact SqL.of hD), ?_⟩
      rw [rep_all]
      refine ⟨_, rfl, iteT ?_⟩
      exact ⟨_, rfl, a, ns, rfl, h3, ris.pw, by omega, fun H3 s3 => q H3 (s2.trans s3)⟩
theorem ok_row (T : At K mg "is_row" s_is_row ["thing", "rows"]) (B : Bt mg) (c_are_rooms : Cal P w K mg base 3 "are_rooms" ["thing", "least", "most"] (spRooms K)) (c_are_tos : Cal P w K mg base 2 "are_tos" ["thing", "rows"] (spTos K)) :
    Cal P w K mg base 4 "is_row" ["thing", "rows"] (spRow K) := by
  refine cal_of T sc_is_row (fun vs H Q E h => ?_) (fun f cdv A outer s H vs Q E hr h => ?_)
  · obtain ⟨v, r, n, rfl, _⟩ := h
    rfl
  · obtain ⟨v, r, n, rfl, ⟨a, b, c, rfl, ha, hb, hc⟩, ok, n8, q⟩ := h
    refine ⟨_, (pss_cons (ps_if (PW.pt (pw_or (pt_not (pt_val (pe_callB call_isi (by rfl) B.isinstance (by decide +kernel) (pa_cons (pv 0) (pa_cons (pe_bltn (v := .ty "tuple") (u := .type "tuple") (by rfl) B.tuple (by decide +kernel) rfl) pa_nil))))) (pw_or1 (pt_cmpR op_ne (pe_callB call_len_seq (by rfl) B.len PySem.boot_len (pa_cons (pv 0) pa_nil)) pe_int (nomark _))))) (pss_one (ps_ret pe_bl)) pss_nil)
      (pss_one (ps_ret (pe_and (pe_own c_are_rooms hr (by decide) (by rfl) (pa_cons (pe_ix ix_tup (pv 0) pe_int (fun _ _ => rfl)) (pa_cons pe_int (pa_cons pe_int pa_nil)))) (pe_one (pe_own c_are_tos hr (by decide) (by rfl) (pa_cons (pe_ix ix_tup (pv 0) pe_int (fun _ _ => rfl)) (pa_cons (pv 1) pa_nil)))))))), ?_⟩
    refine ⟨_, rfl, .ref a, .ty "tuple", .type "tuple", .type "tuple", true, rfl, .ty "tuple", ha.ty, kit_ty (by decide +kernel), _, rfl, iteF ?_⟩
    refine ⟨_, rfl, a, _, rfl, .inr ha.sq, rfl, _, rfl, iteNS rfl ?_⟩
    refine ⟨_, rfl, _, _, _, _, rfl, rfl, ha.sq, atI_nat (j := 0) rfl, b, r.1, 0, 6, rfl, hb, ok.rooms, by omega, by have := ok.few; omega, by have := ok.few; omega, fun H1 s1 => ?_⟩
    refine ⟨_, rfl, iteT ?_⟩
    refine ⟨_, rfl, _, _, _, _, rfl, rfl, (ha.same s1).sq, atI_nat (j := 1) rfl, _, rfl, c, r.2, n, rfl, hc.same s1, ok.tos, n8, fun H2 s2 => q H2 (s1.trans s2)⟩
end
end Su
/-! ### W2: the rooms of a web; how a web is looked at, of one that is one -/
namespace Su
open PySem PySem.Spec PyProof.Rows L2
def spRoomsIn (w : World) : Sp := fun vs H Q _ => ∃ (p : Addr) (rs : List Rw) (A : List Int), vs = [.ref p] ∧ WebAt H p rs ∧ A.length < 64 ∧ (∀ k ∈ allRooms rs, k ∈ A) ∧
  ∀ (ms : List Int) (u : Addr) (H' : Hp), ms.Pairwise (· < ·) → (∀ k : Int, k ∈ ms ↔ k ∈ allRooms rs) → Same H H' → H u = none → H' u = some (.lst (ms.map V.int)) → Q (.ref u) H'
def spLook : Sp := fun vs H Q _ => ∃ (p : Addr) (rs : List Rw), vs = [.ref p] ∧ WebAt H p rs ∧ WebOk rs ∧ ∀ H', Same H H' → Q .non H'
theorem allRooms_app (a b : List Rw) : allRooms (a ++ b) = allRooms a ++ allRooms b := by
  unfold allRooms
  rw [List.map_append, List.flatten_append]
theorem allRooms_take {rs : List Rw} {i : Nat} {r : Rw} (h : rs[i]? = some r) : allRooms (rs.take (i + 1)) = allRooms (rs.take i) ++ r.1 := by
  rw [List.take_add_one, h, allRooms_app]
  show _ ++ (r.1 ++ []) = _
  rw [List.append_nil]
theorem allRooms_sub {rs : List Rw} {i : Nat} {k : Int} (h : k ∈ allRooms (rs.take i)) : k ∈ allRooms rs := by
  rw [← List.take_append_drop i rs, allRooms_app]
  exact List.mem_append_left _ h
theorem sc_rooms_in : FnScope ["rows", "rooms", "tos", "room"] ["rows"] (defScope s_rooms_in) := ⟨rfl, rfl, rfl, by decide +kernel, rfl, by decide +kernel, by decide +kernel⟩
theorem sc_look_at_web : FnScope ["thing", "number", "row"] ["thing"] (defScope s_look_at_web) := ⟨rfl, rfl, rfl, by decide +kernel, rfl, by decide +kernel, by decide +kernel⟩
section
variable {P : Program} {w : World} {K : PySem.W.Frag} {mg : Str → Option Value} {base : Heap}
theorem ok_rooms_in (T : At K mg "rooms_in" s_rooms_in ["rows"]) (B : Bt mg) : Cal P w K mg base 1 "rooms_in" ["rows"] (spRoomsIn w) := by
  refine cal_of T sc_rooms_in (fun vs H Q E h => ?_) (fun f cdv A outer s H vs Q E hr h => ?_)
  · obtain ⟨p, rs, A, rfl, _⟩ := h
    rfl
  · obtain ⟨p, rs, A, rfl, ⟨ws, hp, hrs⟩, hA, hin, q⟩ := h
    refine ⟨_, (pss_one (ps_ret (pe_callB (cr_sortedSet rfl) (by rfl) B.sorted (by decide +kernel) (pa_cons (pe_sc2 (own := [("rooms", 1), ("tos", 2), ("room", 3)]) (vs1 := [3]) (go := (gTup K 2 (gCons (gName 1) (gCons (gName 2) gNil)))) (wn := iTup K (tVar 1)) (gn := (gName 3)) (te := (tVar 3)) (by rfl) sc_rooms_in.nd (pi_list (pv 0)) (blkOk_by (own := [("rooms", 1), ("tos", 2), ("room", 3)]) (N := ["rows", "rooms", "tos", "room"]) (sc := defScope s_rooms_in) (by decide +kernel)) (by decide) (fun _ _ _ _ _ => (pg_tup (by rfl) (pgs_cons (pg_name (i := 1) sc_rooms_in.nd rfl (Or.inl rfl)) (pgs_cons (pg_name (i := 2) sc_rooms_in.nd rfl (Or.inl rfl)) pgs_nil)))) (fun _ _ _ _ _ => (pi_tup (pv 1))) (fun _ _ _ _ _ => (pg_name (i := 3) sc_rooms_in.nd rfl (Or.inl rfl))) (fun _ _ _ _ _ => (pv 3))) pa_nil)))), ?_⟩
    have hwl := hrs.len
    refine ⟨_, rfl, p, rfl, ⟨_, SqL.of hp⟩, fun D nD => ?_⟩
    refine ⟨fun i m H2 => m = ws.length - i ∧ i ≤ ws.length ∧ Same H H2 ∧ SetIs w H2 D (allRooms (rs.take i)), ⟨ws.length, (Nat.sub_zero _).symm, Nat.zero_le _, same_upd nD, ⟨_, 0, [], upd_same, List.nodup_nil, rfl, fun k => by simp, fun k => by simp [allRooms]⟩⟩, ?_⟩
    rintro i m H2 ⟨rfl, hi, s2, set2⟩
    by_cases hlt : i < ws.length
    · have hx : ws[i]? = some ws[i] := List.getElem?_eq_getElem hlt
      obtain ⟨r, er, a, b, c, ea, ha, hb, hc⟩ := hrs.get hx
      refine .inr ⟨⟨ws, ws[i], SqL.of (s2 _ _ hp), hx⟩, fun H3 => Same H H3 ∧ SetIs w H3 D (allRooms (rs.take (i + 1))), fun H' h => ⟨ws.length - (i + 1), by omega, rfl, hlt, h⟩, fun x H' y => ?_⟩
      obtain ⟨e1, y⟩ := y
      have ex : x = .ref a := by
        have z := y ws (SqL.of (s2 _ _ hp))
        rw [hx] at z
        injection z with z
        rw [← z, ea]
      rw [e1]
      clear e1 y
      subst ex
      refine ⟨a, _, rfl, (ha.same s2).sq, rfl, _, _, rfl, _, _, rfl, rfl, rfl, ?_⟩
      refine ⟨_, rfl, b, rfl, ⟨_, (hb.same s2).sq⟩, ?_⟩
      refine ⟨fun j k H3 => k = r.1.length - j ∧ j ≤ r.1.length ∧ Same H H3 ∧ SetIs w H3 D (allRooms (rs.take i) ++ r.1.take j), ⟨r.1.length, (Nat.sub_zero _).symm, Nat.zero_le _, s2, by rw [List.take_zero, List.append_nil]; exact set2⟩, ?_⟩
      rintro j k H3 ⟨rfl, hj, s3, set3⟩
      by_cases hjt : j < r.1.length
      · have hy : (r.1.map V.int)[j]? = some (V.int r.1[j]) := by
          rw [List.getElem?_map, List.getElem?_eq_getElem hjt]
          rfl
        refine .inr ⟨⟨_, _, (hb.same s3).sq, hy⟩, fun H4 => Same H H4 ∧ SetIs w H4 D (allRooms (rs.take i) ++ r.1.take (j + 1)), fun H' h => ⟨r.1.length - (j + 1), by omega, rfl, hjt, h⟩, fun y H' yl => ?_⟩
        obtain ⟨e2, yl⟩ := yl
        have ey : y = .int r.1[j] := by
          have z := yl _ (hb.same s3).sq
          rw [hy] at z
          injection z with z
          exact z.symm
        rw [e2]
        clear e2 yl
        subst ey
        refine ⟨rfl, _, rfl, ?_⟩
        have sub3 : ∀ k ∈ allRooms (rs.take i) ++ r.1.take j, k ∈ A := by
          intro k hk
          rcases List.mem_append.mp hk with z | z
          · exact hin k (allRooms_sub z)
          · refine hin k (allRooms_sub (i := i + 1) ?_)
            rw [allRooms_take er]
            exact List.mem_append_right _ (List.mem_of_mem_take z)
        obtain ⟨S, n, eD, few, nx⟩ := set3.add (A := A) (by omega) sub3 r.1[j]
        refine ⟨_, S, n, rfl, eD, few, fun c o ec => ?_, ?_⟩
        · rw [upd_ne (ne_of_none ec nD)]
          exact s3 _ _ ec
        · rw [List.take_add_one, List.getElem?_eq_getElem hjt, ← List.append_assoc]
          exact nx _ upd_same
      · have e : j = r.1.length := by omega
        subst e
        rw [List.take_length] at set3
        refine .inl ⟨⟨_, (hb.same s3).sq, by rw [List.length_map]; exact Nat.le_refl _⟩, s3, ?_⟩
        rw [allRooms_take er]
        exact set3
    · have e : i = ws.length := by omega
      subst e
      rw [hwl, List.take_length] at set2
      refine .inl ⟨⟨ws, SqL.of (s2 _ _ hp), Nat.le_refl _⟩, ?_⟩
      obtain ⟨S, n, d, eD, nd, hn, hS, hd⟩ := set2
      have z := nodup_few (S := A) nd fun k hk => hin k ((hd k).mp hk)
      refine ⟨D, S, n, rfl, eD, by omega, fun ms u pw mem _ nu => ?_⟩
      refine q ms u _ pw (fun k => (mem k).trans ((hS k).trans (hd k))) (s2.trans (same_upd nu)) ?_ upd_same
      exact s2.free nu
theorem ok_look (T : At K mg "look_at_web" s_look_at_web ["thing"]) (B : Bt mg) (D : GbW mg) (c_is_row : Cal P w K mg base 4 "is_row" ["thing", "rows"] (spRow K)) (c_rooms_in : Cal P w K mg base 1 "rooms_in" ["rows"] (spRoomsIn w)) : Cal P w K mg base 5 "look_at_web" ["thing"] spLook := by
  obtain ⟨tr, mRows⟩ := D.rows
  obtain ⟨tm, mRooms⟩ := D.rooms
  refine cal_of T sc_look_at_web (fun vs H Q E h => ?_) (fun f cdv A outer s H vs Q E hr h => ?_)
  · obtain ⟨p, rs, rfl, _⟩ := h
    rfl
  · obtain ⟨p, rs, rfl, ⟨ws, hp, hrs⟩, ok, q⟩ := h
    have hwl := hrs.len
    have hpos := ok.pos
    have hfew := ok.few
    refine ⟨_, (pss_cons (ps_if (PW.pt (pw_or (pt_not (pt_val (pe_callB call_isi (by rfl) B.isinstance (by decide +kernel) (pa_cons (pv 0) (pa_cons (pe_bltn (v := .ty "list") (u := .type "list") (by rfl) B.list (by decide +kernel) rfl) pa_nil))))) (pw_or1 (pt_not (pt_chain op_le op_le pe_int (pe_callB call_len_seq (by rfl) B.len PySem.boot_len (pa_cons (pv 0) pa_nil)) (pe_glob (v := .int 80) rfl mRows ⟨_, rfl⟩)))))) (pss_one ps_never) pss_nil)
      (pss_cons (ps_for PassesOwn.never rfl (pi_enum (by rfl) B.enumerate (pa_cons (pv 0) pa_nil)) (pg_tup (by rfl) (pgs_cons (pg_name (i := 1) sc_look_at_web.nd rfl (Or.inl rfl)) (pgs_cons (pg_name (i := 2) sc_look_at_web.nd rfl (Or.inl rfl)) pgs_nil))) (pss_one (ps_if (pt_not (pt_val (pe_own c_is_row hr (by decide) (by rfl) (pa_cons (pv 2) (pa_cons (pe_callB call_len_seq (by rfl) B.len PySem.boot_len (pa_cons (pv 0) pa_nil)) pa_nil))))) (pss_one ps_never) pss_nil)))
      (pss_one (ps_if (pt_cmpR op_gt (pe_callB call_len_seq (by rfl) B.len PySem.boot_len (pa_cons (pe_own c_rooms_in hr (by decide) (by rfl) (pa_cons (pv 0) pa_nil)) pa_nil)) (pe_glob (v := .int 12) rfl mRooms ⟨_, rfl⟩) (nomark _)) (pss_one ps_never) pss_nil)))), ?_⟩
    refine ⟨_, rfl, .ref p, .ty "list", .type "list", .type "list", true, rfl, .ty "list", .base (.lst hp), kit_ty (by decide +kernel), _, rfl, iteF ?_⟩
    refine ⟨_, rfl, p, _, rfl, .inl (SqL.of hp), _, _, rfl, rfl, _, rfl, iteB (fun _ => ?_) (fun z => absurd (of_decide_eq_false z) (by omega))⟩
    refine ⟨_, _, rfl, rfl, _, rfl, ?_⟩
    rw [show decide ((ws.length : Int) ≤ 80) = true from decide_eq_true (by omega)]
    refine iteF ?_
    refine ⟨_, rfl, p, _, rfl, SqL.of hp, ?_⟩
    refine for_enumS (K := K) (a := p) (xs := ws) (fun i σ H2 => ∃ y1 y2 : Option V, σ = [some (.ref p), y1, y2] ∧ Same H H2) ?_ ?_ ?_ ?_
    · exact ⟨none, none, rfl, Same.refl H⟩
    · rintro i σ H2 _ ⟨_, _, _, s2⟩
      exact SqL.of (s2 _ _ hp)
    · rintro i x σ H2 T hx ⟨y1, y2, rfl, s2⟩ nT
      obtain ⟨r, er, hrow⟩ := hrs.get hx
      have sT : Same H2 (upd H2 T (.tup [.int (i : Nat), x])) := same_upd nT
      refine ⟨T, _, rfl, SqT.of upd_same, rfl, _, _, rfl, _, _, rfl, rfl, ?_⟩
      refine ⟨_, rfl, _, rfl, p, _, rfl, .inl (SqL.of (sT _ _ (s2 _ _ hp))), x, r, ws.length, rfl, hrow.keep (K2.same (s2.trans sT)), (by rw [hwl]; exact ok.row r (List.mem_of_getElem? er)), by omega, fun H3 s3 => ?_⟩
      refine ⟨_, rfl, iteF ?_⟩
      exact ⟨_, _, rfl, (s2.trans sT).trans s3⟩
    · rintro σ H2 ⟨y1, y2, rfl, s2⟩
      obtain ⟨A, hA, hin⟩ := ok.all
      refine ⟨_, rfl, p, rs, A, rfl, ⟨ws, s2 _ _ hp, hrs.keep (K2.same s2)⟩, by omega, hin, fun ms u H3 pw mem s3 nu hu => ?_⟩
      have few := nodup_few (S := A) (ms := ms) (pw.imp fun h => Int.ne_of_lt h) fun k hk => hin k ((mem k).mp hk)
      refine ⟨u, _, rfl, .inl (SqL.of hu), _, _, rfl, rfl, _, rfl, iteB (fun z => absurd (of_decide_eq_true z) (by rw [List.length_map]; omega)) (fun _ => ?_)⟩
      exact q H3 (s2.trans s3)
end
end Su
namespace Su
open PySem PySem.Spec PyProof.Rows L2
theorem sc_law_take : FnScope ["_law_pool_here", "_law_many", "_law_found"] ["_law_pool_here", "_law_many"] (defScope s_law_take) := ⟨rfl, rfl, rfl, by decide +kernel, rfl, by decide +kernel, by decide +kernel⟩
theorem sc_law_pool : FnScope ["_law_script", "_law_k", "_law_cell", "_law_size", "_law_mixed"] ["_law_script", "_law_k"] (defScope s_law_pool) := ⟨rfl, rfl, rfl, by decide +kernel, rfl, by decide +kernel, by decide +kernel⟩
section
variable {P : Program} {w : World} {K : PySem.W.Frag} {mg : Str → Option Value} {base : Heap}
theorem ok_take (T : At K mg "_law_take" s_law_take ["_law_pool_here", "_law_many"]) : Cal P w K mg base 1 "_law_take" ["_law_pool_here", "_law_many"] spTake := by
  refine cal_of T sc_law_take (fun vs H Q E h => ?_) (fun f cdv A outer s H vs Q E hr h => ?_)
  · obtain ⟨p, many, rfl, _⟩ := h
    rfl
  · obtain ⟨p, many, rfl, ⟨o, hp, g, m, rfl, g0, m0, m1⟩, n1, n2, q⟩ := h
    refine ⟨_, (pss_cons (ps_if (pt_cmpR op_gt (pe_ix ix_list (pv 0) pe_int (fun _ _ => rfl)) pe_int (nomark _)) (pss_cons (ps_set (i := 2) sc_law_take.nd rfl (Or.inl rfl) (pe_op op_mod (pe_ix ix_list (pv 0) pe_int (fun _ _ => rfl)) (pv 1)))
      (pss_cons (ps_asg (pe_op op_fdiv (pe_ix ix_list (pv 0) pe_int (fun _ _ => rfl)) (pv 1)) (pg_sub (pv 0) pe_int set_list))
      (pss_one (ps_ret (pv 2))))) pss_nil)
      (pss_cons (ps_asg (pe_op op_mod (pe_op op_add (pe_op op_mul (pe_ix ix_list (pv 0) pe_int (fun _ _ => rfl)) pe_int) pe_int) pe_int) (pg_sub (pv 0) pe_int set_list))
      (pss_one (ps_ret (pe_op op_mod (pe_op op_fdiv (pe_op op_mod (pe_op op_mul (pe_ix ix_list (pv 0) pe_int (fun _ _ => rfl)) (pe_ix ix_list (pv 0) pe_int (fun _ _ => rfl))) pe_int) pe_int) (pv 1)))))), ?_⟩
    refine ⟨_, rfl, p, _, _, _, rfl, rfl, SqL.of hp, atI_nat (j := 0) rfl, _, _, rfl, rfl, _, rfl, ite2 (fun e => ?_) (fun e => ?_)⟩
    · refine ⟨_, rfl, p, _, _, _, rfl, rfl, SqL.of hp, atI_nat (j := 0) rfl, _, rfl, _, _, rfl, rfl, (by omega), ?_⟩
      refine ⟨_, rfl, p, _, _, _, rfl, rfl, SqL.of hp, atI_nat (j := 0) rfl, _, rfl, _, _, rfl, rfl, ⟨by omega, by omega⟩, ?_⟩
      refine ⟨_, rfl, p, _, _, 0, rfl, rfl, hp, rfl, ?_⟩
      refine ⟨_, rfl, q _ _ (Int.emod_nonneg _ (by omega)) (Int.emod_lt_of_pos _ (by omega)) ⟨_, _, rfl, Int.ediv_nonneg g0 (by omega), m0, m1⟩⟩
    · refine ⟨_, rfl, p, _, _, _, rfl, rfl, SqL.of hp, atI_nat (j := 1) rfl, _, _, rfl, rfl, .inl ⟨by omega, by omega⟩, _, _, rfl, rfl, _, _, rfl, rfl, (by show (0 : Int) < 2147483647; decide), ?_⟩
      refine ⟨_, rfl, p, _, _, 1, rfl, rfl, hp, rfl, ?_⟩
      have e0 : 0 ≤ (m * 48271 + 11) % 2147483647 := Int.emod_nonneg _ (by decide)
      have e1 : (m * 48271 + 11) % 2147483647 < 2147483647 := Int.emod_lt_of_pos _ (by decide)
      refine ⟨_, rfl, p, _, _, _, rfl, rfl, SqL.of upd_same, atI_nat (j := 1) rfl, _, rfl, p, _, _, _, rfl, rfl, SqL.of upd_same, atI_nat (j := 1) rfl, _, _, rfl, rfl, .inl ⟨by omega, by omega⟩, _, _, rfl, rfl, (by show (0 : Int) < 2147483629; decide), _, _, rfl, rfl, ⟨by decide, by decide⟩, _, rfl, _, _, rfl, rfl, (by omega), ?_⟩
      exact q _ _ (Int.emod_nonneg _ (by omega)) (Int.emod_lt_of_pos _ (by omega)) ⟨_, _, rfl, g0, e0, e1⟩
theorem ok_pool (T : At K mg "_law_pool" s_law_pool ["_law_script", "_law_k"]) (B : Bt mg) : Cal P w K mg base 1 "_law_pool" ["_law_script", "_law_k"] (spPool K) := by
  refine cal_of T sc_law_pool (fun vs H Q E h => ?_) (fun f cdv A outer s H vs Q E hr h => ?_)
  · obtain ⟨a, ns, k, rfl, _⟩ := h
    rfl
  · obtain ⟨a, ns, k, rfl, hS, k0, k1, q⟩ := h
    refine ⟨_, (pss_cons (ps_set (i := 2) sc_law_pool.nd rfl (Or.inl rfl) (pe_op op_add (pe_op op_mul pe_int (pe_callB (cr_sum rfl) (by rfl) B.sum (by decide +kernel) (pa_cons (pe_slice sl_list (pv 0) po_none (po_some pe_int)) pa_nil))) (pv 1)))
      (pss_cons (ps_if (pt_cmpR op_lt (pv 1) (pe_callB call_len_seq (by rfl) B.len PySem.boot_len (pa_cons (pv 0) pa_nil)) (nomark _)) (pss_one (ps_set (i := 2) sc_law_pool.nd rfl (Or.inl rfl) (pe_ix ix_list (pv 0) (pv 1) (fun _ _ => rfl)))) pss_nil)
      (pss_cons (ps_set (i := 3) sc_law_pool.nd rfl (Or.inl rfl) (pe_callB call_abs (by rfl) B.abs (by decide +kernel) (pa_cons (pv 2) pa_nil)))
      (pss_cons (ps_set (i := 4) sc_law_pool.nd rfl (Or.inl rfl) (pe_op op_mod (pe_op op_mul (pe_op op_add (pe_op op_add (pe_op op_add (pe_op op_mod (pv 3) pe_int) (pe_op op_mul (pe_op op_mul pe_int (pv 1)) (pv 1))) (pe_op op_mul pe_int (pv 1))) pe_int) pe_int) pe_int))
      (pss_one (ps_ret (pe_lst (pa_cons (pe_op op_mul (pv 3) (pe_callTy call_int1 (by rfl) B.int (by decide +kernel) (pa_cons (pe_cmpR op_ge (pv 3) (pe_op op_pow pe_int pe_int) (nomark _)) pa_nil))) (pa_cons (pe_op op_mod (pe_op op_mul (pv 4) (pv 4)) pe_int) pa_nil))))))))), ?_⟩
    obtain ⟨ms, ems⟩ := cutV_ints ns none (some 63)
    refine ⟨_, rfl, 63, rfl, a, _, rfl, hS, fun c nc => ?_⟩
    rw [ems]
    have s1 : Same H (upd H c (.lst (ms.map V.int))) := same_upd nc
    refine ⟨c, ms, rfl, SqL.of upd_same, _, _, rfl, rfl, .inl ⟨by decide, by decide⟩, _, rfl, _, _, rfl, rfl, ?_⟩
    refine ⟨_, rfl, _, rfl, a, _, rfl, .inl (s1.seq hS), _, _, rfl, rfl, _, rfl, ite2 (fun e => ?_) (fun e => ?_)⟩
    rw [decide_eq_true_eq, List.length_map] at e
    obtain ⟨z, g⟩ : ∃ z : Int, atI (ns.map V.int) k = some (V.int z) := by
      have hk : k.toNat < ns.length := by omega
      exact ⟨_, atI_int (v := V.int ns[k.toNat]) k0 (by rw [List.getElem?_map, List.getElem?_eq_getElem hk]; rfl)⟩
    refine ⟨_, rfl, _, rfl, a, _, k, .int z, rfl, rfl, s1.seq hS, g, ?_⟩
    all_goals
      refine ⟨_, rfl, _, rfl, ?_⟩
      refine ⟨_, rfl, _, _, rfl, rfl, (by show (0 : Int) < 2147483629; decide), _, rfl, _, _, rfl, rfl, .inl ⟨by decide, by decide⟩, _, rfl, _, _, rfl, rfl, .inr ⟨by omega, by omega⟩, _, _, rfl, rfl, _, rfl, _, _, rfl, rfl, .inl ⟨by decide, by decide⟩, _, _, rfl, rfl, _, _, rfl, rfl, _, _, rfl, rfl, .inr ⟨by decide, by decide⟩, _, _, rfl, rfl, (by show (0 : Int) < 2147483647; decide), ?_⟩
      refine ⟨_, rfl, _, rfl, _, _, rfl, rfl, ⟨by decide, by decide, by decide⟩, _, _, rfl, rfl, .inr ⟨_, rfl, _, _, rfl, rfl, .inr ?_, ?_⟩⟩
      · exact b01 _
      refine ⟨_, rfl, _, rfl, _, _, rfl, rfl, .inl ?_, _, _, rfl, rfl, (by show (0 : Int) < 2147483629; decide), (by show 2 ≤ sizeLine; decide), fun p np => ?_⟩
      · refine ⟨Int.lt_of_lt_of_le (by decide) (Int.emod_nonneg _ (by decide)), Int.lt_trans (Int.emod_lt_of_pos _ (by decide)) (by decide)⟩
      refine q p _ (s1.trans (same_upd np)) (s1.free np) ⟨_, upd_same, _, _, rfl, ?_, Int.emod_nonneg _ (by decide), Int.lt_trans (Int.emod_lt_of_pos _ (by decide)) (by decide)⟩
      refine Int.mul_nonneg ?_ ?_ <;> split <;> omega
end
theorem sc_law_picked : FnScope ["_law_pool_here", "_law_some", "_law_many", "_law_left", "_law_k"] ["_law_pool_here", "_law_some", "_law_many"] (defScope s_law_picked) := ⟨rfl, rfl, rfl, by decide +kernel, rfl, by decide +kernel, by decide +kernel⟩
section
variable {P : Program} {w : World} {K : PySem.W.Frag} {mg : Str → Option Value} {base : Heap}
theorem ok_picked (T : At K mg "_law_picked" s_law_picked ["_law_pool_here", "_law_some", "_law_many"]) (B : Bt mg) (c_take : Cal P w K mg base 1 "_law_take" ["_law_pool_here", "_law_many"] spTake) :
    Cal P w K mg base 2 "_law_picked" ["_law_pool_here", "_law_some", "_law_many"] (spPicked K) := by
  refine cal_of T sc_law_picked (fun vs H Q E h => ?_) (fun f cdv A outer s H vs Q E hr h => ?_)
  · obtain ⟨p, b, ns, many, rfl, _⟩ := h
    rfl
  · obtain ⟨p, b, ns, many, rfl, hp, hS, hbp, nd, hl, m0, q⟩ := h
    refine ⟨_, (pss_cons (ps_set (i := 3) sc_law_picked.nd rfl (Or.inr rfl) (pe_callTy call_list_of (by rfl) B.list (by decide +kernel) (pa_cons (pv 1) pa_nil)))
      (pss_one (ps_ret (pe_callB cr_sortedI (by rfl) B.sorted (by decide +kernel) (pa_cons (pe_lc (own := [("_law_k", 4)]) (g := (gName 4)) (tt := tYes) (te := (tBM K "list" rPopAt (tVar 3) (tCons (tCall spTake [] E0 (tCons (tVar 0) (tCons (tCB (rLenK K) (tCons (tVar 3) tNil)) tNil))) tNil))) (by rfl) sc_law_picked.nd (pi_range1 (by rfl) B.range (pa_cons (pe_callB (call_min2 rfl) (by rfl) B.min (by decide +kernel) (pa_cons (pv 2) (pa_cons (pe_callB call_len_seq (by rfl) B.len PySem.boot_len (pa_cons (pv 3) pa_nil)) pa_nil))) pa_nil)) (blkOk_by (own := [("_law_k", 4)]) (N := ["_law_pool_here", "_law_some", "_law_many", "_law_left", "_law_k"]) (sc := defScope s_law_picked) (by decide +kernel)) (fun _ _ _ _ _ => (pg_name (i := 4) sc_law_picked.nd rfl (Or.inl rfl))) (fun _ _ _ _ _ => pts_nil) (fun _ _ _ _ _ => (pe_bm PySem.F.plainAttrs_list PySem.F.slot_list_pop PySem.F.type_list_pop mt_popAt (pv 3) (pa_cons (pe_own c_take hr (by decide) (by rfl) (pa_cons (pv 0) (pa_cons (pe_callB call_len_seq (by rfl) B.len PySem.boot_len (pa_cons (pv 3) pa_nil)) pa_nil))) pa_nil)))) pa_nil))))), ?_⟩
    refine ⟨_, rfl, b, _, rfl, .inl hS, fun l nl => ?_⟩
    have elp : l ≠ p := pool_ne hp nl
    have hl0 : (if ((ns.map V.int).length : Int) < many then ((ns.map V.int).length : Int) else many) = ((min many.toNat ns.length : Nat) : Int) := by
      rw [List.length_map]
      split <;> omega
    refine ⟨_, rfl, _, rfl, l, _, rfl, .inl (SqL.of upd_same), _, _, rfl, _, rfl, (by omega), (by omega), fun D nD => ?_⟩
    rw [hl0]
    refine lc_range (lo := 0) (n := min many.toNat ns.length) (fun i H2 => ∃ lf acc : List Int, H2 l = some (.lst (lf.map V.int)) ∧ H2 D = some (.lst (acc.map V.int)) ∧ acc.length = i ∧ (acc ++ lf).Perm ns ∧ PoolAt H2 p ∧ Kept p H H2) ?_ ?_ ?_
    · obtain ⟨eDl, nD0⟩ := free_upd nD
      refine ⟨ns, [], (by rw [upd_ne eDl.symm, upd_same]), upd_same, rfl, List.Perm.refl _, (hp.upd elp.symm).upd (pool_ne hp nD0).symm, ((Kept.refl p H).set nl).set nD0⟩
    · rintro i H2 hi ⟨lf, acc, h1, h2, hlen, hpm, hpo, hk⟩
      obtain ⟨eDl, nD0⟩ := free_upd nD
      have eDp : D ≠ p := pool_ne hp nD0
      have hll : acc.length + lf.length = ns.length := by
        have := hpm.length_eq
        rw [List.length_append] at this
        exact this
      refine ⟨rfl, tyes ?_⟩
      refine ⟨_, rfl, .inl ⟨rfl, _, SqL.of h1⟩, _, rfl, _, rfl, l, _, rfl, .inl (SqL.of h1), p, _, rfl, hpo, ?_, ?_, fun r o r0 r1 po => ?_⟩
      · rw [List.length_map]
        omega
      · rw [List.length_map]
        omega
      · rw [List.length_map] at r1
        have hr1 : r.toNat < lf.length := by omega
        refine ⟨l, lf.map V.int, r, r.toNat, V.int lf[r.toNat], rfl, rfl, (by rw [upd_ne elp]; exact h1), by omega, by omega, seqIx r0 (by rw [List.length_map]; exact r1), (by rw [List.getElem?_map, List.getElem?_eq_getElem hr1]; rfl), ?_⟩
        have hg : lf[r.toNat]? = some lf[r.toNat] := List.getElem?_eq_getElem hr1
        generalize lf[r.toNat] = y at *
        refine ⟨acc.map V.int, (by rw [upd_ne eDl, upd_ne eDp]; exact h2), ?_, lf.eraseIdx r.toNat, acc ++ [y], ?_, ?_, ?_, ?_, ?_, ?_⟩
        · rw [List.length_map]
          exact small1000 (by omega)
        · rw [upd_ne eDl.symm, upd_same, erase_map]
        · rw [upd_same, List.map_append]
          rfl
        · rw [List.length_append, hlen]
          rfl
        · rw [List.append_assoc]
          exact ((erase_perm lf r.toNat y hg).append_left acc).trans hpm
        · refine PoolAt.upd (PoolAt.upd ⟨o, upd_same, po⟩ elp.symm) eDp.symm
        · exact (((hk.trans (Kept.upd p H2 o)).set nl).set nD0)
    · rintro H2 ⟨lf, acc, h1, h2, hlen, hpm, hpo, hk⟩
      obtain ⟨eDl, nD0⟩ := free_upd nD
      refine ⟨D, acc, rfl, SqL.of h2, fun ms c pm so nc => ?_⟩
      have ecp : c ≠ p := pool_ne hpo nc
      have hsub : ∀ x ∈ ms, x ∈ ns := fun x hx => hpm.subset (List.mem_append_left _ (pm.subset hx))
      have hnd : (acc ++ lf).Nodup := hpm.nodup_iff.mpr nd
      exact q c _ ms (hk.free ecp nc) (hk.trans (Kept.same (same_upd nc))) (hpo.upd ecp.symm) upd_same (pm.nodup_iff.mpr (List.nodup_append.mp hnd).1) hsub (by rw [pm.length_eq, hlen]) so
end
end Su
/-! ### K1: kinds of shelves, of such as are some; how many lays there are -/
namespace Su
open PySem PySem.Spec PyProof.Rows L2
abbrev wayVs : List V := [.str "last", .str "first", .str "tree"]
abbrev sizeVs : List V := [.int 1, .int 2, .int 4, .int 8]
structure GbK (K : PySem.W.Frag) (mg : Str → Option Value) : Prop where
  most : ∃ t, mg "MOST_SLOTS" = some (.int 8 t)
  ways : ∃ a, mg "WAYS" = some (.ref a) ∧ ∀ H, SqT K H a wayVs
  sizes : ∃ a, mg "TREE_SIZES" = some (.ref a) ∧ ∀ H, SqT K H a sizeVs
/-- there are shelves of this size and way -/
structure Kind (n : Int) (s : Str) : Prop where
  way : s = "last" ∨ s = "first" ∨ s = "tree"
  lo : 1 ≤ n
  hi : n ≤ 8
  tree : s = "tree" → n = 1 ∨ n = 2 ∨ n = 4 ∨ n = 8
def bitsN (n : Int) (s : Str) : Int := if s = "tree" then n - 1 else 0
def spWayS : Sp := fun vs H Q _ => ∃ (s : Str), vs = [.str s] ∧ (s = "last" ∨ s = "first" ∨ s = "tree") ∧ Q (.bl true) H
def spSizeS : Sp := fun vs H Q _ => ∃ (n : Int) (s : Str), vs = [.int n, .str s] ∧ Kind n s ∧ Q (.bl true) H
def spBitsN : Sp := fun vs H Q _ => ∃ (n : Int) (s : Str), vs = [.int n, .str s] ∧ Q (.int (bitsN n s)) H
def spPart : Sp := fun vs H Q _ => ∃ (n : Int) (s : Str), vs = [.int n, .str s, .non, .non] ∧ Kind n s ∧ Q .non H
def spKind : Sp := fun vs H Q _ => ∃ (n : Int) (s : Str), vs = [.int n, .str s] ∧ Kind n s ∧ Q .non H
theorem sc_is_way : FnScope ["thing"] ["thing"] (defScope s_is_way) := ⟨rfl, rfl, rfl, by decide +kernel, rfl, by decide +kernel, by decide +kernel⟩
theorem sc_is_size : FnScope ["thing", "way"] ["thing", "way"] (defScope s_is_size) := ⟨rfl, rfl, rfl, by decide +kernel, rfl, by decide +kernel, by decide +kernel⟩
theorem sc_how_many_bits : FnScope ["size", "way"] ["size", "way"] (defScope s_how_many_bits) := ⟨rfl, rfl, rfl, by decide +kernel, rfl, by decide +kernel, by decide +kernel⟩
theorem sc_wrong_part : FnScope ["size", "way", "slots", "bits"] ["size", "way", "slots", "bits"] (defScope s_wrong_part) := ⟨rfl, rfl, rfl, by decide +kernel, rfl, by decide +kernel, by decide +kernel⟩
theorem sc_look_at_kind : FnScope ["size", "way", "part"] ["size", "way"] (defScope s_look_at_kind) := ⟨rfl, rfl, rfl, by decide +kernel, rfl, by decide +kernel, by decide +kernel⟩
section
variable {P : Program} {w : World} {K : PySem.W.Frag} {mg : Str → Option Value} {base : Heap}
theorem ok_way (T : At K mg "is_way" s_is_way ["thing"]) (B : Bt mg) (D : GbK K mg) : Cal P w K mg base 1 "is_way" ["thing"] spWayS := by
  obtain ⟨aWays, mWays, hW⟩ := D.ways
  refine cal_of T sc_is_way (fun vs H Q E h => ?_) (fun f cdv A outer s H vs Q E hr h => ?_)
  · obtain ⟨s, rfl, _⟩ := h
    rfl
  · obtain ⟨s, rfl, hs, q⟩ := h
    refine ⟨_, (pss_one (ps_ret (pe_and (pe_callB call_isi (by rfl) B.isinstance (by decide +kernel) (pa_cons (pv 0) (pa_cons (pe_bltn (v := .ty "str") (u := .type "str") (by rfl) B.str (by decide +kernel) rfl) pa_nil))) (pe_one (pe_cmpR op_in_seq (pv 0) (pe_glob (v := .ref aWays) rfl mWays rfl) (by rfl)))))), ?_⟩
    refine ⟨_, rfl, .str s, .ty "str", .type "str", .type "str", true, rfl, .ty "str", .base (.str s), kit_ty (by decide +kernel), _, rfl, iteT ?_⟩
    refine ⟨_, rfl, aWays, wayVs, rfl, .inr (hW H), rfl, rfl, ?_⟩
    rcases hs with rfl | rfl | rfl
    · exact q
    · exact q
    · exact q
theorem ok_size (T : At K mg "is_size" s_is_size ["thing", "way"]) (D : GbK K mg) (c_is_whole : Cal P w K mg base 1 "is_whole" ["thing"] spWholeI) : Cal P w K mg base 2 "is_size" ["thing", "way"] spSizeS := by
  obtain ⟨tm, mMost⟩ := D.most
  obtain ⟨aSizes, mSizes, hZ⟩ := D.sizes
  refine cal_of T sc_is_size (fun vs H Q E h => ?_) (fun f cdv A outer s H vs Q E hr h => ?_)
  · obtain ⟨n, s, rfl, _⟩ := h
    rfl
  · obtain ⟨n, s, rfl, ⟨hs, n1, n8, ht⟩, q⟩ := h
    refine ⟨_, (pss_cons (ps_if (PW.pt (pw_or (pt_not (pt_val (pe_own c_is_whole hr (by decide) (by rfl) (pa_cons (pv 0) pa_nil)))) (pw_or1 (pt_not (pt_chain op_le op_le pe_int (pv 0) (pe_glob (v := .int 8) rfl mMost ⟨_, rfl⟩)))))) (pss_one (ps_ret pe_bl)) pss_nil)
      (pss_one (ps_ret (pe_or (pe_cmpR op_ne (pv 1) pe_str (nomark _)) (pe_one (pe_cmpR op_in_seq (pv 0) (pe_glob (v := .ref aSizes) rfl mSizes rfl) (by rfl))))))), ?_⟩
    refine ⟨_, rfl, n, rfl, _, rfl, iteF ?_⟩
    refine ⟨_, rfl, _, _, rfl, rfl, _, rfl, iteB (fun _ => ?_) (fun z => absurd (of_decide_eq_false z) (by omega))⟩
    refine ⟨_, _, rfl, rfl, _, rfl, ?_⟩
    rw [show decide (n ≤ 8) = true from decide_eq_true n8]
    refine iteF ?_
    rcases hs with rfl | rfl | rfl
    · exact ⟨_, rfl, rfl, _, rfl, iteB (fun _ => q) (fun z => absurd z (by decide +kernel))⟩
    · exact ⟨_, rfl, rfl, _, rfl, iteB (fun _ => q) (fun z => absurd z (by decide +kernel))⟩
    · refine ⟨_, rfl, rfl, _, rfl, iteB (fun z => absurd z (by decide +kernel)) (fun _ => ?_)⟩
      refine ⟨_, rfl, aSizes, sizeVs, rfl, .inr (hZ H), rfl, rfl, ?_⟩
      rcases ht rfl with rfl | rfl | rfl | rfl
      · exact q
      · exact q
      · exact q
      · exact q
theorem ok_bitsN (T : At K mg "how_many_bits" s_how_many_bits ["size", "way"]) : Cal P w K mg base 1 "how_many_bits" ["size", "way"] spBitsN := by
  refine cal_of T sc_how_many_bits (fun vs H Q E h => ?_) (fun f cdv A outer s H vs Q E hr h => ?_)
  · obtain ⟨n, s, rfl, _⟩ := h
    rfl
  · obtain ⟨n, s, rfl, q⟩ := h
    refine ⟨_, (pss_one (ps_ret (pe_ifExp (pt_cmpR op_eq (pv 1) pe_str (nomark _)) (pe_op op_sub (pv 0) pe_int) pe_int))), ?_⟩
    refine ⟨_, rfl, rfl, _, rfl, iteB (fun z => ?_) (fun z => ?_)⟩
    · have e : s = "tree" := V.str.inj (of_decide_eq_true z)
      refine ⟨_, rfl, _, _, rfl, rfl, ?_⟩
      unfold bitsN at q
      rw [if_pos e] at q
      exact q
    · have e : ¬ s = "tree" := fun h => (of_decide_eq_false z) (by rw [h])
      unfold bitsN at q
      rw [if_neg e] at q
      exact q
theorem ok_part (T : At K mg "wrong_part" s_wrong_part ["size", "way", "slots", "bits"]) (c_is_way : Cal P w K mg base 1 "is_way" ["thing"] spWayS) (c_is_size : Cal P w K mg base 2 "is_size" ["thing", "way"] spSizeS) :
    Cal P w K mg base 3 "wrong_part" ["size", "way", "slots", "bits"] spPart := by
  refine cal_of T sc_wrong_part (fun vs H Q E h => ?_) (fun f cdv A outer s H vs Q E hr h => ?_)
  · obtain ⟨n, s, rfl, _⟩ := h
    rfl
  · obtain ⟨n, s, rfl, k, q⟩ := h
    have c_are_slots : True := trivial
    refine ⟨_, pss_cons (ps_if (pt_not (pt_val (pe_own c_is_way hr (by decide) (by rfl) (pa_cons (pv 1) pa_nil)))) (pss_one (ps_ret pe_str)) pss_nil) (pss_cons (ps_if (pt_not (pt_val (pe_own c_is_size hr (by decide) (by rfl) (pa_cons (pv 0) (pa_cons (pv 1) pa_nil))))) (pss_one (ps_ret pe_str)) pss_nil)
      (pss_cons (ps_if (PW.pt (pw_and (pt_cmpR op_notN (pv 2) pe_non (nomark _)) (pw_and1 pt_never))) (pss_one (ps_ret pe_str)) pss_nil) (pss_cons (ps_if (PW.pt (pw_and (pt_cmpR op_notN (pv 3) pe_non (nomark _)) (pw_and1 pt_never))) (pss_one (ps_ret pe_str)) pss_nil) (pss_one (ps_ret pe_non))))), ?_⟩
    refine ⟨_, rfl, s, rfl, k.way, _, rfl, iteF ?_⟩
    refine ⟨_, rfl, _, rfl, n, s, rfl, k, _, rfl, iteF ?_⟩
    refine ⟨_, rfl, rfl, _, rfl, iteF (iteF ?_)⟩
    refine ⟨_, rfl, rfl, _, rfl, iteF (iteF ?_)⟩
    exact q
theorem ok_kind (T : At K mg "look_at_kind" s_look_at_kind ["size", "way"]) (c_wrong_part : Cal P w K mg base 3 "wrong_part" ["size", "way", "slots", "bits"] spPart) : Cal P w K mg base 4 "look_at_kind" ["size", "way"] spKind := by
  refine cal_of T sc_look_at_kind (fun vs H Q E h => ?_) (fun f cdv A outer s H vs Q E hr h => ?_)
  · obtain ⟨n, s, rfl, _⟩ := h
    rfl
  · obtain ⟨n, s, rfl, k, q⟩ := h
    refine ⟨_, (pss_cons (ps_set (i := 2) sc_look_at_kind.nd rfl (Or.inl rfl) (pe_own c_wrong_part hr (by decide) (by rfl) (pa_cons (pv 0) (pa_cons (pv 1) (pa_cons pe_non (pa_cons pe_non pa_nil))))))
      (pss_one (ps_if (pt_cmpR op_notN (pv 2) pe_non (nomark _)) (pss_one ps_never) pss_nil))), ?_⟩
    refine ⟨_, rfl, _, rfl, n, s, rfl, k, ?_⟩
    exact ⟨_, rfl, rfl, _, rfl, iteF q⟩
end
end Su
/-! ### AG: ages, their order, and the least table of them -/
namespace Su
open PySem PySem.Spec PyProof.Rows L2
/-- ages from above and below -/
abbrev Pr := List Int × List Int
def LeL : List Int → List Int → Prop
  | [], [] => True
  | x :: a, y :: b => x ≤ y ∧ LeL a b
  | _, _ => False
theorem LeL.refl : ∀ a : List Int, LeL a a
  | [] => True.intro
  | _ :: a => ⟨Int.le_refl _, LeL.refl a⟩
theorem LeL.trans : ∀ {a b c : List Int}, LeL a b → LeL b c → LeL a c
  | [], [], [], _, _ => True.intro
  | _ :: _, _ :: _, _ :: _, h, k => ⟨Int.le_trans h.1 k.1, LeL.trans h.2 k.2⟩
  | [], _ :: _, _, h, _ => h.elim
  | _ :: _, [], _, h, _ => h.elim
  | [], [], _ :: _, _, k => k.elim
  | _ :: _, _ :: _, [], _, k => k.elim
theorem LeL.anti : ∀ {a b : List Int}, LeL a b → LeL b a → a = b
  | [], [], _, _ => rfl
  | _ :: _, _ :: _, h, k => by rw [Int.le_antisymm h.1 k.1, LeL.anti h.2 k.2]
  | [], _ :: _, h, _ => h.elim
  | _ :: _, [], h, _ => h.elim
theorem LeL.len : ∀ {a b : List Int}, LeL a b → a.length = b.length
  | [], [], _ => rfl
  | _ :: _, _ :: _, h => by rw [List.length_cons, List.length_cons, LeL.len h.2]
  | [], _ :: _, h => h.elim
  | _ :: _, [], h => h.elim
theorem LeL.at : ∀ {a b : List Int}, LeL a b → ∀ k : Nat, a.getD k 0 ≤ b.getD k 0
  | [], [], _, k => by simp
  | x :: a, y :: b, h, 0 => h.1
  | x :: a, y :: b, h, k + 1 => by simpa using LeL.at h.2 k
  | [], _ :: _, h, _ => h.elim
  | _ :: _, [], h, _ => h.elim
theorem LeL.set : ∀ {a b : List Int}, LeL a b → ∀ k : Nat, LeL (a.set k 0) (b.set k 0)
  | [], [], _, _ => True.intro
  | x :: a, y :: b, h, 0 => ⟨Int.le_refl _, h.2⟩
  | x :: a, y :: b, h, k + 1 => ⟨h.1, LeL.set h.2 k⟩
  | [], _ :: _, h, _ => h.elim
  | _ :: _, [], h, _ => h.elim
theorem LeL.upA {u v : Int} (uv : u ≤ v) : ∀ {a b : List Int}, LeL a b → LeL (a.map fun x => if x < u then x + 1 else x) (b.map fun x => if x < v then x + 1 else x)
  | [], [], _ => True.intro
  | x :: a, y :: b, h => by
    refine ⟨?_, LeL.upA uv h.2⟩
    have := h.1
    show (if x < u then x + 1 else x) ≤ (if y < v then y + 1 else y)
    split <;> split <;> omega
  | [], _ :: _, h => h.elim
  | _ :: _, [], h => h.elim
theorem LeL.upB {s u v : Int} (uv : u ≤ v) : ∀ {a b : List Int}, LeL a b → (∀ y ∈ b, y ≤ s) → LeL (a.map fun x => if x ≤ u then min s (x + 1) else x) (b.map fun x => if x ≤ v then min s (x + 1) else x)
  | [], [], _, _ => True.intro
  | x :: a, y :: b, h, l => by
    refine ⟨?_, LeL.upB uv h.2 fun z hz => l z (List.mem_cons_of_mem _ hz)⟩
    have := h.1
    have := l y List.mem_cons_self
    show (if x ≤ u then min s (x + 1) else x) ≤ (if y ≤ v then min s (y + 1) else y)
    split <;> split <;> omega
  | [], _ :: _, h, _ => h.elim
  | _ :: _, [], h, _ => h.elim
theorem LeL.maxl : ∀ {a c : List Int}, a.length = c.length → LeL a (List.zipWith max a c)
  | [], [], _ => True.intro
  | x :: a, y :: c, h => ⟨by omega, LeL.maxl (by simpa using h)⟩
  | [], _ :: _, h => by cases h
  | _ :: _, [], h => by cases h
theorem LeL.maxr : ∀ {a c : List Int}, a.length = c.length → LeL c (List.zipWith max a c)
  | [], [], _ => True.intro
  | x :: a, y :: c, h => ⟨by omega, LeL.maxr (by simpa using h)⟩
  | [], _ :: _, h => by cases h
  | _ :: _, [], h => by cases h
theorem LeL.lub : ∀ {a c d : List Int}, LeL a d → LeL c d → LeL (List.zipWith max a c) d
  | [], [], [], _, _ => True.intro
  | x :: a, y :: c, z :: d, h, k => ⟨by have := h.1; have := k.1; omega, LeL.lub h.2 k.2⟩
  | [], _, _ :: _, h, _ => h.elim
  | _ :: _, _, [], h, _ => h.elim
  | _, _ :: _, [], _, k => k.elim
  | _, [], _ :: _, _, k => k.elim
theorem LeL.minl : ∀ {a c : List Int}, a.length = c.length → LeL (List.zipWith min a c) a
  | [], [], _ => True.intro
  | x :: a, y :: c, h => ⟨by omega, LeL.minl (by simpa using h)⟩
  | [], _ :: _, h => by cases h
  | _ :: _, [], h => by cases h
theorem LeL.minr : ∀ {a c : List Int}, a.length = c.length → LeL (List.zipWith min a c) c
  | [], [], _ => True.intro
  | x :: a, y :: c, h => ⟨by omega, LeL.minr (by simpa using h)⟩
  | [], _ :: _, h => by cases h
  | _ :: _, [], h => by cases h
theorem LeL.glb : ∀ {a c d : List Int}, LeL d a → LeL d c → LeL d (List.zipWith min a c)
  | [], [], [], _, _ => True.intro
  | x :: a, y :: c, z :: d, h, k => ⟨by have := h.1; have := k.1; omega, LeL.glb h.2 k.2⟩
  | [], _, _ :: _, h, _ => h.elim
  | _ :: _, _, [], h, _ => h.elim
  | _, _ :: _, [], _, k => k.elim
  | _, [], _ :: _, _, k => k.elim
/-- of so many rooms, each from 0 to the size -/
structure POk (n : Nat) (s : Int) (p : Pr) : Prop where
  la : p.1.length = n
  lb : p.2.length = n
  a : ∀ x ∈ p.1, 0 ≤ x ∧ x ≤ s
  b : ∀ x ∈ p.2, 0 ≤ x ∧ x ≤ s
def PLe (p q : Pr) : Prop := LeL p.1 q.1 ∧ LeL q.2 p.2
theorem PLe.refl (p : Pr) : PLe p p := ⟨LeL.refl _, LeL.refl _⟩
theorem PLe.trans {p q r : Pr} (h : PLe p q) (k : PLe q r) : PLe p r := ⟨h.1.trans k.1, k.2.trans h.2⟩
theorem PLe.anti {p q : Pr} (h : PLe p q) (k : PLe q p) : p = q := Prod.ext (h.1.anti k.1) (k.2.anti h.2)
def ageA (a : List Int) (k : Nat) : List Int := (a.map fun x => if x < a.getD k 0 then x + 1 else x).set k 0
def ageB (s : Int) (b : List Int) (k : Nat) : List Int := (b.map fun x => if x ≤ b.getD k 0 then min s (x + 1) else x).set k 0
def askP (s : Int) (p : Pr) (k : Nat) : Pr := (ageA p.1 k, ageB s p.2 k)
def joinP (p q : Pr) : Pr := (List.zipWith max p.1 q.1, List.zipWith min p.2 q.2)
def rowP (s : Int) (p : Pr) : List Nat → Pr
  | [] => p
  | k :: ks => ks.foldl (fun c j => joinP c (askP s p j)) (askP s p k)
theorem getD_mem_or (a : List Int) (k : Nat) : a.getD k 0 ∈ a ∨ a.getD k 0 = 0 := by
  by_cases h : k < a.length
  · exact .inl (by rw [List.getD_eq_getElem?_getD, List.getElem?_eq_getElem h]; exact List.getElem_mem h)
  · exact .inr (by rw [List.getD_eq_getElem?_getD, List.getElem?_eq_none (by omega)]; rfl)
theorem askP_ok {n : Nat} {s : Int} {p : Pr} (hs : 0 ≤ s) (h : POk n s p) (k : Nat) : POk n s (askP s p k) := by
  refine ⟨by simp [askP, ageA, h.la], by simp [askP, ageB, h.lb], fun x hx => ?_, fun x hx => ?_⟩
  · rcases List.mem_or_eq_of_mem_set hx with hx | rfl
    · obtain ⟨y, hy, rfl⟩ := List.mem_map.mp hx
      have b1 := h.a y hy
      have b2 : p.1.getD k 0 ≤ s := by
        rcases getD_mem_or p.1 k with z | z
        · exact (h.a _ z).2
        · omega
      show 0 ≤ (if y < p.1.getD k 0 then y + 1 else y) ∧ (if y < p.1.getD k 0 then y + 1 else y) ≤ s
      split <;> omega
    · omega
  · rcases List.mem_or_eq_of_mem_set hx with hx | rfl
    · obtain ⟨y, hy, rfl⟩ := List.mem_map.mp hx
      have b1 := h.b y hy
      show 0 ≤ (if y ≤ p.2.getD k 0 then min s (y + 1) else y) ∧ (if y ≤ p.2.getD k 0 then min s (y + 1) else y) ≤ s
      split <;> omega
    · omega
theorem zip_mem {f : Int → Int → Int} {P : Int → Prop} (hf : ∀ x y, P x → P y → P (f x y)) : ∀ {a c : List Int}, (∀ x ∈ a, P x) → (∀ x ∈ c, P x) → ∀ x ∈ List.zipWith f a c, P x
  | [], _, _, _, x, hx => by simp at hx
  | _ :: _, [], _, _, x, hx => by simp at hx
  | y :: a, z :: c, ha, hc, x, hx => by
    rw [List.zipWith_cons_cons] at hx
    rcases List.mem_cons.mp hx with rfl | hx
    · exact hf _ _ (ha _ List.mem_cons_self) (hc _ List.mem_cons_self)
    · exact zip_mem hf (fun x h => ha x (List.mem_cons_of_mem _ h)) (fun x h => hc x (List.mem_cons_of_mem _ h)) x hx
theorem joinP_ok {n : Nat} {s : Int} {p q : Pr} (h : POk n s p) (k : POk n s q) : POk n s (joinP p q) := by
  refine ⟨by simp [joinP, h.la, k.la], by simp [joinP, h.lb, k.lb], zip_mem (fun x y a b => by omega) h.a k.a, zip_mem (fun x y a b => by omega) h.b k.b⟩
theorem joinP_l {n : Nat} {s : Int} {p q : Pr} (h : POk n s p) (k : POk n s q) : PLe p (joinP p q) := ⟨LeL.maxl (by rw [h.la, k.la]), LeL.minl (by rw [h.lb, k.lb])⟩
theorem joinP_r {n : Nat} {s : Int} {p q : Pr} (h : POk n s p) (k : POk n s q) : PLe q (joinP p q) := ⟨LeL.maxr (by rw [h.la, k.la]), LeL.minr (by rw [h.lb, k.lb])⟩
theorem joinP_lub {p q r : Pr} (h : PLe p r) (k : PLe q r) : PLe (joinP p q) r := ⟨LeL.lub h.1 k.1, LeL.glb h.2 k.2⟩
theorem askP_mono {n : Nat} {s : Int} {p q : Pr} (hp : POk n s p) (h : PLe p q) (k : Nat) : PLe (askP s p k) (askP s q k) :=
  ⟨(LeL.upA (h.1.at k) h.1).set k, (LeL.upB (h.2.at k) h.2 fun y hy => (hp.b y hy).2).set k⟩
theorem foldP_ok {n : Nat} {s : Int} {p : Pr} (hs : 0 ≤ s) (hp : POk n s p) : ∀ (ks : List Nat) (c : Pr), POk n s c → POk n s (ks.foldl (fun c j => joinP c (askP s p j)) c)
  | [], _, hc => hc
  | k :: ks, c, hc => foldP_ok hs hp ks _ (joinP_ok hc (askP_ok hs hp k))
theorem rowP_ok {n : Nat} {s : Int} {p : Pr} (hs : 0 ≤ s) (hp : POk n s p) : ∀ ks : List Nat, POk n s (rowP s p ks)
  | [] => hp
  | k :: ks => foldP_ok hs hp ks _ (askP_ok hs hp k)
theorem joinP_mono {p q p' q' : Pr} {n : Nat} {s : Int} (h : PLe p p') (k : PLe q q') (a : POk n s p') (b : POk n s q') : PLe (joinP p q) (joinP p' q') :=
  joinP_lub (h.trans (joinP_l a b)) (k.trans (joinP_r a b))
theorem foldP_mono {n : Nat} {s : Int} {p q : Pr} (hs : 0 ≤ s) (hp : POk n s p) (hq : POk n s q) (h : PLe p q) : ∀ (ks : List Nat) (c d : Pr), POk n s c → POk n s d → PLe c d → PLe (ks.foldl (fun c j => joinP c (askP s p j)) c) (ks.foldl (fun c j => joinP c (askP s q j)) d)
  | [], _, _, _, _, l => l
  | k :: ks, c, d, hc, hd, l => foldP_mono hs hp hq h ks _ _ (joinP_ok hc (askP_ok hs hp k)) (joinP_ok hd (askP_ok hs hq k)) (joinP_mono l (askP_mono hp h k) hd (askP_ok hs hq k))
theorem rowP_mono {n : Nat} {s : Int} {p q : Pr} (hs : 0 ≤ s) (hp : POk n s p) (hq : POk n s q) (h : PLe p q) : ∀ ks : List Nat, PLe (rowP s p ks) (rowP s q ks)
  | [] => h
  | k :: ks => foldP_mono hs hp hq h ks _ _ (askP_ok hs hp k) (askP_ok hs hq k) (askP_mono hp h k)
/-! what is left to rise -/
def potA (s : Int) (a : List Int) : Nat := (a.map fun x => (s - x).toNat).sum
def potB (b : List Int) : Nat := (b.map Int.toNat).sum
def potP (s : Int) (p : Pr) : Nat := potA s p.1 + potB p.2
theorem potA_max {s : Int} : ∀ {a c : List Int}, a.length = c.length → (∀ x ∈ c, x ≤ s) → potA s (List.zipWith max a c) ≤ potA s a ∧ (potA s (List.zipWith max a c) = potA s a → List.zipWith max a c = a)
  | [], [], _, _ => ⟨Nat.le_refl _, fun _ => rfl⟩
  | x :: a, y :: c, h, l => by
    have ih := potA_max (a := a) (c := c) (by simpa using h) fun z hz => l z (List.mem_cons_of_mem _ hz)
    have := l y List.mem_cons_self
    have e1 : potA s (List.zipWith max (x :: a) (y :: c)) = (s - max x y).toNat + potA s (List.zipWith max a c) := rfl
    have e2 : potA s (x :: a) = (s - x).toNat + potA s a := rfl
    rw [e1, e2]
    refine ⟨by omega, fun z => ?_⟩
    rw [List.zipWith_cons_cons, ih.2 (by omega)]
    congr 1
    omega
  | [], _ :: _, h, _ => by cases h
  | _ :: _, [], h, _ => by cases h
theorem potB_min : ∀ {a c : List Int}, a.length = c.length → (∀ x ∈ c, 0 ≤ x) → potB (List.zipWith min a c) ≤ potB a ∧ (potB (List.zipWith min a c) = potB a → (∀ x ∈ a, 0 ≤ x) → List.zipWith min a c = a)
  | [], [], _, _ => ⟨Nat.le_refl _, fun _ _ => rfl⟩
  | x :: a, y :: c, h, l => by
    have ih := potB_min (a := a) (c := c) (by simpa using h) fun z hz => l z (List.mem_cons_of_mem _ hz)
    have := l y List.mem_cons_self
    have e1 : potB (List.zipWith min (x :: a) (y :: c)) = (min x y).toNat + potB (List.zipWith min a c) := rfl
    have e2 : potB (x :: a) = x.toNat + potB a := rfl
    rw [e1, e2]
    refine ⟨by omega, fun z l2 => ?_⟩
    have := l2 x List.mem_cons_self
    rw [List.zipWith_cons_cons, ih.2 (by omega) fun z hz => l2 z (List.mem_cons_of_mem _ hz)]
    congr 1
    omega
  | [], _ :: _, h, _ => by cases h
  | _ :: _, [], h, _ => by cases h
theorem pot_join {n : Nat} {s : Int} {p c : Pr} (hp : POk n s p) (hc : POk n s c) (ne : joinP p c ≠ p) : potP s (joinP p c) < potP s p := by
  have a := potA_max (s := s) (a := p.1) (c := c.1) (by rw [hp.la, hc.la]) fun x hx => (hc.a x hx).2
  have b := potB_min (a := p.2) (c := c.2) (by rw [hp.lb, hc.lb]) fun x hx => (hc.b x hx).1
  have e : potP s (joinP p c) = potA s (List.zipWith max p.1 c.1) + potB (List.zipWith min p.2 c.2) := rfl
  have e2 : potP s p = potA s p.1 + potB p.2 := rfl
  rw [e, e2]
  by_cases h1 : potA s (List.zipWith max p.1 c.1) = potA s p.1
  · by_cases h2 : potB (List.zipWith min p.2 c.2) = potB p.2
    · exact absurd (Prod.ext (a.2 h1) (b.2 h2 fun x hx => (hp.b x hx).1)) ne
    · omega
  · omega
theorem sum_bd {s : Int} {f : Int → Nat} : ∀ {a : List Int}, (∀ x ∈ a, f x ≤ s.toNat) → (a.map f).sum ≤ a.length * s.toNat
  | [], _ => by simp
  | x :: a, h => by
    have ih := sum_bd (a := a) fun y hy => h y (List.mem_cons_of_mem _ hy)
    have := h x List.mem_cons_self
    rw [List.map_cons, List.sum_cons, List.length_cons, Nat.add_mul]
    omega
theorem pot_bd {n : Nat} {s : Int} {p : Pr} (hp : POk n s p) : potP s p ≤ 2 * (n * s.toNat) := by
  have a := sum_bd (s := s) (f := fun x => (s - x).toNat) (a := p.1) fun x hx => by have := hp.a x hx; omega
  have b := sum_bd (s := s) (f := Int.toNat) (a := p.2) fun x hx => by have := hp.b x hx; omega
  rw [hp.la] at a
  rw [hp.lb] at b
  unfold potP potA potB
  omega
/-! tables -/
abbrev Tb := List (Option Pr)
def pot1 (n : Nat) (s : Int) : Option Pr → Nat
  | none => 2 * (n * s.toNat) + 1
  | some p => potP s p
def pot (n : Nat) (s : Int) (X : Tb) : Nat := (X.map (pot1 n s)).sum
def riseO (o : Option Pr) (c : Pr) : Pr := match o with
  | none => c
  | some p => joinP p c
theorem sum_set {α : Type} (f : α → Nat) : ∀ (X : List α) (i : Nat) (x y : α), X[i]? = some x → f y < f x → ((X.set i y).map f).sum + 1 ≤ (X.map f).sum
  | [], i, x, y, h, _ => by simp at h
  | z :: X, 0, x, y, h, l => by
    have e : z = x := by simpa using h
    subst e
    simp only [List.set_cons_zero, List.map_cons, List.sum_cons]
    omega
  | z :: X, i + 1, x, y, h, l => by
    have ih := sum_set f X i x y (by simpa using h) l
    simp only [List.set_cons_succ, List.map_cons, List.sum_cons]
    omega
theorem pot_set {n : Nat} {s : Int} {X : Tb} {i : Nat} {o : Option Pr} {c : Pr} (h : X[i]? = some o) (ho : ∀ p, o = some p → POk n s p) (hc : POk n s c) (ne : some (riseO o c) ≠ o) : pot n s (X.set i (some (riseO o c))) + 1 ≤ pot n s X := by
  refine sum_set _ X i o _ h ?_
  cases o with
  | none => exact Nat.lt_succ_of_le (pot_bd hc)
  | some p => exact pot_join (ho p rfl) hc fun z => ne (by rw [show riseO (some p) c = joinP p c from rfl, z])
/-- the rooms' places -/
def plcs (rooms : List Int) (r : Rw) : List Nat := r.1.map fun x => rooms.idxOf x
def comeP (rooms : List Int) (s : Int) (r : Rw) (p : Pr) : Pr := rowP s p (plcs rooms r)
def firstP (n : Nat) (s : Int) : Pr := (List.replicate n s, List.replicate n 0)
theorem firstP_ok {n : Nat} {s : Int} (hs : 0 ≤ s) : POk n s (firstP n s) := by
  refine ⟨List.length_replicate, List.length_replicate, fun x hx => ?_, fun x hx => ?_⟩
  · rw [List.eq_of_mem_replicate hx]
    omega
  · rw [List.eq_of_mem_replicate hx]
    omega
/-- a table for the web -/
structure TOk (n : Nat) (s : Int) (rs : List Rw) (X : Tb) : Prop where
  len : X.length = rs.length
  ok : ∀ (i : Nat) (p : Pr), X[i]? = some (some p) → POk n s p
def TLe (X Y : Tb) : Prop := ∀ (i : Nat) (p : Pr), X[i]? = some (some p) → ∃ q, Y[i]? = some (some q) ∧ PLe p q
theorem TLe.refl (X : Tb) : TLe X X := fun i p h => ⟨p, h, PLe.refl p⟩
theorem TLe.trans {X Y Z : Tb} (h : TLe X Y) (k : TLe Y Z) : TLe X Z := fun i p e => by
  obtain ⟨q, e2, l⟩ := h i p e
  obtain ⟨r, e3, l2⟩ := k i q e2
  exact ⟨r, e3, l.trans l2⟩
/-- what comes of a row is in the table -/
def Kpt (rooms : List Int) (s : Int) (X : Tb) (i : Nat) (r : Rw) : Prop := ∀ p, X[i]? = some (some p) → ∀ t ∈ r.2, ∃ q, X[t.toNat]? = some (some q) ∧ PLe (comeP rooms s r p) q
structure Clo (rooms : List Int) (s : Int) (rs : List Rw) (X : Tb) : Prop where
  tok : TOk rooms.length s rs X
  zero : ∃ q, X[0]? = some (some q) ∧ PLe (firstP rooms.length s) q
  keep : ∀ (i : Nat) (r : Rw), rs[i]? = some r → Kpt rooms s X i r
structure Least (rooms : List Int) (s : Int) (rs : List Rw) (X : Tb) : Prop where
  clo : Clo rooms s rs X
  le : ∀ Y, Clo rooms s rs Y → TLe X Y
theorem Least.one {rooms : List Int} {s : Int} {rs : List Rw} {X Y : Tb} (h : Least rooms s rs X) (k : Least rooms s rs Y) : X = Y := by
  have a := h.le Y k.clo
  have b := k.le X h.clo
  have lx := h.clo.tok.len
  have ly := k.clo.tok.len
  refine List.ext_getElem (by omega) fun i h1 h2 => ?_
  have e1 : X[i]? = some X[i] := List.getElem?_eq_getElem h1
  have e2 : Y[i]? = some Y[i] := List.getElem?_eq_getElem h2
  cases x : X[i] with
  | none =>
    cases y : Y[i] with
    | none => rfl
    | some q =>
      rw [y] at e2
      obtain ⟨p, e3, _⟩ := b i q e2
      rw [e1, x] at e3
      cases e3
  | some p =>
    rw [x] at e1
    obtain ⟨q, e3, l⟩ := a i p e1
    obtain ⟨p2, e4, l2⟩ := b i q e3
    rw [e1] at e4
    injection e4 with e4
    injection e4 with e4
    subst e4
    rw [e2] at e3
    injection e3 with e3
    rw [e3, l.anti l2]
/-- below all closed tables, above the begin -/
structure Low (rooms : List Int) (s : Int) (rs : List Rw) (X : Tb) : Prop where
  tok : TOk rooms.length s rs X
  zero : ∃ q, X[0]? = some (some q) ∧ PLe (firstP rooms.length s) q
  le : ∀ Y, Clo rooms s rs Y → TLe X Y
theorem Low.least {rooms : List Int} {s : Int} {rs : List Rw} {X : Tb} (h : Low rooms s rs X) (k : ∀ (i : Nat) (r : Rw), rs[i]? = some r → Kpt rooms s X i r) : Least rooms s rs X := ⟨⟨h.tok, h.zero, k⟩, h.le⟩
def start0 (rooms : List Int) (s : Int) (rs : List Rw) : Tb := (List.replicate rs.length none).set 0 (some (firstP rooms.length s))
theorem Low.start {rooms : List Int} {s : Int} {rs : List Rw} (hs : 0 ≤ s) (pos : 0 < rs.length) : Low rooms s rs (start0 rooms s rs) := by
  have at0 : (start0 rooms s rs)[0]? = some (some (firstP rooms.length s)) := by
    unfold start0
    rw [List.getElem?_set_self (by rw [List.length_replicate]; exact pos)]
  have only : ∀ (i : Nat) (p : Pr), (start0 rooms s rs)[i]? = some (some p) → i = 0 ∧ p = firstP rooms.length s := by
    intro i p e
    by_cases z : i = 0
    · subst z
      rw [at0] at e
      injection e with e
      injection e with e
      exact ⟨rfl, e.symm⟩
    · unfold start0 at e
      rw [List.getElem?_set_ne (fun x => z x.symm)] at e
      have := List.mem_of_getElem? e
      exact absurd (List.eq_of_mem_replicate this) (by simp)
  refine ⟨⟨by simp [start0], fun i p e => ?_⟩, ⟨_, at0, PLe.refl _⟩, fun Y hY i p e => ?_⟩
  · rw [(only i p e).2]
    exact firstP_ok hs
  · obtain ⟨rfl, rfl⟩ := only i p e
    exact hY.zero
theorem getElem?_set_some {α : Type} {X : List α} {i j : Nat} {x y : α} (h : (X.set i x)[j]? = some y) : (i = j ∧ y = x) ∨ (i ≠ j ∧ X[j]? = some y) := by
  by_cases e : i = j
  · subst e
    by_cases l : i < X.length
    · rw [List.getElem?_set_self l] at h
      injection h with h
      exact .inl ⟨rfl, h.symm⟩
    · rw [List.getElem?_eq_none (by rw [List.length_set]; omega)] at h
      cases h
  · rw [List.getElem?_set_ne e] at h
    exact .inr ⟨e, h⟩
/-- a row rises to what comes there -/
theorem Low.rise {rooms : List Int} {s : Int} {rs : List Rw} {X : Tb} (hs : 0 ≤ s) (h : Low rooms s rs X) {i t : Nat} {r : Rw} {p : Pr} {o : Option Pr} {c : Pr} (ho : X[t]? = some o) (hc : POk rooms.length s c) (le : ∀ Y, Clo rooms s rs Y → ∃ q, Y[t]? = some (some q) ∧ PLe c q) :
    Low rooms s rs (X.set t (some (riseO o c))) ∧ TLe X (X.set t (some (riseO o c))) ∧ ∃ q, (X.set t (some (riseO o c)))[t]? = some (some q) ∧ PLe c q := by
  have lt : t < X.length := (List.getElem?_eq_some_iff.mp ho).1
  have att : (X.set t (some (riseO o c)))[t]? = some (some (riseO o c)) := List.getElem?_set_self lt
  have okr : POk rooms.length s (riseO o c) := by
    cases o with
    | none => exact hc
    | some q => exact joinP_ok (h.tok.ok _ _ ho) hc
  have up : TLe X (X.set t (some (riseO o c))) := by
    intro j q e
    by_cases z : t = j
    · subst z
      rw [ho] at e
      injection e with e
      subst e
      exact ⟨_, att, joinP_l (h.tok.ok _ _ ho) hc⟩
    · exact ⟨q, by rw [List.getElem?_set_ne z]; exact e, PLe.refl q⟩
  have cle : PLe c (riseO o c) := by
    cases o with
    | none => exact PLe.refl c
    | some q => exact joinP_r (h.tok.ok _ _ ho) hc
  refine ⟨⟨⟨by rw [List.length_set]; exact h.tok.len, fun j q e => ?_⟩, ?_, fun Y hY j q e => ?_⟩, up, _, att, cle⟩
  · rcases getElem?_set_some e with ⟨_, e2⟩ | ⟨_, e2⟩
    · injection e2 with e2
      rw [e2]
      exact okr
    · exact h.tok.ok _ _ e2
  · obtain ⟨q, e, l⟩ := h.zero
    obtain ⟨q2, e2, l2⟩ := up 0 q e
    exact ⟨q2, e2, l.trans l2⟩
  · rcases getElem?_set_some e with ⟨rfl, e2⟩ | ⟨_, e2⟩
    · injection e2 with e2
      subst e2
      obtain ⟨q2, e3, l3⟩ := le Y hY
      cases o with
      | none => exact ⟨q2, e3, l3⟩
      | some p0 =>
        obtain ⟨q4, e4, l4⟩ := h.le Y hY t p0 ho
        rw [e3] at e4
        injection e4 with e4
        injection e4 with e4
        subst e4
        exact ⟨q2, e3, joinP_lub l4 l3⟩
    · exact h.le Y hY j q e2
/-- what comes of a row of such a table is in all closed ones -/
theorem Low.come {rooms : List Int} {s : Int} {rs : List Rw} {X : Tb} (hs : 0 ≤ s) (h : Low rooms s rs X) {i : Nat} {r : Rw} {p : Pr} (er : rs[i]? = some r) (ep : X[i]? = some (some p)) : POk rooms.length s (comeP rooms s r p) ∧ ∀ t ∈ r.2, ∀ Y, Clo rooms s rs Y → ∃ q, Y[t.toNat]? = some (some q) ∧ PLe (comeP rooms s r p) q := by
  have okp := h.tok.ok _ _ ep
  refine ⟨rowP_ok hs okp _, fun t ht Y hY => ?_⟩
  obtain ⟨y, ey, ly⟩ := h.le Y hY i p ep
  obtain ⟨q, eq, lq⟩ := hY.keep i r er y ey t ht
  exact ⟨q, eq, (rowP_mono hs okp (hY.tok.ok _ _ ey) ly _).trans lq⟩
/-- it stays where it is: then what comes is there already -/
theorem rise_same {n : Nat} {s : Int} {o : Option Pr} {c : Pr} (ho : ∀ p, o = some p → POk n s p) (hc : POk n s c) (e : some (riseO o c) = o) : ∃ q, o = some q ∧ PLe c q := by
  cases o with
  | none => cases e
  | some p =>
    injection e with e
    refine ⟨p, rfl, ?_⟩
    have := joinP_r (ho p rfl) hc
    rw [show joinP p c = p from e] at this
    exact this
end Su
/-! ### AP: ages behind asks and rows, the program's -/
namespace Su
open PySem PySem.Spec PyProof.Rows L2
/-- a pair of lists of ages -/
def PairAt (H : Hp) (v : V) (p : Pr) : Prop := ∃ t a b, v = .ref t ∧ T2 H t [.ref a, .ref b] ∧ H a = some (.lst (p.1.map V.int)) ∧ H b = some (.lst (p.2.map V.int))
theorem PairAt.same {H H' : Hp} {v : V} {p : Pr} (h : PairAt H v p) (s : Same H H') : PairAt H' v p := by
  obtain ⟨t, a, b, e, ht, ha, hb⟩ := h
  exact ⟨t, a, b, e, ht.same s, s _ _ ha, s _ _ hb⟩
/-- fresh lists -/
def PairN (H0 H : Hp) (v : V) (p : Pr) : Prop := ∃ t a b, v = .ref t ∧ PTup H t [.ref a, .ref b] ∧ H a = some (.lst (p.1.map V.int)) ∧ H b = some (.lst (p.2.map V.int)) ∧ H0 a = none ∧ H0 b = none ∧ a ≠ b
theorem PairN.at {H0 H : Hp} {v : V} {p : Pr} (h : PairN H0 H v p) : PairAt H v p := by
  obtain ⟨t, a, b, e, ht, ha, hb, _⟩ := h
  exact ⟨t, a, b, e, .inl ht, ha, hb⟩
def spFirst : Sp := fun vs H Q _ => ∃ (r : Addr) (ms : List Int) (s : Int), vs = [.ref r, .int s] ∧ H r = some (.lst (ms.map V.int)) ∧ ms.length ≤ 1000 ∧ ∀ v H', Same H H' → PairN H H' v (firstP ms.length s) → Q v H'
def spJoin : Sp := fun vs H Q _ => ∃ (x y : V) (p q : Pr) (n : Nat) (s : Int), vs = [x, y] ∧ PairAt H x p ∧ PairAt H y q ∧ POk n s p ∧ POk n s q ∧ n ≤ 1000 ∧ ∀ v H', Same H H' → PairN H H' v (joinP p q) → Q v H'
def spBAsk : Sp := fun vs H Q _ => ∃ (x : V) (p : Pr) (k : Nat) (n : Nat) (s : Int), vs = [x, .int (k : Nat), .int s] ∧ PairAt H x p ∧ POk n s p ∧ k < n ∧ n ≤ 1000 ∧ s ≤ 1000 ∧ ∀ v H', Same H H' → PairN H H' v (askP s p k) → Q v H'
theorem rep_flat {α : Type} (x : α) : ∀ k : Nat, (List.replicate k [x]).flatten = List.replicate k x
  | 0 => rfl
  | k + 1 => by rw [List.replicate_succ, List.flatten_cons, rep_flat x k]; rfl
theorem rep_ints (k : Nat) (s : Int) : (List.replicate k [V.int s]).flatten = (List.replicate k s).map V.int := by rw [rep_flat, List.map_replicate]
theorem take_map_snoc {α β : Type} (f : α → β) {l : List α} {i : Nat} {x : α} (h : l[i]? = some x) : (l.take (i + 1)).map f = (l.take i).map f ++ [f x] := by
  rw [List.take_add_one, h, List.map_append]
  rfl
theorem zip_take_snoc {f : Int → Int → Int} : ∀ {a b : List Int} {i : Nat} {x y : Int}, a[i]? = some x → b[i]? = some y → (List.zipWith f a b).take (i + 1) = (List.zipWith f a b).take i ++ [f x y] := by
  intro a b i x y hx hy
  rw [List.take_add_one, List.getElem?_zipWith, hx, hy]
  rfl
theorem map_get_int {l : List Int} {i : Nat} {v : V} (h : (l.map V.int)[i]? = some v) : ∃ x, l[i]? = some x ∧ v = .int x := by
  rw [List.getElem?_map] at h
  obtain ⟨x, hx, rfl⟩ := Option.map_eq_some_iff.mp h
  exact ⟨x, hx, rfl⟩
theorem ixN_of {n j : Nat} (h : j < n) : ixN n (j : Int) = some j := by
  unfold ixN
  rw [if_pos (by omega), if_pos (by omega), Int.toNat_natCast]
theorem getD_at {l : List Int} {k : Nat} (h : k < l.length) : l[k]? = some (l.getD k 0) := by
  rw [List.getD_eq_getElem?_getD, List.getElem?_eq_getElem h]
  rfl
theorem sz1000 {n : Nat} (h : n ≤ 1000) : n < sizeLine := by
  rw [sizeLine_eq]
  omega
theorem sc_first_ages : FnScope ["rooms", "size"] ["rooms", "size"] (defScope s_first_ages) := ⟨rfl, rfl, rfl, by decide +kernel, rfl, by decide +kernel, by decide +kernel⟩
theorem sc_joined_ages : FnScope ["one", "other", "age", "than"] ["one", "other"] (defScope s_joined_ages) := ⟨rfl, rfl, rfl, by decide +kernel, rfl, by decide +kernel, by decide +kernel⟩
theorem sc_behind_ask : FnScope ["pair", "place", "size", "aboves", "belows", "age"] ["pair", "place", "size"] (defScope s_behind_ask) := ⟨rfl, rfl, rfl, by decide +kernel, rfl, by decide +kernel, by decide +kernel⟩
section
variable {P : Program} {w : World} {K : PySem.W.Frag} {mg : Str → Option Value} {base : Heap}
theorem ok_first (T : At K mg "first_ages" s_first_ages ["rooms", "size"]) (B : Bt mg) : Cal P w K mg base 1 "first_ages" ["rooms", "size"] spFirst := by
  refine cal_of T sc_first_ages (fun vs H Q E h => ?_) (fun f cdv A outer s H vs Q E hr h => ?_)
  · obtain ⟨r, ms, s, rfl, _⟩ := h
    rfl
  · obtain ⟨r, ms, s, rfl, hm, few, q⟩ := h
    refine ⟨_, (pss_one (ps_ret (pe_tupF (pa_cons (pe_op op_rep (pe_lst (pa_cons (pv 1) pa_nil)) (pe_callB call_len_seq (by rfl) B.len PySem.boot_len (pa_cons (pv 0) pa_nil))) (pa_cons (pe_op op_rep (pe_lst (pa_cons pe_int pa_nil)) (pe_callB call_len_seq (by rfl) B.len PySem.boot_len (pa_cons (pv 0) pa_nil))) pa_nil))))), ?_⟩
    refine ⟨_, rfl, (by show 1 ≤ sizeLine; decide), fun p1 n1 => ?_⟩
    have h1 : (upd H p1 (.lst [V.int s])) r = some (.lst (ms.map V.int)) := same_upd n1 _ _ hm
    refine ⟨_, rfl, r, _, rfl, .inl (SqL.of h1), p1, _, _, rfl, rfl, upd_same, by omega, by rw [List.length_map]; omega, ?_, fun a na => ?_⟩
    · rw [List.length_map]
      show 1 * _ ≤ _
      have := sz1000 few
      omega
    rw [List.length_map, Int.toNat_natCast, rep_ints]
    have s1 : Same H (upd (upd H p1 (.lst [V.int s])) a (.lst ((List.replicate ms.length s).map V.int))) := (same_upd n1).trans (same_upd na)
    refine ⟨(by show 1 ≤ sizeLine; decide), fun p2 n2 => ?_⟩
    have s2 := s1.trans (same_upd (o := .lst [V.int 0]) n2)
    refine ⟨_, rfl, r, _, rfl, .inl (SqL.of (s2 _ _ hm)), p2, _, _, rfl, rfl, upd_same, by omega, by rw [List.length_map]; omega, ?_, fun b nb => ?_⟩
    · rw [List.length_map]
      show 1 * _ ≤ _
      have := sz1000 few
      omega
    rw [List.length_map, Int.toNat_natCast, rep_ints]
    have s3 := s2.trans (same_upd (o := .lst ((List.replicate ms.length 0).map V.int)) nb)
    refine ⟨by show 2 ≤ sizeLine; decide, fun v H' s4 _ pt => q _ H' (s3.trans s4) ⟨v, a, b, rfl, pt, s4 _ _ ?_, s4 _ _ upd_same, (same_upd n1).free na, s2.free nb, ?_⟩⟩
    · exact ((same_upd n2).trans (same_upd nb)) _ _ upd_same
    · exact ne_of_none (((same_upd n2)) _ _ upd_same) nb
theorem ok_joined (T : At K mg "joined_ages" s_joined_ages ["one", "other"]) (B : Bt mg) : Cal P w K mg base 1 "joined_ages" ["one", "other"] spJoin := by
  refine cal_of T sc_joined_ages (fun vs H Q E h => ?_) (fun f cdv A outer s H vs Q E hr h => ?_)
  · obtain ⟨x, y, p, q, n, s, rfl, _⟩ := h
    rfl
  · obtain ⟨x, y, p, q, n, s, rfl, hx, hy, op, oq, few, k⟩ := h
    refine ⟨_, (pss_one (ps_ret (pe_tupF (pa_cons (pe_lc (own := [("age", 2), ("than", 3)]) (g := (gTup K 2 (gCons (gName 2) (gCons (gName 3) gNil)))) (tt := tYes) (te := (tCB rMax2 (tCons (tVar 2) (tCons (tVar 3) tNil)))) (by rfl) sc_joined_ages.nd (RZ.pi_zipA (by rfl) B.zip (pa_cons (pe_ix ix_tup (pv 0) pe_int (fun _ _ => rfl)) (pa_cons (pe_ix ix_tup (pv 1) pe_int (fun _ _ => rfl)) pa_nil))) (blkOk_by (own := [("age", 2), ("than", 3)]) (N := ["one", "other", "age", "than"]) (sc := defScope s_joined_ages) (by decide +kernel)) (fun _ _ _ _ _ => (pg_tup (by rfl) (pgs_cons (pg_name (i := 2) sc_joined_ages.nd rfl (Or.inl rfl)) (pgs_cons (pg_name (i := 3) sc_joined_ages.nd rfl (Or.inl rfl)) pgs_nil)))) (fun _ _ _ _ _ => pts_nil) (fun _ _ _ _ _ => (pe_callB (call_max2 rfl) (by rfl) B.max (by decide +kernel) (pa_cons (pv 2) (pa_cons (pv 3) pa_nil))))) (pa_cons (pe_lc (own := [("age", 2), ("than", 3)]) (g := (gTup K 2 (gCons (gName 2) (gCons (gName 3) gNil)))) (tt := tYes) (te := (tCB rMin2 (tCons (tVar 2) (tCons (tVar 3) tNil)))) (by rfl) sc_joined_ages.nd (RZ.pi_zipA (by rfl) B.zip (pa_cons (pe_ix ix_tup (pv 0) pe_int (fun _ _ => rfl)) (pa_cons (pe_ix ix_tup (pv 1) pe_int (fun _ _ => rfl)) pa_nil))) (blkOk_by (own := [("age", 2), ("than", 3)]) (N := ["one", "other", "age", "than"]) (sc := defScope s_joined_ages) (by decide +kernel)) (fun _ _ _ _ _ => (pg_tup (by rfl) (pgs_cons (pg_name (i := 2) sc_joined_ages.nd rfl (Or.inl rfl)) (pgs_cons (pg_name (i := 3) sc_joined_ages.nd rfl (Or.inl rfl)) pgs_nil)))) (fun _ _ _ _ _ => pts_nil) (fun _ _ _ _ _ => (pe_callB (call_min2 rfl) (by rfl) B.min (by decide +kernel) (pa_cons (pv 2) (pa_cons (pv 3) pa_nil))))) pa_nil))))), ?_⟩
    obtain ⟨t1, a1, b1, rfl, ht1, ha1, hb1⟩ := hx
    obtain ⟨t2, a2, b2, rfl, ht2, ha2, hb2⟩ := hy
    refine ⟨_, rfl, t1, _, _, _, rfl, rfl, ht1.sq, atI_nat (j := 0) rfl, _, rfl, t2, _, _, _, rfl, rfl, ht2.sq, atI_nat (j := 0) rfl, a1, a2, _, _, rfl, .inl ⟨SqL.of ha1, SqL.of ha2, fun D nD => ?_⟩⟩
    refine lc_zipLL (K := K) (a := a1) (b := a2) (xs := p.1.map V.int) (ys := q.1.map V.int) (by rw [List.length_map, List.length_map, op.la, oq.la]) (fun i H2 => Same H H2 ∧ H2 D = some (.lst (((List.zipWith max p.1 q.1).take i).map V.int))) ?_ ?_ ?_ ?_
    · exact ⟨same_upd nD, upd_same⟩
    · rintro i H2 _ ⟨s2, _⟩
      exact ⟨SqL.of (s2 _ _ ha1), SqL.of (s2 _ _ ha2)⟩
    · rintro i vx vy T H2 hvx hvy ⟨s2, hD⟩ nT
      obtain ⟨i1, e1, rfl⟩ := map_get_int hvx
      obtain ⟨i2, e2, rfl⟩ := map_get_int hvy
      refine ⟨T, _, rfl, .inl (.inl upd_same), rfl, _, _, rfl, _, _, rfl, rfl, rfl, tyes ?_⟩
      refine ⟨_, rfl, _, rfl, _, _, rfl, _, (by rw [upd_ne (ne_of_none hD nT)]; exact hD), ?_, ?_⟩
      · rw [List.length_map]
        exact sz1000 (Nat.le_trans (List.length_take_le' _ _) (by rw [List.length_zipWith, op.la]; omega))
      · refine ⟨fun c o ec => ?_, ?_⟩
        · rw [upd_ne (ne_of_none ec nD)]
          exact (s2.trans (same_upd nT)) _ _ ec
        · rw [upd_same, zip_take_snoc e1 e2, List.map_append]
          have e : (if i2 > i1 then i2 else i1) = max i1 i2 := by split <;> omega
          rw [e]
          rfl
    · rintro H2 ⟨s2, hD⟩
      rw [List.length_map, List.take_of_length_le (by rw [List.length_zipWith]; omega)] at hD
      refine ⟨_, rfl, t1, _, _, _, rfl, rfl, (ht1.same s2).sq, atI_nat (j := 1) rfl, _, rfl, t2, _, _, _, rfl, rfl, (ht2.same s2).sq, atI_nat (j := 1) rfl, b1, b2, _, _, rfl, .inl ⟨SqL.of (s2 _ _ hb1), SqL.of (s2 _ _ hb2), fun D2 nD2 => ?_⟩⟩
      refine lc_zipLL (K := K) (a := b1) (b := b2) (xs := p.2.map V.int) (ys := q.2.map V.int) (by rw [List.length_map, List.length_map, op.lb, oq.lb]) (fun i H3 => Same H2 H3 ∧ H3 D2 = some (.lst (((List.zipWith min p.2 q.2).take i).map V.int))) ?_ ?_ ?_ ?_
      · exact ⟨same_upd nD2, upd_same⟩
      · rintro i H3 _ ⟨s3, _⟩
        exact ⟨SqL.of (s3 _ _ (s2 _ _ hb1)), SqL.of (s3 _ _ (s2 _ _ hb2))⟩
      · rintro i vx vy T H3 hvx hvy ⟨s3, hD3⟩ nT
        obtain ⟨i1, e1, rfl⟩ := map_get_int hvx
        obtain ⟨i2, e2, rfl⟩ := map_get_int hvy
        refine ⟨T, _, rfl, .inl (.inl upd_same), rfl, _, _, rfl, _, _, rfl, rfl, rfl, tyes ?_⟩
        refine ⟨_, rfl, _, rfl, _, _, rfl, _, (by rw [upd_ne (ne_of_none hD3 nT)]; exact hD3), ?_, ?_⟩
        · rw [List.length_map]
          exact sz1000 (Nat.le_trans (List.length_take_le' _ _) (by rw [List.length_zipWith, op.lb]; omega))
        · refine ⟨fun c o ec => ?_, ?_⟩
          · rw [upd_ne (ne_of_none ec nD2)]
            exact (s3.trans (same_upd nT)) _ _ ec
          · rw [upd_same, zip_take_snoc e1 e2, List.map_append]
            have e : (if i2 < i1 then i2 else i1) = min i1 i2 := by split <;> omega
            rw [e]
            rfl
      · rintro H3 ⟨s3, hD3⟩
        rw [List.length_map, List.take_of_length_le (by rw [List.length_zipWith]; omega)] at hD3
        refine ⟨by show 2 ≤ sizeLine; decide, fun v H' s4 _ pt => k _ H' ((s2.trans s3).trans s4) ⟨v, D, D2, rfl, pt, s4 _ _ (s3 _ _ hD), s4 _ _ hD3, nD, s2.free nD2, ne_of_none hD nD2⟩⟩
theorem ok_bask (T : At K mg "behind_ask" s_behind_ask ["pair", "place", "size"]) (B : Bt mg) : Cal P w K mg base 1 "behind_ask" ["pair", "place", "size"] spBAsk := by
  refine cal_of T sc_behind_ask (fun vs H Q E h => ?_) (fun f cdv A outer s H vs Q E hr h => ?_)
  · obtain ⟨x, p, k, n, s, rfl, _⟩ := h
    rfl
  · obtain ⟨x, p, k, n, s, rfl, hx, op, kn, few, s1, q⟩ := h
    refine ⟨_, (pss_cons (ps_setLc (i := 3) (own := [("age", 5)]) (g := (gName 5)) (tt := tYes) (te := (tIf (tTest (tOp (rI0 fun i j => .bl (decide (i < j))) (tVar 5) (tOp (rIxL K) (tOp (rIxT K) (tVar 0) (tC (.int 0))) (tVar 1)))) (tOp (rI0 fun i j => .int (i + j)) (tVar 5) (tC (.int 1))) (tVar 5))) (by rfl) sc_behind_ask.nd rfl rfl (sw_true rfl rfl rfl (by decide +kernel)) (pi_list (pe_ix ix_tup (pv 0) pe_int (fun _ _ => rfl))) (blkOk_by (own := [("age", 5)]) (N := ["pair", "place", "size", "aboves", "belows", "age"]) (sc := defScope s_behind_ask) (by decide +kernel)) (fun _ _ _ _ _ => (pg_name (i := 5) sc_behind_ask.nd rfl (Or.inl rfl))) (fun _ _ _ _ _ => pts_nil) (fun _ _ _ _ _ => (pe_ifExp (pt_cmpR op_lt (pv 5) (pe_ix ix_list (pe_ix ix_tup (pv 0) pe_int (fun _ _ => rfl)) (pv 1) (fun _ _ => rfl)) (nomark _)) (pe_op op_add (pv 5) pe_int) (pv 5))))
      (pss_cons (ps_setLc (i := 4) (own := [("age", 5)]) (g := (gName 5)) (tt := tYes) (te := (tIf (tTest (tOp (rI0 fun i j => .bl (decide (i ≤ j))) (tVar 5) (tOp (rIxL K) (tOp (rIxT K) (tVar 0) (tC (.int 1))) (tVar 1)))) (tCB rMin2 (tCons (tVar 2) (tCons (tOp (rI0 fun i j => .int (i + j)) (tVar 5) (tC (.int 1))) tNil))) (tVar 5))) (by rfl) sc_behind_ask.nd rfl rfl (sw_true rfl rfl rfl (by decide +kernel)) (pi_list (pe_ix ix_tup (pv 0) pe_int (fun _ _ => rfl))) (blkOk_by (own := [("age", 5)]) (N := ["pair", "place", "size", "aboves", "belows", "age"]) (sc := defScope s_behind_ask) (by decide +kernel)) (fun _ _ _ _ _ => (pg_name (i := 5) sc_behind_ask.nd rfl (Or.inl rfl))) (fun _ _ _ _ _ => pts_nil) (fun _ _ _ _ _ => (pe_ifExp (pt_cmpR op_le (pv 5) (pe_ix ix_list (pe_ix ix_tup (pv 0) pe_int (fun _ _ => rfl)) (pv 1) (fun _ _ => rfl)) (nomark _)) (pe_callB (call_min2 rfl) (by rfl) B.min (by decide +kernel) (pa_cons (pv 2) (pa_cons (pe_op op_add (pv 5) pe_int) pa_nil))) (pv 5))))
      (pss_cons (ps_asg pe_int (pg_sub (pv 3) (pv 1) set_list))
      (pss_cons (ps_asg pe_int (pg_sub (pv 4) (pv 1) set_list))
      (pss_one (ps_ret (pe_tupF (pa_cons (pv 3) (pa_cons (pv 4) pa_nil))))))))), ?_⟩
    obtain ⟨t1, a1, b1, rfl, ht1, ha1, hb1⟩ := hx
    have kl : k < p.1.length := by rw [op.la]; exact kn
    have kl2 : k < p.2.length := by rw [op.lb]; exact kn
    refine ⟨_, rfl, t1, _, _, _, rfl, rfl, ht1.sq, atI_nat (j := 0) rfl, a1, rfl, ⟨_, SqL.of ha1⟩, fun D nD => ?_⟩
    refine lc_list (K := K) (a := a1) (xs := p.1.map V.int) (fun i H2 => Same H H2 ∧ H2 D = some (.lst (((p.1.take i).map fun x => if x < p.1.getD k 0 then x + 1 else x).map V.int))) ?_ ?_ ?_ ?_
    · exact ⟨same_upd nD, upd_same⟩
    · rintro i H2 _ ⟨s2, _⟩
      exact SqL.of (s2 _ _ ha1)
    · rintro i v H2 hv ⟨s2, hD⟩
      obtain ⟨x, ex, rfl⟩ := map_get_int hv
      refine ⟨rfl, tyes ?_⟩
      refine ⟨_, rfl, _, rfl, t1, _, _, _, rfl, rfl, (ht1.same s2).sq, atI_nat (j := 0) rfl, _, rfl, a1, _, _, _, rfl, rfl, SqL.of (s2 _ _ ha1), atI_nat (j := k) (by rw [List.getElem?_map, getD_at kl]; rfl), _, _, rfl, rfl, _, rfl, ?_⟩
      have fin : ∀ y : Int, y = (if x < p.1.getD k 0 then x + 1 else x) → ∃ acc, H2 D = some (.lst acc) ∧ acc.length < sizeLine ∧ Same H (upd H2 D (.lst (acc ++ [V.int y]))) ∧ (upd H2 D (.lst (acc ++ [V.int y]))) D = some (.lst (((p.1.take (i + 1)).map fun x => if x < p.1.getD k 0 then x + 1 else x).map V.int)) := by
        rintro y rfl
        refine ⟨_, hD, ?_, fun c o ec => ?_, ?_⟩
        · rw [List.length_map, List.length_map]
          exact sz1000 (Nat.le_trans (List.length_take_le' _ _) (by rw [op.la]; exact few))
        · rw [upd_ne (ne_of_none ec nD)]
          exact s2 _ _ ec
        · rw [upd_same, take_map_snoc _ ex, List.map_append]
          rfl
      refine iteB (fun z => ?_) (fun z => ?_)
      · have z := of_decide_eq_true z
        exact ⟨_, rfl, _, _, rfl, rfl, fin _ (by rw [if_pos z])⟩
      · have z := of_decide_eq_false z
        exact ⟨_, rfl, fin _ (by rw [if_neg z])⟩
    · rintro H2 ⟨s2, hD⟩
      rw [List.length_map, List.take_length] at hD
      refine ⟨_, rfl, t1, _, _, _, rfl, rfl, (ht1.same s2).sq, atI_nat (j := 1) rfl, b1, rfl, ⟨_, SqL.of (s2 _ _ hb1)⟩, fun D2 nD2 => ?_⟩
      have eD : D ≠ D2 := ne_of_none hD nD2
      refine lc_list (K := K) (a := b1) (xs := p.2.map V.int) (fun i H3 => Same H2 H3 ∧ H3 D2 = some (.lst (((p.2.take i).map fun x => if x ≤ p.2.getD k 0 then min s (x + 1) else x).map V.int))) ?_ ?_ ?_ ?_
      · exact ⟨same_upd nD2, upd_same⟩
      · rintro i H3 _ ⟨s3, _⟩
        exact SqL.of (s3 _ _ (s2 _ _ hb1))
      · rintro i v H3 hv ⟨s3, hD3⟩
        obtain ⟨x, ex, rfl⟩ := map_get_int hv
        refine ⟨rfl, tyes ?_⟩
        refine ⟨_, rfl, _, rfl, t1, _, _, _, rfl, rfl, (ht1.same (s2.trans s3)).sq, atI_nat (j := 1) rfl, _, rfl, b1, _, _, _, rfl, rfl, SqL.of (s3 _ _ (s2 _ _ hb1)), atI_nat (j := k) (by rw [List.getElem?_map, getD_at kl2]; rfl), _, _, rfl, rfl, _, rfl, ?_⟩
        have fin : ∀ y : Int, y = (if x ≤ p.2.getD k 0 then min s (x + 1) else x) → ∃ acc, H3 D2 = some (.lst acc) ∧ acc.length < sizeLine ∧ Same H2 (upd H3 D2 (.lst (acc ++ [V.int y]))) ∧ (upd H3 D2 (.lst (acc ++ [V.int y]))) D2 = some (.lst (((p.2.take (i + 1)).map fun x => if x ≤ p.2.getD k 0 then min s (x + 1) else x).map V.int)) := by
          rintro y rfl
          refine ⟨_, hD3, ?_, fun c o ec => ?_, ?_⟩
          · rw [List.length_map, List.length_map]
            exact sz1000 (Nat.le_trans (List.length_take_le' _ _) (by rw [op.lb]; exact few))
          · rw [upd_ne (ne_of_none ec nD2)]
            exact s3 _ _ ec
          · rw [upd_same, take_map_snoc _ ex, List.map_append]
            rfl
        refine iteB (fun z => ?_) (fun z => ?_)
        · have z := of_decide_eq_true z
          refine ⟨_, rfl, _, rfl, _, _, rfl, rfl, _, _, rfl, fin _ ?_⟩
          rw [if_pos z]
          split <;> omega
        · have z := of_decide_eq_false z
          exact ⟨_, rfl, fin _ (by rw [if_neg z])⟩
      · rintro H3 ⟨s3, hD3⟩
        rw [List.length_map, List.take_length] at hD3
        have hD4 := s3 _ _ hD
        refine ⟨_, rfl, _, rfl, D, _, _, _, rfl, rfl, hD4, ixN_of (by rw [List.length_map, List.length_map]; exact kl), ?_⟩
        refine ⟨_, rfl, _, rfl, D2, _, _, _, rfl, rfl, (by rw [upd_ne eD.symm]; exact hD3), ixN_of (by rw [List.length_map, List.length_map]; exact kl2), ?_⟩
        refine ⟨_, rfl, _, rfl, by show 2 ≤ sizeLine; decide, fun v H' s4 _ pt => q _ H' ((fun c o ec => ?_)) ⟨v, D, D2, rfl, pt, s4 _ _ ?_, s4 _ _ ?_, nD, s2.free nD2, eD⟩⟩
        · refine s4 _ _ ?_
          rw [upd_ne (ne_of_none ec (s2.free nD2)), upd_ne (ne_of_none ec nD)]
          exact s3 _ _ (s2 _ _ ec)
        · rw [upd_ne eD, upd_same]
          show some (HO.lst (List.set _ k (V.int 0))) = _
          rw [← List.map_set]
          rfl
        · rw [upd_same]
          show some (HO.lst (List.set _ k (V.int 0))) = _
          rw [← List.map_set]
          rfl
end
end Su
/-! ### TX: what is shown of data is a text of code points -/
namespace Su
open PySem PySem.Spec PyProof.Rows L2
theorem sok_app {a b : Str} (h1 : PyData.strOk a = true) (h2 : PyData.strOk b = true) : PyData.strOk (a ++ b) = true := by
  show (a.cps ++ b.cps).all _ = true
  rw [Array.all_append, Bool.and_eq_true]
  exact ⟨h1, h2⟩
theorem sok_of (s : String) : PyData.strOk (Str.ofString s) = true := by
  unfold PyData.strOk
  rw [Str.ofString_eq_toList, List.all_toArray, List.all_eq_true]
  intro c hc
  obtain ⟨d, _, rfl⟩ := List.mem_map.mp hc
  rw [decide_eq_true_eq]
  have := d.valid
  unfold UInt32.isValidChar Nat.isValidChar at this
  show d.val.toNat < _
  omega
theorem sok_from : ∀ (ts : List Str) (k : Nat) (acc : Str), PyData.strOk acc = true → (∀ t ∈ ts, PyData.strOk t = true) → PyData.strOk (textFrom k acc ts) = true
  | [], _, _, h, _ => h
  | t :: ts, k, acc, h, ht => sok_from ts (k + 1) _ (sok_app (sok_app h (sok_of _)) (ht t List.mem_cons_self)) fun x hx => ht x (List.mem_cons_of_mem _ hx)
theorem sok_list {ts : List Str} (h : ∀ t ∈ ts, PyData.strOk t = true) : PyData.strOk (listText ts) = true := sok_app (sok_from ts 0 _ (sok_of _) h) (sok_of _)
theorem sok_join (sep : Str) (hs : PyData.strOk sep = true) : ∀ (ts : List Str), (∀ t ∈ ts, PyData.strOk t = true) → PyData.strOk (Str.join sep ts) = true
  | [], _ => by show PyData.strOk Str.empty = true; decide +kernel
  | [x], h => h x List.mem_cons_self
  | x :: y :: r, h => sok_app (sok_app (h x List.mem_cons_self) hs) (sok_join sep hs (y :: r) fun t ht => h t (List.mem_cons_of_mem _ ht))
theorem sok_tuple {ts : List Str} (h : ∀ t ∈ ts, PyData.strOk t = true) : PyData.strOk (tupleText ts) = true := sok_app (sok_app (sok_of _) (sok_join _ (sok_of _) ts h)) (sok_of _)
mutual
/-- no text in it, no dict -/
def noStr : PyData → Bool
  | .str _ => false
  | .dict _ => false
  | .list xs => noStrs xs
  | .tuple xs => noStrs xs
  | _ => true
def noStrs : List PyData → Bool
  | [] => true
  | d :: ds => noStr d && noStrs ds
end
mutual
theorem sok_shown : ∀ d : PyData, noStr d = true → PyData.strOk d.shown = true
  | .none, _ => by simp only [PyData.shown]; exact sok_of _
  | .bool b, _ => by cases b <;> simp only [PyData.shown] <;> exact sok_of _
  | .int i, _ => by simp only [PyData.shown]; exact sok_of _
  | .list xs, h => by simp only [PyData.shown]; exact sok_list (sok_all xs (by simpa only [noStr] using h))
  | .tuple xs, h => by simp only [PyData.shown]; exact sok_tuple (sok_all xs (by simpa only [noStr] using h))
  | .str _, h => by simp [noStr] at h
  | .dict _, h => by simp [noStr] at h
theorem sok_all : ∀ ds : List PyData, noStrs ds = true → ∀ t ∈ PyData.shownAll ds, PyData.strOk t = true
  | [], _, t, ht => by simp [PyData.shownAll] at ht
  | d :: ds, h, t, ht => by
    simp only [noStrs, Bool.and_eq_true] at h
    simp only [PyData.shownAll, List.mem_cons] at ht
    rcases ht with rfl | ht
    · exact sok_shown d h.1
    · exact sok_all ds h.2 t ht
end
theorem noStrs_all : ∀ ds : List PyData, noStrs ds = ds.all noStr
  | [] => rfl
  | d :: ds => by simp only [noStrs, List.all_cons, noStrs_all ds]
theorem noStr_ints (ns : List Int) : noStr (.tuple (ns.map PyData.int)) = true := by
  simp only [noStr, noStrs_all, List.all_eq_true]
  intro d hd
  obtain ⟨i, _, rfl⟩ := List.mem_map.mp hd
  simp only [noStr]
theorem noStr_web (rs : List Rw) : noStr (webD rs) = true := by
  simp only [webD, noStr, noStrs_all, List.all_eq_true]
  intro d hd
  obtain ⟨r, _, rfl⟩ := List.mem_map.mp hd
  unfold rowD
  simp only [noStr, noStrs, Bool.and_true, Bool.and_eq_true]
  exact ⟨by simpa only [noStr] using noStr_ints r.1, by simpa only [noStr] using noStr_ints r.2⟩
end Su
/-! ### TX2: repr of a text, and texts joined, are texts of code points -/
namespace Su
open PySem PySem.Spec PyProof.Rows L2
theorem cp_lt (c : Char) : c.toNat < 0x110000 := by
  have := c.valid
  unfold UInt32.isValidChar Nat.isValidChar at this
  show c.val.toNat < _
  omega
theorem rc_ok {q c : Nat} (hq : q < 0x110000) (hc : c < 0x110000) : ∀ x ∈ Builtin.Str.reprChar q c, x < 0x110000 := by
  have dg : ∀ (w : Nat), ∀ x ∈ (List.replicate (w - ((Nat.toDigits 16 c).map Char.toNat).length) 48 ++ (Nat.toDigits 16 c).map Char.toNat), x < 0x110000 := by
    intro w x hx
    rcases List.mem_append.mp hx with h | h
    · rw [(List.mem_replicate.mp h).2]
      decide
    · obtain ⟨d, _, rfl⟩ := List.mem_map.mp h
      exact cp_lt d
  intro x hx
  unfold Builtin.Str.reprChar at hx
  simp only at hx
  repeat' split at hx
  all_goals first
    | (simp only [List.mem_cons, List.not_mem_nil, or_false] at hx; rcases hx with rfl | rfl <;> first | assumption | decide)
    | (simp only [List.mem_cons, List.not_mem_nil, or_false] at hx; subst hx; assumption)
    | (rcases List.mem_append.mp hx with h | h
       · simp only [List.mem_cons, List.not_mem_nil, or_false] at h
         rcases h with rfl | rfl <;> decide
       · exact dg _ x h)
theorem fold_ok {f : Nat → List Nat} (hf : ∀ c, c < 0x110000 → ∀ x ∈ f c, x < 0x110000) : ∀ (l : List Nat) (acc : Array Nat), (∀ c ∈ l, c < 0x110000) → (acc.all (· < 0x110000)) = true → ((l.foldl (fun out c => out ++ (f c).toArray) acc).all (· < 0x110000)) = true
  | [], acc, _, h => h
  | c :: l, acc, hl, h => by
    rw [List.foldl_cons]
    refine fold_ok hf l _ (fun x hx => hl x (List.mem_cons_of_mem _ hx)) ?_
    rw [Array.all_append, Bool.and_eq_true]
    refine ⟨h, ?_⟩
    rw [List.all_toArray, List.all_eq_true]
    intro x hx
    exact decide_eq_true (hf c (hl c List.mem_cons_self) x hx)
theorem sok_repr {x : Str} (h : PyData.strOk x = true) : PyData.strOk (reprText x) = true := by
  have hq : reprQuote x < 0x110000 := by
    unfold reprQuote
    split <;> decide
  have hx : ∀ c ∈ x.cps.toList, c < 0x110000 := by
    intro c hc
    have h2 : x.cps.all (· < 0x110000) = true := h
    rw [← Array.all_toList, List.all_eq_true] at h2
    exact of_decide_eq_true (h2 c hc)
  show (((x.cps.foldl (fun out c => out ++ (Builtin.Str.reprChar (reprQuote x) c).toArray) #[reprQuote x]).push (reprQuote x)).all (· < 0x110000)) = true
  rw [Array.all_push, Bool.and_eq_true, ← Array.foldl_toList]
  refine ⟨fold_ok (fun c hc => rc_ok hq hc) _ _ hx ?_, decide_eq_true hq⟩
  rw [List.all_toArray, List.all_eq_true]
  intro c hc
  rw [List.mem_singleton.mp hc]
  exact decide_eq_true hq
theorem sok_glued {sep : Str} (hs : PyData.strOk sep = true) {ts : List Str} (h : ∀ t ∈ ts, PyData.strOk t = true) : PyData.strOk (Txt.join sep ts) = true := by
  have go : ∀ (l : List Str) (acc : Array Nat), (∀ t ∈ l, PyData.strOk t = true) → acc.all (· < 0x110000) = true → (l.foldl (fun acc p => acc ++ sep.cps ++ p.cps) acc).all (· < 0x110000) = true := by
    intro l
    induction l with
    | nil => exact fun acc _ h => h
    | cons t l ih =>
      intro acc hl ha
      rw [List.foldl_cons]
      refine ih _ (fun x hx => hl x (List.mem_cons_of_mem _ hx)) ?_
      rw [Array.all_append, Array.all_append, Bool.and_eq_true, Bool.and_eq_true]
      exact ⟨⟨ha, hs⟩, hl t List.mem_cons_self⟩
  show ((ts.drop 1).foldl (fun acc p => acc ++ sep.cps ++ p.cps) (ts.headD Str.empty).cps).all (· < 0x110000) = true
  refine go _ _ (fun t ht => h t (List.mem_of_mem_drop ht)) ?_
  cases ts with
  | nil => decide +kernel
  | cons t ts => exact h t List.mem_cons_self
mutual
/-- all texts in it are of code points, no dict -/
def okStr : PyData → Bool
  | .str x => PyData.strOk x
  | .dict _ => false
  | .list xs => okStrs xs
  | .tuple xs => okStrs xs
  | _ => true
def okStrs : List PyData → Bool
  | [] => true
  | d :: ds => okStr d && okStrs ds
end
mutual
theorem sok_shownS : ∀ d : PyData, okStr d = true → PyData.strOk d.shown = true
  | .none, _ => by simp only [PyData.shown]; exact sok_of _
  | .bool b, _ => by cases b <;> simp only [PyData.shown] <;> exact sok_of _
  | .int i, _ => by simp only [PyData.shown]; exact sok_of _
  | .list xs, h => by simp only [PyData.shown]; exact sok_list (sok_allS xs (by simpa only [okStr] using h))
  | .tuple xs, h => by simp only [PyData.shown]; exact sok_tuple (sok_allS xs (by simpa only [okStr] using h))
  | .str x, h => by simp only [PyData.shown]; exact sok_repr (by simpa only [okStr] using h)
  | .dict _, h => by simp [okStr] at h
theorem sok_allS : ∀ ds : List PyData, okStrs ds = true → ∀ t ∈ PyData.shownAll ds, PyData.strOk t = true
  | [], _, t, ht => by simp [PyData.shownAll] at ht
  | d :: ds, h, t, ht => by
    simp only [okStrs, Bool.and_eq_true] at h
    simp only [PyData.shownAll, List.mem_cons] at ht
    rcases ht with rfl | ht
    · exact sok_shownS d h.1
    · exact sok_allS ds h.2 t ht
end
theorem Fine.str {x : Str} {m : Nat} (h : PyData.strOk x = true) (hl : x.length ≤ m) : Fine (.str x) 0 m := by
  refine ⟨by simp [PyData.showable], by simp [PyData.hasDict], by simp [PyData.depth], ?_, ?_, ?_⟩
  · simp only [PyData.leavesShort]
    have h2 : x.cps.all (· < 0x110000) = true := h
    rw [← Array.all_toList, List.all_eq_true] at h2
    rw [List.all_eq_true]
    intro c hc
    have := of_decide_eq_true (h2 c hc)
    exact decide_eq_true (Nat.lt_of_lt_of_le this (by decide))
  · simp only [PyData.weight]
    exact hl
  · simp only [PyData.canLay0]
    exact h
theorem eqv_ints : ∀ xs ys : List Int, PyData.eqvAll (xs.map PyData.int) (ys.map PyData.int) = decide (xs = ys)
  | [], [] => by simp [PyData.eqvAll]
  | [], y :: ys => by simp [PyData.eqvAll]
  | x :: xs, [] => by simp [PyData.eqvAll]
  | x :: xs, y :: ys => by
    rw [List.map_cons, List.map_cons, PyData.eqvAll, eqv_ints xs ys, PyData.eqv]
    by_cases e : x = y
    · subst e
      simp
    · rw [show (x == y) = false from beq_eq_false_iff_ne.mpr e, Bool.false_and]
      exact (decide_eq_false fun z => e (List.cons.inj z).1).symm
end Su
/-! ### AQ: ages, the program's -/
namespace Su
open PySem PySem.Spec PyProof.Rows L2
def prD (p : Pr) : PyData := .tuple [.list (p.1.map .int), .list (p.2.map .int)]
def oD : Option Pr → PyData
  | none => .none
  | some p => prD p
def tbD (X : Tb) : PyData := .list (X.map oD)
theorem PairAt.dp {K : PySem.W.Frag} {H : Hp} {v : V} {p : Pr} (h : PairAt H v p) : Dp K H v (prD p) := by
  obtain ⟨t, a, b, rfl, ht, ha, hb⟩ := h
  exact .tup ht.sq (.cons (.lst (SqL.of ha) (dp_intsS _)) (.cons (.lst (SqL.of hb) (dp_intsS _)) .nil))
theorem pr_eqv (p q : Pr) : PyData.eqv (prD p) (prD q) = decide (p = q) := by
  obtain ⟨a, b⟩ := p
  obtain ⟨c, d⟩ := q
  simp only [prD, PyData.eqv, PyData.eqvAll, eqv_ints, Bool.and_true]
  by_cases h1 : a = c <;> by_cases h2 : b = d <;> simp [h1, h2]
theorem o_eqv (x y : Option Pr) : PyData.eqv (oD x) (oD y) = decide (x = y) := by
  cases x with
  | none =>
    cases y with
    | none => simp [oD, PyData.eqv]
    | some q => simp [oD, prD, PyData.eqv]
  | some p =>
    cases y with
    | none => simp [oD, prD, PyData.eqv]
    | some q =>
      show PyData.eqv (prD p) (prD q) = _
      rw [pr_eqv]
      simp
theorem pr_fine {n : Nat} {s : Int} {p : Pr} (h : POk n s p) (hn : n ≤ 12) (hs : s ≤ 1000) : Fine (prD p) 2 1000 := by
  have a : FineL (p.1.map PyData.int) 0 (41 * p.1.length) := FineL.ints _ fun z hz => by have := h.a z hz; omega
  have b : FineL (p.2.map PyData.int) 0 (41 * p.2.length) := FineL.ints _ fun z hz => by have := h.b z hz; omega
  have la := h.la
  have lb := h.lb
  exact (Fine.tuple (FineL.cons (Fine.list a) (FineL.cons (Fine.list b) FineL.nil))).up (by decide) (by omega)
theorem o_fine {n : Nat} {s : Int} {x : Option Pr} (h : ∀ p, x = some p → POk n s p) (hn : n ≤ 12) (hs : s ≤ 1000) : Fine (oD x) 2 1000 := by
  cases x with
  | none => exact Fine.none.up (by decide) (by decide)
  | some p => exact pr_fine (h p rfl) hn hs
theorem tb_fineL {n : Nat} {s : Int} (hn : n ≤ 12) (hs : s ≤ 1000) : ∀ {X : Tb}, (∀ x ∈ X, ∀ p, x = some p → POk n s p) → FineL (X.map oD) 2 (1001 * X.length)
  | [], _ => FineL.nil
  | x :: X, h => by
    have a := FineL.cons (o_fine (h x List.mem_cons_self) hn hs) (tb_fineL hn hs (X := X) fun y hy => h y (List.mem_cons_of_mem _ hy))
    have e : 1000 + 1 + 1001 * X.length = 1001 * (x :: X).length := by rw [List.length_cons]; omega
    rw [e] at a
    exact a
/-- a row of a table -/
def CellAt (H : Hp) (v : V) : Option Pr → Prop
  | none => v = .non
  | some p => PairAt H v p
theorem CellAt.dp {K : PySem.W.Frag} {H : Hp} {v : V} {o : Option Pr} (h : CellAt H v o) : Dp K H v (oD o) := by
  cases o with
  | none =>
    rw [show v = .non from h]
    exact .non
  | some p => exact PairAt.dp h
theorem CellAt.same {H H' : Hp} {v : V} {o : Option Pr} (h : CellAt H v o) (s : Same H H') : CellAt H' v o := by
  cases o with
  | none => exact h
  | some p => exact PairAt.same h s
theorem PTup.updL {H : Hp} {L t : Addr} {xs vs : List V} {o : HO} (h : PTup H t xs) (hL : H L = some (.lst vs)) : PTup (upd H L o) t xs := by
  obtain ⟨ob, e, d⟩ := h
  exact ⟨ob, by rw [upd_ne (fun z => by subst z; rw [hL] at e; cases e)]; exact e, d⟩
/-- a told table, each row's lists its own -/
structure TAt (H0 H : Hp) (L : Addr) (X : Tb) (ad : Nat → Addr × Addr) (own : Addr → Nat × Bool) : Prop where
  ex : ∃ vs : List V, H L = some (.lst vs) ∧ vs.length = X.length ∧ ∀ (i : Nat) (v : V), vs[i]? = some v → (X[i]? = some none ∧ v = .non) ∨ ∃ p t, X[i]? = some (some p) ∧ v = .ref t ∧ PTup H t [.ref (ad i).1, .ref (ad i).2] ∧ H (ad i).1 = some (.lst (p.1.map V.int)) ∧ H (ad i).2 = some (.lst (p.2.map V.int))
  new : ∀ (i : Nat) (p : Pr), X[i]? = some (some p) → H0 (ad i).1 = none ∧ H0 (ad i).2 = none ∧ (ad i).1 ≠ L ∧ (ad i).2 ≠ L ∧ own (ad i).1 = (i, false) ∧ own (ad i).2 = (i, true)
theorem TAt.same {H0 H H' : Hp} {L : Addr} {X : Tb} {ad : Nat → Addr × Addr} {own : Addr → Nat × Bool} (h : TAt H0 H L X ad own) (s : Same H H') : TAt H0 H' L X ad own := by
  obtain ⟨vs, e, l, c⟩ := h.ex
  refine ⟨⟨vs, s _ _ e, l, fun i v ev => ?_⟩, h.new⟩
  rcases c i v ev with z | ⟨p, t, z1, z2, z3, z4, z5⟩
  · exact .inl z
  · exact .inr ⟨p, t, z1, z2, z3.same s, s _ _ z4, s _ _ z5⟩
theorem TAt.cell {H0 H : Hp} {L : Addr} {X : Tb} {ad : Nat → Addr × Addr} {own : Addr → Nat × Bool} (h : TAt H0 H L X ad own) {i : Nat} {o : Option Pr} (e : X[i]? = some o) : ∃ vs v, H L = some (.lst vs) ∧ vs[i]? = some v ∧ CellAt H v o := by
  obtain ⟨vs, ev, l, c⟩ := h.ex
  have lt : i < vs.length := by
    rw [l]
    exact (List.getElem?_eq_some_iff.mp e).1
  refine ⟨vs, vs[i], ev, List.getElem?_eq_getElem lt, ?_⟩
  rcases c i _ (List.getElem?_eq_getElem lt) with ⟨z1, z2⟩ | ⟨p, t, z1, z2, z3, z4, z5⟩
  · rw [e] at z1
    injection z1 with z1
    subst z1
    exact z2
  · rw [e] at z1
    injection z1 with z1
    subst z1
    exact ⟨t, _, _, z2, .inl z3, z4, z5⟩
/-- it holds what is no number -/
theorem TAt.odd {H0 H : Hp} {L : Addr} {X : Tb} {ad : Nat → Addr × Addr} {own : Addr → Nat × Bool} (h : TAt H0 H L X ad own) (pos : 0 < X.length) : ∃ vs, H L = some (.lst vs) ∧ ∃ x ∈ vs, ∀ i, x ≠ .int i := by
  obtain ⟨vs, ev, l, c⟩ := h.ex
  have lt : 0 < vs.length := by omega
  refine ⟨vs, ev, vs[0], List.getElem_mem lt, fun i z => ?_⟩
  rcases c 0 _ (List.getElem?_eq_getElem lt) with ⟨_, z2⟩ | ⟨p, t, _, z2, _⟩
  · rw [z] at z2
    cases z2
  · rw [z] at z2
    cases z2
/-- a row is told anew, with lists of its own -/
theorem TAt.set {H0 H Hn : Hp} {L : Addr} {X : Tb} {ad : Nat → Addr × Addr} {own : Addr → Nat × Bool} (h : TAt H0 H L X ad own) (s0 : ∀ c o, H0 c = some o → H c = some o) (sn : Same H Hn) {a b t : Addr} {p : Pr} {i : Nat} (lt : i < X.length) (na : H a = none) (nb : H b = none) (ne : a ≠ b)
    (ht : PTup Hn t [.ref a, .ref b]) (ha : Hn a = some (.lst (p.1.map V.int))) (hb : Hn b = some (.lst (p.2.map V.int))) : ∃ vs, Hn L = some (.lst vs) ∧ vs.length = X.length ∧
      TAt H0 (upd Hn L (.lst (vs.set i (.ref t)))) L (X.set i (some p)) (fun j => if j = i then (a, b) else ad j) (fun c => if c = a then (i, false) else if c = b then (i, true) else own c) := by
  obtain ⟨vs, ev, l, c⟩ := h.ex
  have eL := sn _ _ ev
  have aL : a ≠ L := (ne_of_none ev na).symm
  have bL : b ≠ L := (ne_of_none ev nb).symm
  refine ⟨vs, eL, l, ⟨vs.set i (.ref t), upd_same, by rw [List.length_set, List.length_set, l], fun j v e => ?_⟩, fun j q e => ?_⟩
  · rcases getElem?_set_some e with ⟨rfl, rfl⟩ | ⟨ij, e2⟩
    · refine .inr ⟨p, t, by rw [List.getElem?_set_self lt], rfl, ?_, ?_, ?_⟩
      · rw [if_pos rfl]
        exact ht.updL eL
      · rw [if_pos rfl, upd_ne aL]
        exact ha
      · rw [if_pos rfl, upd_ne bL]
        exact hb
    · have ji : ¬ j = i := fun z => ij z.symm
      rw [List.getElem?_set_ne ij, if_neg ji]
      rcases c j v e2 with z | ⟨q, t', z1, z2, z3, z4, z5⟩
      · exact .inl z
      · have n := h.new j q z1
        refine .inr ⟨q, t', z1, z2, (z3.same sn).updL eL, ?_, ?_⟩
        · rw [upd_ne n.2.2.1]
          exact sn _ _ z4
        · rw [upd_ne n.2.2.2.1]
          exact sn _ _ z5
  · have f : ∀ c, H c = none → H0 c = none := fun c hc => by
      cases z : H0 c with
      | none => rfl
      | some o =>
        rw [s0 c o z] at hc
        cases hc
    rcases getElem?_set_some e with ⟨rfl, _⟩ | ⟨ij, e2⟩
    · refine ⟨by rw [if_pos rfl]; exact f a na, by rw [if_pos rfl]; exact f b nb, by rw [if_pos rfl]; exact aL, by rw [if_pos rfl]; exact bL, ?_, ?_⟩
      · rw [if_pos rfl, if_pos rfl]
      · rw [if_pos rfl, if_neg ne.symm, if_pos rfl]
    · have ji : ¬ j = i := fun z => ij z.symm
      have n := h.new j q e2
      obtain ⟨hj, hj2⟩ : H (ad j).1 ≠ none ∧ H (ad j).2 ≠ none := by
        have lj : j < vs.length := by
          rw [l]
          exact (List.getElem?_eq_some_iff.mp e2).1
        rcases c j _ (List.getElem?_eq_getElem lj) with ⟨z, _⟩ | ⟨_, _, _, _, _, z4, z5⟩
        · rw [e2] at z
          cases z
        · rw [z4, z5]
          simp
      simp only [if_neg ji]
      have m1 : ∀ x, H x ≠ none → x ≠ a ∧ x ≠ b := fun x hx => ⟨fun z => hx (z ▸ na), fun z => hx (z ▸ nb)⟩
      rw [if_neg (m1 _ hj).1, if_neg (m1 _ hj).2, if_neg (m1 _ hj2).1, if_neg (m1 _ hj2).2]
      exact n
theorem while_m {c : TT} {tb : TS} {D : Ends} {σ : L2.St} {H : Hp} (W : Nat → L2.St → Hp → Prop) (m0 : Nat) (h0 : W m0 σ H)
    (hs : ∀ m σ H, W m σ H → c σ H fun b H1 => if b = true then tb { D with nx := fun σ' H' => ∃ m', m' < m ∧ W m' σ' H', ct := fun σ' H' => ∃ m', m' < m ∧ W m' σ' H', bk := D.nx } σ H1 else D.nx σ H1)
    (mono : ∀ σ H Q Q', (∀ b H1, Q b H1 → Q' b H1) → c σ H Q → c σ H Q') : tWhile c tb D σ H := by
  refine ⟨W, ⟨m0, h0⟩, fun m σ H w => mono σ H _ _ (fun b H1 q => ?_) (hs m σ H w)⟩
  cases b with
  | true => exact ⟨_, fun _ _ z => z, q⟩
  | false => exact q
theorem mid_gex {te : TE} {i j : Nat} {v : V} {S : TS} {D : Ends} {σ : L2.St} {H : Hp} (M : V → Hp → Prop) (hR : ∀ y H', M y H' → S D ((σ.set j (some v)).set i (some y)) H') (h : ∀ R : VK, (∀ y H', M y H' → R y H') → te (σ.set j (some v)) H R) : gName j v σ H (fun σ2 H2 => tSeq (tAsg te (gName i)) S D σ2 H2) := h _ hR
theorem idx_int {ms : List Int} {k : Int} (h : k ∈ ms) : (ms.map V.int)[ms.idxOf k]? = some (V.int k) ∧ eqV (V.int k) (V.int k) = true ∧ ∀ (m : Nat) (z : V), m < ms.idxOf k → (ms.map V.int)[m]? = some z → eqV z (V.int k) = false := by
  have lt := List.idxOf_lt_length_of_mem h
  have e : ms[ms.idxOf k]'lt = k := List.getElem_idxOf lt
  refine ⟨by rw [List.getElem?_map, List.getElem?_eq_getElem lt, e]; rfl, by simp [eqV], fun m z hm hz => ?_⟩
  obtain ⟨x, hx, rfl⟩ := map_get_int hz
  have ne : x ≠ k := fun z => by
    subst z
    obtain ⟨l1, e1⟩ := List.getElem?_eq_some_iff.mp hx
    have := List.not_of_lt_findIdx (p := (· == x)) (xs := ms) hm
    simp [e1] at this
  show decide (x = k) = false
  exact decide_eq_false ne
theorem PairN.same {H0 H H' : Hp} {v : V} {p : Pr} (h : PairN H0 H v p) (s : Same H H') : PairN H0 H' v p := by
  obtain ⟨t, a, b, e, ht, ha, hb, n⟩ := h
  exact ⟨t, a, b, e, ht.same s, s _ _ ha, s _ _ hb, n⟩
theorem PairN.back {H0 H1 H : Hp} {v : V} {p : Pr} (h : PairN H1 H v p) (s : Same H0 H1) : PairN H0 H v p := by
  obtain ⟨t, a, b, e, ht, ha, hb, n1, n2, n3⟩ := h
  exact ⟨t, a, b, e, ht, ha, hb, s.free n1, s.free n2, n3⟩
/-- a pair whose lists are not these two -/
def PairX (L W : Addr) (H : Hp) (v : V) (p : Pr) : Prop := ∃ t a b, v = .ref t ∧ PTup H t [.ref a, .ref b] ∧ H a = some (.lst (p.1.map V.int)) ∧ H b = some (.lst (p.2.map V.int)) ∧ (a ≠ L ∧ a ≠ W) ∧ b ≠ L ∧ b ≠ W
theorem PairX.at {L W : Addr} {H : Hp} {v : V} {p : Pr} (h : PairX L W H v p) : PairAt H v p := by
  obtain ⟨t, a, b, e, ht, ha, hb, _⟩ := h
  exact ⟨t, a, b, e, .inl ht, ha, hb⟩
theorem PairX.same {L W : Addr} {H H' : Hp} {v : V} {p : Pr} (h : PairX L W H v p) (s : Same H H') : PairX L W H' v p := by
  obtain ⟨t, a, b, e, ht, ha, hb, n⟩ := h
  exact ⟨t, a, b, e, ht.same s, s _ _ ha, s _ _ hb, n⟩
theorem PairN.x {L W : Addr} {H H' : Hp} {v : V} {p : Pr} {o1 o2 : HO} (h : PairN H H' v p) (hL : H L = some o1) (hW : H W = some o2) : PairX L W H' v p := by
  obtain ⟨t, a, b, e, ht, ha, hb, n1, n2, n3⟩ := h
  exact ⟨t, a, b, e, ht, ha, hb, ⟨(ne_of_none hL n1).symm, (ne_of_none hW n1).symm⟩, (ne_of_none hL n2).symm, (ne_of_none hW n2).symm⟩
theorem PairX.updL {L W : Addr} {H : Hp} {v : V} {p : Pr} {vs : List V} {o : HO} (h : PairX L W H v p) (hL : H L = some (.lst vs)) : PairX L W (upd H L o) v p := by
  obtain ⟨t, a, b, e, ht, ha, hb, n1, n2⟩ := h
  exact ⟨t, a, b, e, ht.updL hL, by rw [upd_ne n1.1]; exact ha, by rw [upd_ne n2.1]; exact hb, n1, n2⟩
theorem PairX.updW {L W : Addr} {H : Hp} {v : V} {p : Pr} {vs : List V} {o : HO} (h : PairX L W H v p) (hW : H W = some (.lst vs)) : PairX L W (upd H W o) v p := by
  obtain ⟨t, a, b, e, ht, ha, hb, n1, n2⟩ := h
  exact ⟨t, a, b, e, ht.updL hW, by rw [upd_ne n1.2]; exact ha, by rw [upd_ne n2.2]; exact hb, n1, n2⟩
/-- no row's list is this one -/
def Off (W : Addr) (X : Tb) (ad : Nat → Addr × Addr) : Prop := ∀ (i : Nat) (p : Pr), X[i]? = some (some p) → (ad i).1 ≠ W ∧ (ad i).2 ≠ W
theorem TAt.cellX {H0 H : Hp} {L W : Addr} {X : Tb} {ad : Nat → Addr × Addr} {own : Addr → Nat × Bool} (h : TAt H0 H L X ad own) (ow : Off W X ad) {i : Nat} {p : Pr} (e : X[i]? = some (some p)) : ∃ vs v, H L = some (.lst vs) ∧ vs[i]? = some v ∧ PairX L W H v p := by
  obtain ⟨vs, ev, l, c⟩ := h.ex
  have lt : i < vs.length := by
    rw [l]
    exact (List.getElem?_eq_some_iff.mp e).1
  refine ⟨vs, vs[i], ev, List.getElem?_eq_getElem lt, ?_⟩
  rcases c i _ (List.getElem?_eq_getElem lt) with ⟨z1, z2⟩ | ⟨q, t, z1, z2, z3, z4, z5⟩
  · rw [e] at z1
    cases z1
  · rw [e] at z1
    injection z1 with z1
    injection z1 with z1
    subst z1
    have n := h.new i p e
    have n2 := ow i p e
    exact ⟨t, _, _, z2, z3, z4, z5, ⟨n.2.2.1, n2.1⟩, n.2.2.2.1, n2.2⟩
theorem TAt.updW {H0 H : Hp} {L W : Addr} {X : Tb} {ad : Nat → Addr × Addr} {own : Addr → Nat × Bool} {ws : List V} {o : HO} (h : TAt H0 H L X ad own) (ow : Off W X ad) (hW : H W = some (.lst ws)) (ne : L ≠ W) : TAt H0 (L2.upd H W o) L X ad own := by
  obtain ⟨vs, e, l, c⟩ := h.ex
  refine ⟨⟨vs, by rw [upd_ne ne]; exact e, l, fun i v ev => ?_⟩, h.new⟩
  rcases c i v ev with z | ⟨p, t, z1, z2, z3, z4, z5⟩
  · exact .inl z
  · have n := ow i p z1
    exact .inr ⟨p, t, z1, z2, z3.updL hW, by rw [upd_ne n.1]; exact z4, by rw [upd_ne n.2]; exact z5⟩
def spBRow : Sp := fun vs H Q _ => ∃ (x : V) (as rm : Addr) (r : Rw) (p : Pr) (ms : List Int) (s : Int), vs = [x, .ref as, .ref rm, .int s] ∧ PairAt H x p ∧ T2 H as (r.1.map V.int) ∧ H rm = some (.lst (ms.map V.int)) ∧ POk ms.length s p ∧ (∀ k ∈ r.1, k ∈ ms) ∧ r.1.length ≤ 100 ∧ ms.length ≤ 1000 ∧ 0 ≤ s ∧ s ≤ 1000 ∧ ∀ v H', Same H H' → (PairN H H' v (comeP ms s r p) ∨ (v = x ∧ comeP ms s r p = p)) → Q v H'
theorem sc_behind_row : FnScope ["pair", "asks", "rooms", "size", "come", "room"] ["pair", "asks", "rooms", "size"] (defScope s_behind_row) := ⟨rfl, rfl, rfl, by decide +kernel, rfl, by decide +kernel, by decide +kernel⟩
section
variable {P : Program} {w : World} {K : PySem.W.Frag} {mg : Str → Option Value} {base : Heap}
theorem ok_brow (T : At K mg "behind_row" s_behind_row ["pair", "asks", "rooms", "size"]) (B : Bt mg) (c_joined_ages : Cal P w K mg base 1 "joined_ages" ["one", "other"] spJoin) (c_behind_ask : Cal P w K mg base 1 "behind_ask" ["pair", "place", "size"] spBAsk) :
    Cal P w K mg base 2 "behind_row" ["pair", "asks", "rooms", "size"] spBRow := by
  refine cal_of T sc_behind_row (fun vs H Q E h => ?_) (fun f cdv A outer s H vs Q E hr h => ?_)
  · obtain ⟨x, as, rm, r, p, ms, s, rfl, _⟩ := h
    rfl
  · obtain ⟨x, as, rm, r, p, ms, s, rfl, hx, hA, hm, op, hin, few, fewm, s0, s1, q⟩ := h
    refine ⟨_, (pss_cons (ps_if (pt_cmpR op_eq (pe_callB call_len_seq (by rfl) B.len PySem.boot_len (pa_cons (pv 1) pa_nil)) pe_int (nomark _)) (pss_one (ps_ret (pv 0))) pss_nil)
      (pss_cons (ps_set (i := 4) sc_behind_row.nd rfl (Or.inl rfl) (pe_own c_behind_ask hr (by decide) (by rfl) (pa_cons (pv 0) (pa_cons (pe_bm PySem.F.plainAttrs_list PySem.F.slot_list_index PySem.F.type_list_index mt_index (pv 2) (pa_cons (pe_ix ix_tup (pv 1) pe_int (fun _ _ => rfl)) pa_nil)) (pa_cons (pv 3) pa_nil)))))
      (pss_cons (ps_for PassesOwn.never rfl (pi_tup (pe_slice sl_tup2 (pv 1) (po_some pe_int) po_none)) (pg_name (i := 5) sc_behind_row.nd rfl (Or.inl rfl)) (pss_one (ps_set (i := 4) sc_behind_row.nd rfl (Or.inl rfl) (pe_own c_joined_ages hr (by decide) (by rfl) (pa_cons (pv 4) (pa_cons (pe_own c_behind_ask hr (by decide) (by rfl) (pa_cons (pv 0) (pa_cons (pe_bm PySem.F.plainAttrs_list PySem.F.slot_list_index PySem.F.type_list_index mt_index (pv 2) (pa_cons (pv 5) pa_nil)) (pa_cons (pv 3) pa_nil)))) pa_nil))))))
      (pss_one (ps_ret (pv 4)))))), ?_⟩
    refine ⟨_, rfl, as, _, rfl, .inr hA.sq, rfl, _, rfl, iteB (fun z => ?_) (fun z => ?_)⟩
    · have e : r.1 = [] := by
        have z := V.int.inj (of_decide_eq_true z)
        rw [List.length_map] at z
        exact List.eq_nil_of_length_eq_zero (by omega)
      refine ⟨_, rfl, q _ H (Same.refl H) (.inr ⟨rfl, ?_⟩)⟩
      unfold comeP plcs
      rw [e]
      rfl
    · have ne : r.1 ≠ [] := fun e => by
        have z := of_decide_eq_false z
        rw [e] at z
        exact z rfl
      obtain ⟨k0, ks, e⟩ : ∃ k0 ks, r.1 = k0 :: ks := by
        cases h : r.1 with
        | nil => exact absurd h ne
        | cons k0 ks => exact ⟨k0, ks, rfl⟩
      rw [e] at hA hin few
      have idx : ∀ k ∈ k0 :: ks, ms.idxOf k < ms.length := fun k hk => List.idxOf_lt_length_of_mem (hin k hk)
      obtain ⟨i1, i2, i3⟩ := idx_int (hin k0 List.mem_cons_self)
      have fl : (ms.map V.int).all flatV = true := by
        rw [List.all_map]
        exact List.all_eq_true.mpr fun _ _ => rfl
      refine ⟨_, rfl, _, rfl, .inl ⟨rfl, _, SqL.of hm⟩, _, rfl, as, _, _, _, rfl, rfl, hA.sq, atI_nat (j := 0) rfl, rm, _, _, _, _, rfl, rfl, SqL.of hm, rfl, fl, i1, i2, i3, ?_⟩
      refine ⟨_, rfl, x, p, _, ms.length, s, rfl, hx, op, idx k0 List.mem_cons_self, fewm, s1, fun c H1 t1 hc => ?_⟩
      refine ⟨_, rfl, 1, rfl, as, _, rfl, hA.same t1, fun a2 H2 t2 hA2 => ?_⟩
      rw [show cutV ((k0 :: ks).map V.int) (some 1) none = ks.map V.int from cut_tail _] at hA2
      refine ⟨a2, rfl, ⟨_, hA2.sq⟩, ?_⟩
      have okk : ∀ k, POk ms.length s (askP s p k) := fun k => askP_ok s0 op k
      refine for_tup (K := K) (a := a2) (xs := ks.map V.int) (fun i σ H3 => ∃ (cv : V) (y5 : Option V), σ = [some x, some (.ref as), some (.ref rm), some (.int s), some cv, y5] ∧ PairN H H3 cv (((ks.take i).map fun k => ms.idxOf k).foldl (fun c j => joinP c (askP s p j)) (askP s p (ms.idxOf k0))) ∧ POk ms.length s (((ks.take i).map fun k => ms.idxOf k).foldl (fun c j => joinP c (askP s p j)) (askP s p (ms.idxOf k0))) ∧ Same H H3 ∧ Same H2 H3) ?_ ?_ ?_ ?_
      · exact ⟨_, _, rfl, hc.same t2, okk _, t1.trans t2, Same.refl _⟩
      · rintro i σ H3 _ ⟨_, _, _, _, _, _, t3⟩
        exact (hA2.same t3).sq
      · rintro i v σ H3 hv ⟨cv, y5, rfl, hcv, okc, t3, t4⟩
        obtain ⟨k, ek, rfl⟩ := map_get_int hv
        have kin : k ∈ k0 :: ks := List.mem_cons_of_mem _ (List.mem_of_getElem? ek)
        obtain ⟨j1, j2, j3⟩ := idx_int (hin k kin)
        refine ⟨_, rfl, _, rfl, _, rfl, .inl ⟨rfl, _, SqL.of (t3 _ _ hm)⟩, _, rfl, rm, _, _, _, _, rfl, rfl, SqL.of (t3 _ _ hm), rfl, fl, j1, j2, j3, ?_⟩
        refine ⟨_, rfl, x, p, _, ms.length, s, rfl, hx.same t3, op, idx k kin, fewm, s1, fun c2 H4 t5 hc2 => ?_⟩
        refine ⟨_, _, _, _, ms.length, s, rfl, hcv.at.same t5, hc2.at, okc, okk _, fewm, fun c3 H5 t6 hc3 => ?_⟩
        refine ⟨c3, _, rfl, ?_, ?_, (t3.trans t5).trans t6, (t4.trans t5).trans t6⟩
        · rw [List.take_add_one, ek, List.map_append, List.foldl_append]
          exact hc3.back (t3.trans t5)
        · rw [List.take_add_one, ek, List.map_append, List.foldl_append]
          exact joinP_ok okc (okk _)
      · rintro σ H3 ⟨cv, y5, rfl, hcv, okc, t3, t4⟩
        refine ⟨_, rfl, q cv H3 t3 (.inl ?_)⟩
        rw [List.length_map, List.take_length] at hcv
        unfold comeP plcs
        rw [e]
        exact hcv
end
end Su
/-! ### AR: ages, the program's -/
namespace Su
open PySem PySem.Spec PyProof.Rows L2
/-- told: the least table, a list of its own, each row's lists its own -/
def spAges : Sp := fun vs H Q _ => ∃ (p : Addr) (rs : List Rw) (s : Int), vs = [.ref p, .int s] ∧ WebAt H p rs ∧ WebOk rs ∧ 1 ≤ s ∧ s ≤ 8 ∧
  ∀ (ms : List Int) (X : Tb) (L : Addr) (ad : Nat → Addr × Addr) (own : Addr → Nat × Bool) (H' : Hp), ms.Pairwise (· < ·) → (∀ k : Int, k ∈ ms ↔ k ∈ allRooms rs) → Least ms s rs X → Same H H' → H L = none → TAt H H' L X ad own → Q (.ref L) H'
theorem inV_ints (x : Int) : ∀ xs : List Int, inV (.int x) (xs.map V.int) = decide (x ∈ xs)
  | [] => rfl
  | y :: xs => by
    have ih := inV_ints x xs
    unfold inV at ih ⊢
    rw [List.map_cons, List.any_cons, ih, show eqV (V.int y) (V.int x) = decide (y = x) from rfl]
    rcases Decidable.em (y = x) with h | h
    · subst h
      simp
    · have h' : ¬ x = y := fun z => h z.symm
      simp [h, h']
theorem all_flat (ns : List Int) : (ns.map V.int).all flatV = true := by
  rw [List.all_map]
  exact List.all_eq_true.mpr fun _ _ => rfl
/-- the waiting rows -/
structure Wai (rs : List Rw) (X : Tb) (w : List Int) : Prop where
  nd : w.Nodup
  rg : ∀ k ∈ w, 0 ≤ k ∧ k < rs.length
  is : ∀ k ∈ w, ∃ p, X[k.toNat]? = some (some p)
theorem Wai.few {rs : List Rw} {X : Tb} {w : List Int} (h : Wai rs X w) : w.length ≤ rs.length := by
  have z := nodup_few (S := (List.range rs.length).map fun i => ((i : Nat) : Int)) h.nd fun k hk => by
    have := h.rg k hk
    exact List.mem_map.mpr ⟨k.toNat, List.mem_range.mpr (by omega), by omega⟩
  rwa [List.length_map, List.length_range] at z
/-- all is as it was, but for two lists that are being made -/
def Two (L W : Addr) (H H' : Hp) : Prop := ∀ c o, H c = some o → c ≠ L → c ≠ W → H' c = some o
theorem sc_ages : FnScope ["web", "size", "rooms", "told", "waiting", "row", "come", "to", "both"] ["web", "size"] (defScope s_ages) := ⟨rfl, rfl, rfl, by decide +kernel, rfl, by decide +kernel, by decide +kernel⟩
section
variable {P : Program} {w : World} {K : PySem.W.Frag} {mg : Str → Option Value} {base : Heap}
theorem ok_ages (T : AtD K mg "ages" s_ages ["web", "size"] [.int 4]) (B : Bt mg) (c_look_at_web : Cal P w K mg base 5 "look_at_web" ["thing"] spLook) (c_look_at_kind : Cal P w K mg base 4 "look_at_kind" ["size", "way"] spKind) (c_rooms_in : Cal P w K mg base 1 "rooms_in" ["rows"] (spRoomsIn w))
    (c_first_ages : Cal P w K mg base 1 "first_ages" ["rooms", "size"] spFirst) (c_joined_ages : Cal P w K mg base 1 "joined_ages" ["one", "other"] spJoin) (c_behind_row : Cal P w K mg base 2 "behind_row" ["pair", "asks", "rooms", "size"] spBRow) :
    CalD P w K mg base 6 "ages" ["web", "size"] [.int 4] spAges := by
  refine cal_ofD T sc_ages (fun vs H Q E h => ?_) (fun f cdv A outer s' H vs Q E hr h => ?_)
  · obtain ⟨p, rs, s, rfl, _⟩ := h
    rfl
  · obtain ⟨p, rs, s, rfl, hw, ok, s1, s8, q⟩ := h
    refine ⟨_, (pss_cons (ps_expr (pe_own c_look_at_web hr (by decide) (by rfl) (pa_cons (pv 0) pa_nil)))
      (pss_cons (ps_expr (pe_own c_look_at_kind hr (by decide) (by rfl) (pa_cons (pv 1) (pa_cons pe_str pa_nil))))
      (pss_cons (ps_set (i := 2) sc_ages.nd rfl (Or.inl rfl) (pe_own c_rooms_in hr (by decide) (by rfl) (pa_cons (pv 0) pa_nil)))
      (pss_cons (ps_set (i := 3) sc_ages.nd rfl (Or.inl rfl) (pe_op op_rep (pe_lst (pa_cons pe_non pa_nil)) (pe_callB call_len_seq (by rfl) B.len PySem.boot_len (pa_cons (pv 0) pa_nil))))
      (pss_cons (ps_asg (pe_own c_first_ages hr (by decide) (by rfl) (pa_cons (pv 2) (pa_cons (pv 1) pa_nil))) (pg_sub (pv 3) pe_int set_list))
      (pss_cons (ps_set (i := 4) sc_ages.nd rfl (Or.inl rfl) (pe_lst (pa_cons pe_int pa_nil)))
      (pss_cons (ps_while PassesOwn.never (pt_cmpR op_gt (pe_callB call_len_seq (by rfl) B.len PySem.boot_len (pa_cons (pv 4) pa_nil)) pe_int (nomark _)) (pss_cons (ps_set (i := 5) sc_ages.nd rfl (Or.inl rfl) (pe_bm PySem.F.plainAttrs_list PySem.F.slot_list_pop PySem.F.type_list_pop mt_popAt (pv 4) (pa_cons pe_int pa_nil)))
      (pss_cons (ps_set (i := 6) sc_ages.nd rfl (Or.inl rfl) (pe_own c_behind_row hr (by decide) (by rfl) (pa_cons (pe_ix ix_list (pv 3) (pv 5) (fun _ _ => rfl)) (pa_cons (pe_ix ix_tup (pe_ix ix_list (pv 0) (pv 5) (fun _ _ => rfl)) pe_int (fun _ _ => rfl)) (pa_cons (pv 2) (pa_cons (pv 1) pa_nil))))))
      (pss_one (ps_for PassesOwn.never rfl (pi_tup (pe_ix ix_tup (pe_ix ix_list (pv 0) (pv 5) (fun _ _ => rfl)) pe_int (fun _ _ => rfl))) (pg_name (i := 7) sc_ages.nd rfl (Or.inl rfl)) (pss_cons (ps_set (i := 8) sc_ages.nd rfl (Or.inl rfl) (pe_ifExp (pt_cmpR op_isN (pe_ix ix_list (pv 3) (pv 7) (fun _ _ => rfl)) pe_non (nomark _)) (pv 6) (pe_own c_joined_ages hr (by decide) (by rfl) (pa_cons (pe_ix ix_list (pv 3) (pv 7) (fun _ _ => rfl)) (pa_cons (pv 6) pa_nil)))))
      (pss_one (ps_if (pt_cmpR (op_neD hr.units) (pv 8) (pe_ix ix_list (pv 3) (pv 7) (fun _ _ => rfl)) (nomark _)) (pss_cons (ps_asg (pe_tupF (pa_cons (pe_callTy call_list_of (by rfl) B.list (by decide +kernel) (pa_cons (pe_ix ix_tup (pv 8) pe_int (fun _ _ => rfl)) pa_nil)) (pa_cons (pe_callTy call_list_of (by rfl) B.list (by decide +kernel) (pa_cons (pe_ix ix_tup (pv 8) pe_int (fun _ _ => rfl)) pa_nil)) pa_nil))) (pg_sub (pv 3) (pv 7) set_list))
      (pss_one (ps_if (pt_cmpR op_notIn_seq (pv 7) (pv 4) (by rfl)) (pss_one (ps_expr (pe_bm PySem.F.plainAttrs_list PySem.F.slot_list_append PySem.F.type_list_append mt_append (pv 4) (pa_cons (pv 7) pa_nil)))) pss_nil))) pss_nil))))))))
      (pss_one (ps_ret (pv 3)))))))))), ?_⟩
    refine ⟨_, rfl, p, rs, rfl, hw, ok, fun H1 t1 => ?_⟩
    refine ⟨_, rfl, s, "last", rfl, ⟨.inl rfl, by omega, by omega, fun z => absurd z (by decide +kernel)⟩, ?_⟩
    obtain ⟨A, hA, hin⟩ := ok.all
    have hw1 := hw.same t1
    refine ⟨_, rfl, p, rs, A, rfl, hw1, by omega, hin, fun ms u H2 pw mem t2 nu hu => ?_⟩
    have hw2 := hw1.same t2
    have m12 : ms.length ≤ 12 := by
      have := nodup_few (S := A) (pw.imp fun h => Int.ne_of_lt h) fun k hk => hin k ((mem k).mp hk)
      omega
    obtain ⟨ws, hp2, hrs⟩ := id hw2
    have wl := hrs.len
    have r80 := ok.few
    have rpos := ok.pos
    refine ⟨(by show 1 ≤ sizeLine; decide), fun b nb => ?_⟩
    have hpb : (upd H2 b (.lst [V.non])) p = some (.lst ws) := same_upd nb _ _ hp2
    refine ⟨_, rfl, p, _, rfl, .inl (SqL.of hpb), b, _, _, rfl, rfl, upd_same, by omega, by omega, ?_, fun L nL0 => ?_⟩
    · show 1 * _ ≤ _
      have := sz1000 (n := ws.length) (by omega)
      omega
    rw [Int.toNat_natCast, rep_flat, wl]
    have tL : Same H2 (upd (upd H2 b (.lst [V.non])) L (.lst (List.replicate rs.length V.non))) := (same_upd nb).trans (same_upd nL0)
    have nL2 : H2 L = none := (same_upd nb).free nL0
    have nL : H L = none := t1.free (t2.free nL2)
    have hu2 := tL _ _ hu
    refine ⟨_, rfl, _, rfl, u, ms, s, rfl, hu2, by omega, fun v H3 t3 hv => ?_⟩
    have hL3 : H3 L = some (.lst (List.replicate rs.length V.non)) := t3 _ _ upd_same
    refine ⟨_, rfl, L, _, _, _, rfl, rfl, hL3, ixN_of (n := (List.replicate rs.length V.non).length) (j := 0) (by rw [List.length_replicate]; omega), ?_⟩
    obtain ⟨t, a, b2, rfl, ht, ha, hb, na, nb2, ab⟩ := id hv
    have s0 : ∀ c o, H c = some o → (upd (upd H2 b (.lst [V.non])) L (.lst (List.replicate rs.length V.non))) c = some o := fun c o e => tL _ _ (t2 _ _ (t1 _ _ e))
    have T0 : TAt H (upd (upd H2 b (.lst [V.non])) L (.lst (List.replicate rs.length V.non))) L (List.replicate rs.length none) (fun _ => (0, 0)) (fun _ => (0, false)) := by
      refine ⟨⟨_, upd_same, by rw [List.length_replicate, List.length_replicate], fun i v e => .inl ?_⟩, fun i p e => ?_⟩
      · have lt := (List.getElem?_eq_some_iff.mp e).1
        rw [List.length_replicate] at lt
        refine ⟨by rw [List.getElem?_replicate_of_lt lt], ?_⟩
        rw [List.getElem?_replicate_of_lt lt] at e
        injection e with e
        exact e.symm
      · have := List.mem_of_getElem? e
        exact absurd (List.eq_of_mem_replicate this) (by simp)
    obtain ⟨vs0, e0, _, T1⟩ := T0.set s0 t3 (p := firstP ms.length s) (i := 0) (by rw [List.length_replicate]; omega) na nb2 ab ht ha hb
    rw [hL3] at e0
    injection e0 with e0
    injection e0 with e0
    subst e0
    have L0 : Low ms s rs (start0 ms s rs) := Low.start (by omega) (by omega)
    have sH3 : Same H2 (upd H3 L (.lst ((List.replicate rs.length V.non).set 0 (.ref t)))) := fun c o e => by
      rw [upd_ne (ne_of_none e nL2)]
      exact t3 _ _ (tL _ _ e)
    refine ⟨(by show 1 ≤ sizeLine; decide), fun Wd nW => ?_⟩
    have nW2 : H2 Wd = none := sH3.free nW
    have LW : L ≠ Wd := ne_of_none (H := upd H3 L (.lst ((List.replicate rs.length V.non).set 0 (.ref t)))) upd_same nW
    have hs0 : ∀ {c o}, H c = some o → H2 c = some o := fun e => t2 _ _ (t1 _ _ e)
    refine while_m (fun m σ H4 => ∃ (X : Tb) (ad : Nat → Addr × Addr) (own : Addr → Nat × Bool) (wt : List Int) (y5 y6 y7 y8 : Option V), m = 2 * pot ms.length s X + wt.length ∧ σ = [some (.ref p), some (.int s), some (.ref u), some (.ref L), some (.ref Wd), y5, y6, y7, y8] ∧ TAt H H4 L X ad own ∧ Off Wd X ad ∧ Low ms s rs X ∧ H4 Wd = some (.lst (wt.map V.int)) ∧ Wai rs X wt ∧ (∀ (i : Nat) (r : Rw), rs[i]? = some r → (i : Int) ∉ wt → Kpt ms s X i r) ∧ Same H2 H4) (2 * pot ms.length s (start0 ms s rs) + 1) ?_ ?_ ?_
    · refine ⟨start0 ms s rs, _, _, [0], none, none, none, none, rfl, rfl, T1.same (same_upd nW), fun i p e => ?_, L0, upd_same, ⟨by simp, fun k hk => ?_, fun k hk => ?_⟩, fun i r er hi p0 ep => ?_, sH3.trans (same_upd nW)⟩
      · have o := T1.cell e
        obtain ⟨vs, v, ev, eiv, cv⟩ := o
        obtain ⟨vs', ev', lv', cs⟩ := T1.ex
        rw [ev] at ev'
        injection ev' with ev'
        injection ev' with ev'
        subst ev'
        rcases cs i v eiv with ⟨z, _⟩ | ⟨_, _, _, _, _, z4, z5⟩
        · have z' : (start0 ms s rs)[i]? = some none := z
          rw [e] at z'
          cases z'
        · exact ⟨ne_of_none z4 nW, ne_of_none z5 nW⟩
      · rw [List.mem_singleton.mp hk]
        omega
      · rw [List.mem_singleton.mp hk]
        obtain ⟨q0, e, _⟩ := L0.zero
        exact ⟨q0, e⟩
      · have i0 : i ≠ 0 := fun z => hi (by rw [z]; exact List.mem_singleton.mpr rfl)
        unfold start0 at ep
        rw [List.getElem?_set_ne (fun z => i0 z.symm)] at ep
        have := List.mem_of_getElem? ep
        exact absurd (List.eq_of_mem_replicate this) (by simp)
    · rintro m σ H4 ⟨X, ad, own, wt, y5, y6, y7, y8, rfl, rfl, hT, hoff, hlow, hW, wai, kpt, t4⟩
      refine ⟨_, rfl, Wd, _, rfl, .inl (SqL.of hW), _, _, rfl, rfl, _, rfl, iteB (fun z => ?_) (fun z => ?_)⟩
      · obtain ⟨k0, w0, rfl⟩ : ∃ k0 w0, wt = k0 :: w0 := by
          cases wt with
          | nil => exact absurd (of_decide_eq_true z) (by decide)
          | cons k0 w0 => exact ⟨k0, w0, rfl⟩
        have g0 := wai.rg k0 List.mem_cons_self
        obtain ⟨x, ex⟩ := wai.is k0 List.mem_cons_self
        obtain ⟨kn, rfl⟩ : ∃ kn : Nat, k0 = (kn : Int) := ⟨k0.toNat, by omega⟩
        rw [Int.toNat_natCast] at ex
        have nd0 := List.nodup_cons.mp wai.nd
        refine ⟨_, rfl, .inl ⟨rfl, _, SqL.of hW⟩, Wd, _, 0, 0, .int kn, rfl, rfl, hW, by decide, by decide, by simp [seqIndex?], rfl, ?_⟩
        have eW5 : (upd H4 Wd (.lst (w0.map V.int))) Wd = some (.lst (w0.map V.int)) := upd_same
        have t5 : Same H2 (upd H4 Wd (.lst (w0.map V.int))) := fun c o e => by
          rw [upd_ne (ne_of_none e nW2)]
          exact t4 _ _ e
        have hT5 : TAt H (upd H4 Wd (.lst (w0.map V.int))) L X ad own := hT.updW hoff hW LW
        show tSeq _ _ _ _ (upd H4 Wd (.lst (w0.map V.int)))
        generalize upd H4 Wd (.lst (w0.map V.int)) = H5 at eW5 t5 hT5 ⊢
        have kr : kn < rs.length := by omega
        have kw : ws[kn]? = some ws[kn] := List.getElem?_eq_getElem (by omega)
        obtain ⟨r, er, ra, rb, rc, ew, hra, hrb, hrc⟩ := hrs.get kw
        have rok := ok.row r (List.mem_of_getElem? er)
        obtain ⟨vs5, xv, eL5, exv, hxv⟩ := hT5.cellX hoff ex
        obtain ⟨okc, lec⟩ := hlow.come (by omega) er ex
        have okx := hlow.tok.ok _ _ ex
        refine ⟨_, rfl, _, rfl, L, _, _, _, rfl, rfl, SqL.of eL5, atI_nat exv, ?_⟩
        refine ⟨_, rfl, _, rfl, p, _, _, _, rfl, rfl, SqL.of (t5 _ _ hp2), atI_nat (by rw [kw, ew]), ra, _, _, _, rfl, rfl, (hra.same t5).sq, atI_nat (j := 0) rfl, ?_⟩
        have rin : ∀ k ∈ r.1, k ∈ ms := fun k hk => (mem k).mpr (List.mem_flatten.mpr ⟨r.1, List.mem_map.mpr ⟨r, List.mem_of_getElem? er, rfl⟩, hk⟩)
        refine ⟨_, rfl, _, rfl, xv, rb, u, r, x, ms, s, rfl, hxv.at, hrb.same t5, t5 _ _ hu, okx, rin, ?_, by omega, by omega, by omega, fun cv H6 t6 hcv => ?_⟩
        · have h6 := nodup_few (S := A) (rok.rooms.pw.imp fun h => Int.ne_of_lt h) fun k hk => hin k ((mem k).mp (rin k hk))
          omega
        have hcx : PairX L Wd H6 cv (comeP ms s r x) := by
          rcases hcv with h | ⟨rfl, e⟩
          · exact h.x eL5 eW5
          · rw [e]
            exact hxv.same t6
        have t7 : Same H2 H6 := t5.trans t6
        refine ⟨_, rfl, _, rfl, p, _, _, _, rfl, rfl, SqL.of (t7 _ _ hp2), atI_nat (by rw [kw, ew]), ra, _, _, _, rfl, rfl, (hra.same t7).sq, atI_nat (j := 1) rfl, rc, rfl, ⟨_, (hrc.same t7).sq⟩, ?_⟩
        refine for_tup (K := K) (a := rc) (xs := r.2.map V.int) (fun i σ H7 => ∃ (X' : Tb) (ad' : Nat → Addr × Addr) (own' : Addr → Nat × Bool) (w' : List Int) (y7 y8 : Option V), σ = [some (.ref p), some (.int s), some (.ref u), some (.ref L), some (.ref Wd), some (.int kn), some cv, y7, y8] ∧ TAt H H7 L X' ad' own' ∧ Off Wd X' ad' ∧ Low ms s rs X' ∧ H7 Wd = some (.lst (w'.map V.int)) ∧ Wai rs X' w' ∧ (∀ k ∈ w0, k ∈ w') ∧ (∀ k : Nat, (k : Int) ∉ w' → X'[k]? = X[k]?) ∧ TLe X X' ∧ (∀ t ∈ r.2.take i, ∃ q, X'[t.toNat]? = some (some q) ∧ PLe (comeP ms s r x) q) ∧ PairX L Wd H7 cv (comeP ms s r x) ∧ Same H2 H7 ∧ 2 * pot ms.length s X' + w'.length ≤ 2 * pot ms.length s X + w0.length) ?_ ?_ ?_ ?_
        · exact ⟨X, ad, own, w0, _, _, rfl, hT5.same t6, hoff, hlow, t6 _ _ eW5, ⟨nd0.2, fun k hk => wai.rg k (List.mem_cons_of_mem _ hk), fun k hk => wai.is k (List.mem_cons_of_mem _ hk)⟩, fun _ h => h, fun _ _ => rfl, TLe.refl X, fun t ht => (List.not_mem_nil ht).elim, hcx, t7, Nat.le_refl _⟩
        · rintro i σ H7 _ ⟨_, _, _, _, _, _, _, _, _, _, _, _, _, _, _, _, _, t8, _⟩
          exact (hrc.same t8).sq
        · rintro i v σ H7 hv ⟨X', ad', own', w', y7, y8, rfl, hT7, hoff7, hlow7, hW7, wai7, sub7, eq7, le7, tos7, hcx7, t8, pot7⟩
          obtain ⟨t, et, rfl⟩ := map_get_int hv
          have tin := List.mem_of_getElem? et
          have tg0 := rok.tos.lo _ tin
          have tg1 := rok.tos.hi _ tin
          obtain ⟨tn, rfl⟩ : ∃ tn : Nat, t = (tn : Int) := ⟨t.toNat, by omega⟩
          have tl : tn < X'.length := by
            rw [hlow7.tok.len]
            omega
          have eo : X'[tn]? = some X'[tn] := List.getElem?_eq_getElem tl
          obtain ⟨vs7, ov, eL7, eov, hov⟩ := hT7.cell eo
          generalize X'[tn] = o at eo hov
          have oko : ∀ q, o = some q → POk ms.length s q := fun q e => hlow7.tok.ok tn q (by rw [eo, e])
          have okR : POk ms.length s (riseO o (comeP ms s r x)) := by
            cases o with
            | none => exact okc
            | some q => exact joinP_ok (oko q rfl) okc
          refine mid_gex (fun y H8 => Same H7 H8 ∧ PairAt H8 y (riseO o (comeP ms s r x))) (fun y H8 ⟨t9, hy⟩ => ?_) (fun R hR => ?_)
          · have eL8 := t9 _ _ eL7
            have hov8 := hov.same t9
            have fo := (o_fine oko m12 (by omega)).shaped (by decide)
            have fr := (pr_fine okR m12 (by omega)).shaped (by decide)
            have ev : PyData.eqv (prD (riseO o (comeP ms s r x))) (oD o) = decide (some (riseO o (comeP ms s r x)) = o) := o_eqv (some (riseO o (comeP ms s r x))) o
            refine ⟨_, rfl, _, rfl, _, rfl, L, _, _, _, rfl, rfl, SqL.of eL8, atI_nat eov, _, _, hy.dp, hov8.dp, fr, fo, _, rfl, ?_⟩
            rw [ev]
            have lecY := fun Y hY => lec (tn : Int) tin Y hY
            rw [Int.toNat_natCast] at lecY
            obtain ⟨lowR, leR, atR⟩ := hlow7.rise (i := kn) (r := r) (p := x) (by omega) eo okc lecY
            refine iteB (fun z => ?_) (fun z => ?_)
            · have ne : some (riseO o (comeP ms s r x)) ≠ o := fun e => by
                rw [decide_eq_true e] at z
                cases z
              obtain ⟨ty, ya, yb, rfl, hty, hya, hyb⟩ := hy
              refine ⟨_, rfl, ty, _, _, _, rfl, rfl, hty.sq, atI_nat (j := 0) rfl, ya, _, rfl, .inl (SqL.of hya), fun a3 na3 => ?_⟩
              have hty' := hty.same (same_upd (o := .lst ((riseO o (comeP ms s r x)).1.map V.int)) na3)
              refine ⟨_, rfl, ty, _, _, _, rfl, rfl, hty'.sq, atI_nat (j := 1) rfl, yb, _, rfl, .inl (SqL.of (same_upd na3 _ _ hyb)), fun b3 nb3 => ?_⟩
              refine ⟨(by show 2 ≤ sizeLine; decide), fun t3' H9 t10 _ hpt => ?_⟩
              have t89 : Same H8 H9 := ((same_upd na3).trans (same_upd nb3)).trans t10
              have ha3 : H9 a3 = some (.lst ((riseO o (comeP ms s r x)).1.map V.int)) := t10 _ _ (same_upd nb3 _ _ upd_same)
              have hb3 : H9 b3 = some (.lst ((riseO o (comeP ms s r x)).2.map V.int)) := t10 _ _ upd_same
              have nb8 : H8 b3 = none := (same_upd na3).free nb3
              have nab : a3 ≠ b3 := ne_of_none (H := upd H8 a3 (.lst ((riseO o (comeP ms s r x)).1.map V.int))) upd_same nb3
              have t8' : Same H2 H8 := t8.trans t9
              obtain ⟨vs9, eL9, lv9, T9⟩ := (hT7.same t9).set (fun c o e => t8' _ _ (hs0 e)) t89 (p := riseO o (comeP ms s r x)) (i := tn) tl na3 nb8 nab hpt ha3 hb3
              have ev9 : vs9 = vs7 := by
                have := t89 _ _ eL8
                rw [eL9] at this
                injection this with this
                injection this
              subst ev9
              have tv : tn < vs9.length := (List.getElem?_eq_some_iff.mp eov).1
              refine ⟨_, rfl, _, rfl, L, _, _, _, rfl, rfl, eL9, ixN_of tv, ?_⟩
              have eW9 : H9 Wd = some (.lst (w'.map V.int)) := t89 _ _ (t9 _ _ hW7)
              have eW10 : (upd H9 L (.lst (vs9.set tn (.ref t3')))) Wd = some (.lst (w'.map V.int)) := by
                rw [upd_ne LW.symm]
                exact eW9
              have t11 : Same H2 (upd H9 L (.lst (vs9.set tn (.ref t3')))) := fun c o e => by
                rw [upd_ne (ne_of_none e nL2)]
                exact t89 _ _ (t8' _ _ e)
              have hcx9 : PairX L Wd (upd H9 L (.lst (vs9.set tn (.ref t3')))) cv (comeP ms s r x) := ((hcx7.same t9).same t89).updL eL9
              have off9 : Off Wd (X'.set tn (some (riseO o (comeP ms s r x)))) (fun j => if j = tn then (a3, b3) else ad' j) := by
                intro j q e
                have w8 := t9 _ _ hW7
                show (if j = tn then (a3, b3) else ad' j).1 ≠ Wd ∧ (if j = tn then (a3, b3) else ad' j).2 ≠ Wd
                rcases getElem?_set_some e with ⟨rfl, _⟩ | ⟨ij, e2⟩
                · rw [if_pos rfl]
                  exact ⟨(ne_of_none w8 na3).symm, (ne_of_none w8 nb8).symm⟩
                · have ji : ¬ j = tn := fun z => ij z.symm
                  rw [if_neg ji]
                  exact hoff7 j q e2
              have eq9 : ∀ k : Nat, k ≠ tn → (k : Int) ∉ w' → (X'.set tn (some (riseO o (comeP ms s r x))))[k]? = X[k]? := fun k hk hw => by
                rw [List.getElem?_set_ne (fun z => hk z.symm)]
                exact eq7 k hw
              have tos9 : ∀ t ∈ r.2.take (i + 1), ∃ q, (X'.set tn (some (riseO o (comeP ms s r x))))[t.toNat]? = some (some q) ∧ PLe (comeP ms s r x) q := by
                intro t ht
                rw [List.take_add_one, et] at ht
                rcases List.mem_append.mp ht with z | z
                · obtain ⟨q, e, l⟩ := tos7 t z
                  obtain ⟨q2, e2, l2⟩ := leR _ _ e
                  exact ⟨q2, e2, l.trans l2⟩
                · rw [List.mem_singleton.mp z, Int.toNat_natCast]
                  exact atR
              have is9 : ∀ k ∈ w', ∃ p, (X'.set tn (some (riseO o (comeP ms s r x))))[k.toNat]? = some (some p) := fun k hk => by
                obtain ⟨q, e⟩ := wai7.is k hk
                obtain ⟨q2, e2, _⟩ := leR _ _ e
                exact ⟨q2, e2⟩
              have pot9 := pot_set eo oko okc ne
              have few7 := wai7.few
              refine ⟨_, rfl, _, rfl, Wd, _, rfl, .inl (SqL.of eW10), rfl, all_flat w', _, rfl, ?_⟩
              rw [inV_ints]
              refine iteB (fun z2 => ?_) (fun z2 => ?_)
              · have nw : (tn : Int) ∉ w' := fun h => by
                  have z2' : (!decide ((tn : Int) ∈ w')) = true := z2
                  rw [decide_eq_true h] at z2'
                  cases z2'
                refine ⟨_, rfl, .inl ⟨rfl, _, SqL.of eW10⟩, _, rfl, Wd, _, _, rfl, rfl, eW10, small1000 (by rw [List.length_map]; omega), ?_⟩
                refine ⟨_, _, _, w' ++ [(tn : Int)], _, _, rfl, T9.updW off9 eW10 LW, off9, lowR, ?_, ⟨?_, ?_, ?_⟩, fun k hk => List.mem_append_left _ (sub7 k hk), fun k hk => ?_, le7.trans leR, tos9, hcx9.updW eW10, ?_, ?_⟩
                · rw [upd_same, List.map_append]
                  rfl
                · rw [List.nodup_append]
                  refine ⟨wai7.nd, by simp, fun a1 h1 b1 h2 => ?_⟩
                  rw [List.mem_singleton.mp h2]
                  rintro rfl
                  exact nw h1
                · intro k hk
                  rcases List.mem_append.mp hk with h | h
                  · exact wai7.rg k h
                  · rw [List.mem_singleton.mp h]
                    omega
                · intro k hk
                  rcases List.mem_append.mp hk with h | h
                  · exact is9 k h
                  · rw [List.mem_singleton.mp h, Int.toNat_natCast]
                    obtain ⟨q, e, _⟩ := atR
                    exact ⟨q, e⟩
                · have h1 : (k : Int) ∉ w' := fun h => hk (List.mem_append_left _ h)
                  have h2 : k ≠ tn := fun h => hk (by rw [h]; exact List.mem_append_right _ (List.mem_singleton.mpr rfl))
                  exact eq9 k h2 h1
                · intro c o e
                  rw [upd_ne (ne_of_none e nW2)]
                  exact t11 _ _ e
                · rw [List.length_append, List.length_singleton]
                  omega
              · have yw : (tn : Int) ∈ w' := by
                  have z2' : (!decide ((tn : Int) ∈ w')) = false := z2
                  by_cases h : (tn : Int) ∈ w'
                  · exact h
                  · rw [decide_eq_false h] at z2'
                    cases z2'
                refine ⟨_, _, _, w', _, _, rfl, T9, off9, lowR, eW10, ⟨wai7.nd, wai7.rg, is9⟩, sub7, fun k hk => ?_, le7.trans leR, tos9, hcx9, t11, by omega⟩
                exact eq9 k (fun h => hk (by rw [h]; exact yw)) hk
            · have e : some (riseO o (comeP ms s r x)) = o := by
                by_cases h : some (riseO o (comeP ms s r x)) = o
                · exact h
                · rw [decide_eq_false h] at z
                  cases z
              obtain ⟨q0, e0, l0⟩ := rise_same oko okc e
              refine ⟨X', ad', own', w', _, _, rfl, hT7.same t9, hoff7, hlow7, t9 _ _ hW7, wai7, sub7, eq7, le7, fun t ht => ?_, hcx7.same t9, t8.trans t9, pot7⟩
              rw [List.take_add_one, et] at ht
              rcases List.mem_append.mp ht with z | z
              · exact tos7 t z
              · rw [List.mem_singleton.mp z, Int.toNat_natCast]
                exact ⟨q0, by rw [eo, e0], l0⟩
          · refine ⟨_, rfl, _, rfl, L, _, _, _, rfl, rfl, SqL.of eL7, atI_nat eov, rfl, _, rfl, ?_⟩
            cases o with
            | none =>
              rw [show ov = .non from hov]
              exact iteT ⟨_, rfl, hR _ _ ⟨Same.refl _, hcx7.at⟩⟩
            | some q0 =>
              obtain ⟨tt, ta, tb, rfl, _⟩ := id hov
              refine iteF ⟨_, rfl, _, rfl, L, _, _, _, rfl, rfl, SqL.of eL7, atI_nat eov, _, rfl, _, _, _, _, _, s, rfl, hov, hcx7.at, oko q0 rfl, okc, by omega, fun v2 H8 t9 hv2 => hR _ _ ⟨t9, hv2.at⟩⟩
        · rintro σ H7 ⟨X', ad', own', w', y7, y8, rfl, hT7, hoff7, hlow7, hW7, wai7, sub7, eq7, le7, tos7, hcx7, t8, pot7⟩
          rw [List.length_map, List.take_length] at tos7
          refine ⟨_, ?_, X', ad', own', w', _, _, _, _, rfl, rfl, hT7, hoff7, hlow7, hW7, wai7, fun i r' er' hi p' ep' t ht => ?_, t8⟩
          · rw [List.length_cons]
            omega
          · have e1 := eq7 i hi
            rw [ep'] at e1
            by_cases ik : i = kn
            · subst ik
              rw [er] at er'
              injection er' with er'
              subst er'
              rw [ex] at e1
              injection e1 with e1
              injection e1 with e1
              subst e1
              exact tos7 t ht
            · have nw : (i : Int) ∉ (kn : Int) :: w0 := fun h => by
                rcases List.mem_cons.mp h with h | h
                · exact ik (by omega)
                · exact hi (sub7 _ h)
              obtain ⟨q0, e0, l0⟩ := kpt i r' er' nw p' e1.symm t ht
              obtain ⟨q2, e2, l2⟩ := le7 _ _ e0
              exact ⟨q2, e2, l0.trans l2⟩
      · have e : wt = [] := by
          cases wt with
          | nil => rfl
          | cons k0 w0 => exact absurd (of_decide_eq_false z) (by rw [List.map_cons, List.length_cons]; omega)
        subst e
        refine ⟨_, rfl, q ms X L ad own H4 pw mem (hlow.least fun i r er => kpt i r er (List.not_mem_nil)) ((t1.trans t2).trans t4) nL hT⟩
    · rintro σ H3 Q1 Q2 hQ ⟨v, e1, p2, ys, e3, e4, i, j, e5, e6, k, e7, e8⟩
      exact ⟨v, e1, p2, ys, e3, e4, i, j, e5, e6, k, e7, hQ _ _ e8⟩
end
end Su
/-! ### LA: whether these are ages that hold, the program's -/
namespace Su
open PySem PySem.Spec PyProof.Rows L2
def wholeG : G → Bool
  | .int _ => true
  | _ => false
def valI : G → Int
  | .int i => i
  | _ => 0
def ageG (s : Int) : G → Bool
  | .int i => decide (0 ≤ i) && decide (i ≤ s)
  | _ => false
def nlG (n : Nat) (s : Int) : G → Bool
  | .lst l => decide (l.length = n) && (l.map (ageG s)).all id
  | _ => false
def prG (n : Nat) (s : Int) : G → Bool
  | .tup l => decide (l.length = 2) && (l.map (nlG n s)).all id
  | _ => false
def celG (n : Nat) (s : Int) : G → Bool
  | .non => true
  | g => prG n s g
def tabG (n : Nat) (s : Int) (m : Nat) : G → Bool
  | .lst l => decide (l.length = m) && (l.map (celG n s)).all id
  | _ => false
def celO : G → Option Pr
  | .tup [.lst a, .lst b] => some (a.map valI, b.map valI)
  | _ => none
def tbO : G → Tb
  | .lst l => l.map celO
  | _ => []
/-- what comes is in the row already -/
def allowB (o : Option Pr) (c : Pr) : Bool := match o with
  | none => false
  | some q => decide (joinP q c = q)
def holdT (X : Tb) (c : Pr) (t : Int) : Bool := match X[t.toNat]? with
  | some o => allowB o c
  | none => false
def holdR (ms : List Int) (s : Int) (X : Tb) (r : Rw) : Option Pr → Bool
  | none => true
  | some p => r.2.all (holdT X (comeP ms s r p))
def holdB (ms : List Int) (s : Int) (rs : List Rw) (X : Tb) : Bool := (List.range rs.length).all fun i => holdR ms s X (rs.getD i ([], [])) (X.getD i none)
def letsB (ms : List Int) (s : Int) (rs : List Rw) (g : G) : Bool := tabG ms.length s rs.length g && (decide ((tbO g)[0]? = some (some (firstP ms.length s))) && holdB ms s rs (tbO g))
theorem nl_at {p : Addr} {H : Hp} {n : Nat} {s : Int} {v : V} {g : G} (h : Tg p H v g) (e : nlG n s g = true) : ∃ a l, v = .ref a ∧ g = .lst l ∧ H a = some (.lst ((l.map valI).map V.int)) ∧ (l.map valI).length = n ∧ ∀ x ∈ l.map valI, 0 ≤ x ∧ x ≤ s := by
  cases h with
  | @lst a vs l na ea t =>
    have e' : (decide (l.length = n) && (l.map (ageG s)).all id) = true := e
    rw [Bool.and_eq_true, decide_eq_true_eq] at e'
    have go : ∀ {vs : List V} {l : List G}, TgL p H vs l → (l.map (ageG s)).all id = true → vs = (l.map valI).map V.int ∧ ∀ x ∈ l.map valI, 0 ≤ x ∧ x ≤ s := by
      intro vs l t
      induction l generalizing vs with
      | nil =>
        intro _
        cases t
        exact ⟨rfl, fun x hx => by cases hx⟩
      | cons g l ih =>
        intro hz
        cases t with
        | cons h t =>
          rw [List.map_cons, List.all_cons, Bool.and_eq_true] at hz
          obtain ⟨e1, e2⟩ := ih t hz.2
          have hz1 : ageG s g = true := hz.1
          cases h with
          | int i =>
            have z : (decide (0 ≤ i) && decide (i ≤ s)) = true := hz1
            rw [Bool.and_eq_true, decide_eq_true_eq, decide_eq_true_eq] at z
            refine ⟨by rw [e1]; rfl, fun x hx => ?_⟩
            rw [List.map_cons] at hx
            rcases List.mem_cons.mp hx with rfl | hx
            · exact z
            · exact e2 x hx
          | _ => cases hz1
    obtain ⟨e1, e2⟩ := go t e'.2
    rw [e1] at ea
    exact ⟨a, l, rfl, rfl, ea, by rw [List.length_map]; exact e'.1, e2⟩
  | _ => cases e
theorem pr_at {p : Addr} {H : Hp} {n : Nat} {s : Int} {v : V} {g : G} (h : Tg p H v g) (e : prG n s g = true) : ∃ q, celO g = some q ∧ PairAt H v q ∧ POk n s q := by
  cases h with
  | @tup a vs l ea t =>
    have e' : (decide (l.length = 2) && (l.map (nlG n s)).all id) = true := e
    rw [Bool.and_eq_true, decide_eq_true_eq] at e'
    obtain ⟨l2, e3⟩ := e'
    cases t with
    | nil => cases l2
    | cons h1 t =>
      cases t with
      | nil => cases l2
      | cons h2 t =>
        cases t with
        | cons h3 t =>
          simp at l2
        | nil =>
          simp only [List.map_cons, List.map_nil, List.all_cons, List.all_nil, Bool.and_true, Bool.and_eq_true, id] at e3
          obtain ⟨a1, x1, rfl, rfl, b1, c1, d1⟩ := nl_at h1 e3.1
          obtain ⟨a2, x2, rfl, rfl, b2, c2, d2⟩ := nl_at h2 e3.2
          exact ⟨_, rfl, ⟨a, a1, a2, rfl, ea, b1, b2⟩, c1, c2, d1, d2⟩
  | _ => cases e
theorem cel_at {p : Addr} {H : Hp} {n : Nat} {s : Int} {v : V} {g : G} (h : Tg p H v g) (e : celG n s g = true) : CellAt H v (celO g) ∧ ∀ q, celO g = some q → POk n s q := by
  by_cases z : g = .non
  · subst z
    cases h
    exact ⟨rfl, fun q h => nomatch h⟩
  · have e' : prG n s g = true := by
      cases g <;> first | exact absurd rfl z | exact e
    obtain ⟨q, e1, e2, e3⟩ := pr_at h e'
    rw [e1]
    exact ⟨e2, fun q' h => by injection h with h; subst h; exact e3⟩
theorem whole_intA {p : Addr} {H : Hp} {v : V} {g : G} (h : Tg p H v g) (e : wholeG g = true) : ∃ i, v = .int i ∧ g = .int i := by
  cases h with
  | int i => exact ⟨i, rfl, rfl⟩
  | _ => cases e
def spWholeA : Sp := fun vs H Q _ => ∃ (p : Addr) (v : V) (g : G), vs = [v] ∧ Tg p H v g ∧ Q (.bl (wholeG g)) H
def spNl : Sp := fun vs H Q _ => ∃ (p : Addr) (v : V) (g : G) (n : Nat) (s : Int), vs = [v, .int (n : Nat), .int s] ∧ Tg p H v g ∧ n ≤ 1000 ∧ ∀ H', Same H H' → Q (.bl (nlG n s g)) H'
def spPr : Sp := fun vs H Q _ => ∃ (p : Addr) (v : V) (g : G) (rm : Addr) (ms : List Int) (s : Int), vs = [v, .ref rm, .int s] ∧ Tg p H v g ∧ H rm = some (.lst (ms.map V.int)) ∧ ms.length ≤ 1000 ∧ ∀ H', Same H H' → Q (.bl (prG ms.length s g)) H'
def spAllows : Sp := fun vs H Q _ => ∃ (x y : V) (o : Option Pr) (c : Pr) (n : Nat) (s : Int), vs = [x, y] ∧ CellAt H x o ∧ PairAt H y c ∧ (∀ q, o = some q → POk n s q) ∧ POk n s c ∧ n ≤ 12 ∧ s ≤ 1000 ∧ ∀ H', Same H H' → Q (.bl (allowB o c)) H'
theorem sc_is_list_of_ages : FnScope ["thing", "many", "size", "age"] ["thing", "many", "size"] (defScope s_is_list_of_ages) := ⟨rfl, rfl, rfl, by decide +kernel, rfl, by decide +kernel, by decide +kernel⟩
theorem sc_are_ages : FnScope ["thing", "rooms", "size", "one"] ["thing", "rooms", "size"] (defScope s_are_ages) := ⟨rfl, rfl, rfl, by decide +kernel, rfl, by decide +kernel, by decide +kernel⟩
theorem sc_allows : FnScope ["pair", "come"] ["pair", "come"] (defScope s_allows) := ⟨rfl, rfl, rfl, by decide +kernel, rfl, by decide +kernel, by decide +kernel⟩
section
variable {P : Program} {w : World} {K : PySem.W.Frag} {mg : Str → Option Value} {base : Heap}
theorem ok_wholeA (T : At K mg "is_whole" s_is_whole ["thing"]) (B : Bt mg) : Cal P w K mg base 1 "is_whole" ["thing"] spWholeA := by
  refine cal_of T sc_is_whole (fun vs H Q E h => ?_) (fun f cdv A outer s H vs Q E hr h => ?_)
  · obtain ⟨p, v, g, rfl, _⟩ := h
    rfl
  · obtain ⟨p, v, g, rfl, hv, q⟩ := h
    refine ⟨_, (pss_one (ps_ret (pe_and (pe_callB call_isi (by rfl) B.isinstance (by decide +kernel) (pa_cons (pv 0) (pa_cons (pe_bltn (v := .ty "int") (u := .type "int") (by rfl) B.int (by decide +kernel) rfl) pa_nil))) (pe_one (pe_not (pe_callB call_isi (by rfl) B.isinstance (by decide +kernel) (pa_cons (pv 0) (pa_cons (pe_bltn (v := .ty "bool") (u := .type "bool") (by rfl) B.bool (by decide +kernel) rfl) pa_nil)))))))), ?_⟩
    refine ⟨_, rfl, v, .ty "int", _, _, _, rfl, .ty "int", hv.ty, kit_int g, _, rfl, iteB (fun e => ?_) (fun e => ?_)⟩
    · refine ⟨_, rfl, v, .ty "bool", _, _, _, rfl, .ty "bool", hv.ty, kit_bool g, _, rfl, ?_⟩
      rw [show (!isBool g) = wholeG g from by cases g <;> first | rfl | cases e]
      exact q
    · rw [show false = wholeG g from by cases g <;> first | rfl | cases e]
      exact q
theorem ok_nl (T : At K mg "is_list_of_ages" s_is_list_of_ages ["thing", "many", "size"]) (B : Bt mg) (c_is_whole : Cal P w K mg base 1 "is_whole" ["thing"] spWholeA) : Cal P w K mg base 2 "is_list_of_ages" ["thing", "many", "size"] spNl := by
  refine cal_of T sc_is_list_of_ages (fun vs H Q E h => ?_) (fun f cdv A outer s' H vs Q E hr h => ?_)
  · obtain ⟨p, v, g, n, s, rfl, _⟩ := h
    rfl
  · obtain ⟨p, v, g, n, s, rfl, hv, few, q⟩ := h
    refine ⟨_, (pss_cons (ps_if (PW.pt (pw_or (pt_not (pt_val (pe_callB call_isi (by rfl) B.isinstance (by decide +kernel) (pa_cons (pv 0) (pa_cons (pe_bltn (v := .ty "list") (u := .type "list") (by rfl) B.list (by decide +kernel) rfl) pa_nil))))) (pw_or1 (pt_cmpR op_ne (pe_callB call_len_seq (by rfl) B.len PySem.boot_len (pa_cons (pv 0) pa_nil)) (pv 1) (nomark _))))) (pss_one (ps_ret pe_bl)) pss_nil)
      (pss_one (ps_ret (pe_callB (cr_all rfl) (by rfl) B.all (by decide +kernel) (pa_cons (pe_lc (own := [("age", 3)]) (g := (gName 3)) (tt := tYes) (te := (tAndV (tCall spWholeA [] E0 (tCons (tVar 3) tNil)) (tChain (rI0 fun i j => .bl (decide (i ≤ j))) (rI0 fun i j => .bl (decide (i ≤ j))) (tC (.int 0)) (tVar 3) (tVar 2)))) (by rfl) sc_is_list_of_ages.nd (pi_list (pv 0)) (blkOk_by (own := [("age", 3)]) (N := ["thing", "many", "size", "age"]) (sc := defScope s_is_list_of_ages) (by decide +kernel)) (fun _ _ _ _ _ => (pg_name (i := 3) sc_is_list_of_ages.nd rfl (Or.inl rfl))) (fun _ _ _ _ _ => pts_nil) (fun _ _ _ _ _ => (pe_and (pe_own c_is_whole hr (by decide) (by rfl) (pa_cons (pv 3) pa_nil)) (pe_one (pe_chain op_le op_le pe_int (pv 3) (pv 2)))))) pa_nil))))), ?_⟩
    refine ⟨_, rfl, v, .ty "list", _, _, _, rfl, .ty "list", hv.ty, kit_list g, _, rfl, iteB (fun e => ?_) (fun e => ?_)⟩
    · refine iteT ?_
      rw [show false = nlG n s g from by cases g <;> first | rfl | cases e]
      exact q H (Same.refl H)
    cases hv with
    | @lst a vs l na ea t =>
      have hl := t.len
      refine ⟨_, rfl, a, _, rfl, .inl (SqL.of ea), _, rfl, rfl, _, rfl, iteB (fun e1 => ?_) (fun e1 => ?_)⟩
      · have z : ¬ l.length = n := fun z => by
          rw [hl, z] at e1
          simp at e1
        have e2 : nlG n s (.lst l) = false := by
          show (decide (l.length = n) && (l.map (ageG s)).all id) = false
          rw [decide_eq_false z, Bool.false_and]
        rw [← e2]
        exact q H (Same.refl H)
      · have z : l.length = n := by
          rw [hl] at e1
          by_cases z : l.length = n
          · exact z
          · exfalso
            have z2 : ¬ ((l.length : Int) = (n : Int)) := by omega
            simp [z2] at e1
        refine ⟨_, rfl, a, rfl, ⟨_, SqL.of ea⟩, fun D nD => ?_⟩
        refine lc_list (K := K) (a := a) (xs := vs) (fun i H2 => Same H H2 ∧ H2 D = some (.lst (((l.map (ageG s)).take i).map V.bl))) ?_ ?_ ?_ ?_
        · exact ⟨same_upd nD, upd_same⟩
        · rintro i H2 _ ⟨s2, _⟩
          exact SqL.of (s2 _ _ ea)
        · rintro i x H2 hx ⟨s2, hD⟩
          obtain ⟨g1, e4, tg⟩ := t.get hx
          have il : i < l.length := (List.getElem?_eq_some_iff.mp e4).1
          have fin : ∀ b : Bool, b = ageG s g1 → ∃ acc, H2 D = some (.lst acc) ∧ acc.length < sizeLine ∧ Same H (upd H2 D (.lst (acc ++ [V.bl b]))) ∧ (upd H2 D (.lst (acc ++ [V.bl b]))) D = some (.lst (((l.map (ageG s)).take (i + 1)).map V.bl)) := by
            rintro b rfl
            refine ⟨_, hD, ?_, fun c o ec => ?_, ?_⟩
            · rw [List.length_map]
              exact sz1000 (Nat.le_trans (List.length_take_le' _ _) (by rw [List.length_map]; omega))
            · rw [upd_ne (ne_of_none ec nD)]
              exact s2 _ _ ec
            · rw [upd_same, take_map_snoc _ (show (l.map (ageG s))[i]? = some (ageG s g1) by rw [List.getElem?_map, e4]; rfl)]
          refine ⟨rfl, tyes ?_⟩
          refine ⟨_, rfl, p, x, g1, rfl, tg.keep (Keeps.same s2), _, rfl, iteB (fun e5 => ?_) (fun e5 => ?_)⟩
          · obtain ⟨y, rfl, rfl⟩ := whole_intA tg e5
            refine ⟨_, rfl, _, _, rfl, rfl, _, rfl, iteB (fun e6 => ?_) (fun e6 => ?_)⟩
            · refine ⟨_, rfl, _, _, rfl, rfl, fin _ ?_⟩
              show _ = (decide (0 ≤ y) && decide (y ≤ s))
              rw [e6, Bool.true_and]
            · refine fin _ ?_
              show _ = (decide (0 ≤ y) && decide (y ≤ s))
              rw [e6, Bool.false_and]
          · refine fin _ ?_
            cases g1 <;> first | rfl | cases e5
        · rintro H2 ⟨s2, hD⟩
          rw [List.take_of_length_le (by rw [List.length_map]; omega)] at hD
          refine ⟨D, l.map (ageG s), rfl, SqL.of hD, ?_⟩
          have q2 := q H2 s2
          have e2 : nlG n s (.lst l) = (l.map (ageG s)).all id := by
            show (decide (l.length = n) && (l.map (ageG s)).all id) = _
            rw [decide_eq_true z, Bool.true_and]
          rw [e2] at q2
          exact q2
    | _ => cases e
theorem ok_pr (T : At K mg "are_ages" s_are_ages ["thing", "rooms", "size"]) (B : Bt mg) (c_is_list_of_ages : Cal P w K mg base 2 "is_list_of_ages" ["thing", "many", "size"] spNl) : Cal P w K mg base 3 "are_ages" ["thing", "rooms", "size"] spPr := by
  refine cal_of T sc_are_ages (fun vs H Q E h => ?_) (fun f cdv A outer s' H vs Q E hr h => ?_)
  · obtain ⟨p, v, g, rm, ms, s, rfl, _⟩ := h
    rfl
  · obtain ⟨p, v, g, rm, ms, s, rfl, hv, hm, few, q⟩ := h
    refine ⟨_, (pss_cons (ps_if (PW.pt (pw_or (pt_not (pt_val (pe_callB call_isi (by rfl) B.isinstance (by decide +kernel) (pa_cons (pv 0) (pa_cons (pe_bltn (v := .ty "tuple") (u := .type "tuple") (by rfl) B.tuple (by decide +kernel) rfl) pa_nil))))) (pw_or1 (pt_cmpR op_ne (pe_callB call_len_seq (by rfl) B.len PySem.boot_len (pa_cons (pv 0) pa_nil)) pe_int (nomark _))))) (pss_one (ps_ret pe_bl)) pss_nil)
      (pss_one (ps_ret (pe_callB (cr_all rfl) (by rfl) B.all (by decide +kernel) (pa_cons (pe_lc (own := [("one", 3)]) (g := (gName 3)) (tt := tYes) (te := (tCall spNl [] E0 (tCons (tVar 3) (tCons (tCB (rLenK K) (tCons (tVar 1) tNil)) (tCons (tVar 2) tNil))))) (by rfl) sc_are_ages.nd (pi_tup (pv 0)) (blkOk_by (own := [("one", 3)]) (N := ["thing", "rooms", "size", "one"]) (sc := defScope s_are_ages) (by decide +kernel)) (fun _ _ _ _ _ => (pg_name (i := 3) sc_are_ages.nd rfl (Or.inl rfl))) (fun _ _ _ _ _ => pts_nil) (fun _ _ _ _ _ => (pe_own c_is_list_of_ages hr (by decide) (by rfl) (pa_cons (pv 3) (pa_cons (pe_callB call_len_seq (by rfl) B.len PySem.boot_len (pa_cons (pv 1) pa_nil)) (pa_cons (pv 2) pa_nil)))))) pa_nil))))), ?_⟩
    refine ⟨_, rfl, v, .ty "tuple", _, _, _, rfl, .ty "tuple", hv.ty, kit_tuple g, _, rfl, iteB (fun e => ?_) (fun e => ?_)⟩
    · refine iteT ?_
      rw [show false = prG ms.length s g from by cases g <;> first | rfl | cases e]
      exact q H (Same.refl H)
    cases hv with
    | @tup a vs l ea t =>
      have hl := t.len
      refine ⟨_, rfl, a, _, rfl, .inr ea.sq, rfl, _, rfl, iteB (fun e1 => ?_) (fun e1 => ?_)⟩
      · have z : ¬ l.length = 2 := fun z => by
          rw [hl, z] at e1
          simp at e1
        have e2 : prG ms.length s (.tup l) = false := by
          show (decide (l.length = 2) && (l.map (nlG ms.length s)).all id) = false
          rw [decide_eq_false z, Bool.false_and]
        rw [← e2]
        exact q H (Same.refl H)
      · have z : l.length = 2 := by
          rw [hl] at e1
          by_cases z : l.length = 2
          · exact z
          · exfalso
            have z2 : ¬ ((l.length : Int) = 2) := by omega
            simp [z2] at e1
        refine ⟨_, rfl, a, rfl, ⟨_, ea.sq⟩, fun D nD => ?_⟩
        refine lc_tup (K := K) (a := a) (xs := vs) (fun i H2 => Same H H2 ∧ H2 D = some (.lst (((l.map (nlG ms.length s)).take i).map V.bl))) ?_ ?_ ?_ ?_
        · exact ⟨same_upd nD, upd_same⟩
        · rintro i H2 _ ⟨s2, _⟩
          exact (ea.same s2).sq
        · rintro i x H2 hx ⟨s2, hD⟩
          obtain ⟨g1, e4, tg⟩ := t.get hx
          refine ⟨rfl, tyes ?_⟩
          refine ⟨_, rfl, _, rfl, rm, _, rfl, .inl (SqL.of (s2 _ _ hm)), _, rfl, p, x, g1, ms.length, s, (by rw [List.length_map]; rfl), tg.keep (Keeps.same s2), few, fun H3 s3 => ?_⟩
          refine ⟨_, s3 _ _ hD, ?_, fun c o ec => ?_, ?_⟩
          · rw [List.length_map]
            exact sz1000 (Nat.le_trans (List.length_take_le' _ _) (by rw [List.length_map]; omega))
          · rw [upd_ne (ne_of_none ec nD)]
            exact s3 _ _ (s2 _ _ ec)
          · rw [upd_same, take_map_snoc _ (show (l.map (nlG ms.length s))[i]? = some (nlG ms.length s g1) by rw [List.getElem?_map, e4]; rfl)]
        · rintro H2 ⟨s2, hD⟩
          rw [List.take_of_length_le (by rw [List.length_map]; omega)] at hD
          refine ⟨D, l.map (nlG ms.length s), rfl, SqL.of hD, ?_⟩
          have q2 := q H2 s2
          have e2 : prG ms.length s (.tup l) = (l.map (nlG ms.length s)).all id := by
            show (decide (l.length = 2) && (l.map (nlG ms.length s)).all id) = _
            rw [decide_eq_true z, Bool.true_and]
          rw [e2] at q2
          exact q2
    | _ => cases e
theorem ok_allows (T : At K mg "allows" s_allows ["pair", "come"]) (c_joined_ages : Cal P w K mg base 1 "joined_ages" ["one", "other"] spJoin) : Cal P w K mg base 2 "allows" ["pair", "come"] spAllows := by
  refine cal_of T sc_allows (fun vs H Q E h => ?_) (fun f cdv A outer s' H vs Q E hr h => ?_)
  · obtain ⟨x, y, o, c, n, s, rfl, _⟩ := h
    rfl
  · obtain ⟨x, y, o, c, n, s, rfl, hx, hy, oo, oc, n12, s1, q⟩ := h
    refine ⟨_, (pss_one (ps_ret (pe_and (pe_cmpR op_notN (pv 0) pe_non (nomark _)) (pe_one (pe_cmpR (op_eqD hr.units) (pe_own c_joined_ages hr (by decide) (by rfl) (pa_cons (pv 0) (pa_cons (pv 1) pa_nil))) (pv 0) (nomark _)))))), ?_⟩
    cases o with
    | none =>
      rw [show x = .non from hx]
      exact ⟨_, rfl, rfl, _, rfl, iteF (q H (Same.refl H))⟩
    | some p0 =>
      obtain ⟨tt, ta, tb, rfl, _⟩ := id (show PairAt H x p0 from hx)
      have op := oo p0 rfl
      refine ⟨_, rfl, rfl, _, rfl, iteT ?_⟩
      refine ⟨_, rfl, _, rfl, _, _, p0, c, n, s, rfl, hx, hy, op, oc, by omega, fun v H2 s2 hv => ?_⟩
      have f1 := (pr_fine (joinP_ok op oc) n12 s1).shaped (by decide)
      have f2 := (pr_fine op n12 s1).shaped (by decide)
      refine ⟨_, rfl, prD (joinP p0 c), prD p0, hv.at.dp, (PairAt.same hx s2).dp, f1, f2, ?_⟩
      rw [pr_eqv]
      exact q H2 s2
end
end Su
/-! ### LB: lets_ages -/
namespace Su
open PySem PySem.Spec PyProof.Rows L2
def spLets (w : World) : Sp := fun vs H Q _ => ∃ (p a : Addr) (v : V) (g : G) (rs : List Rw) (s : Int), vs = [.ref a, v, .int s] ∧ WebAt H a rs ∧ WebOk rs ∧ Tg p H v g ∧ 1 ≤ s ∧ s ≤ 8 ∧
  ∀ (ms : List Int) (H' : Hp), ms.Pairwise (· < ·) → (∀ k : Int, k ∈ ms ↔ k ∈ allRooms rs) → Same H H' → Q (.bl (letsB ms s rs g)) H'
theorem all_rows {n : Nat} {s : Int} {l : List G} (e : (l.map (celG n s)).all id = true) {i : Nat} {g : G} (h : l[i]? = some g) : celG n s g = true := by
  rw [List.all_map] at e
  exact List.all_eq_true.mp e g (List.mem_of_getElem? h)
theorem sc_lets_ages : FnScope ["web", "thing", "size", "rooms", "pair", "asks", "tos", "come", "to"] ["web", "thing", "size"] (defScope s_lets_ages) := ⟨rfl, rfl, rfl, by decide +kernel, rfl, by decide +kernel, by decide +kernel⟩
section
variable {P : Program} {w : World} {K : PySem.W.Frag} {mg : Str → Option Value} {base : Heap}
theorem ok_lets (T : AtD K mg "lets_ages" s_lets_ages ["web", "thing", "size"] [.int 4]) (B : Bt mg) (c_look_at_web : Cal P w K mg base 5 "look_at_web" ["thing"] spLook) (c_look_at_kind : Cal P w K mg base 4 "look_at_kind" ["size", "way"] spKind) (c_rooms_in : Cal P w K mg base 1 "rooms_in" ["rows"] (spRoomsIn w))
    (c_first_ages : Cal P w K mg base 1 "first_ages" ["rooms", "size"] spFirst) (c_are_ages : Cal P w K mg base 3 "are_ages" ["thing", "rooms", "size"] spPr) (c_behind_row : Cal P w K mg base 2 "behind_row" ["pair", "asks", "rooms", "size"] spBRow) (c_allows : Cal P w K mg base 2 "allows" ["pair", "come"] spAllows) :
    CalD P w K mg base 6 "lets_ages" ["web", "thing", "size"] [.int 4] (spLets w) := by
  refine cal_ofD T sc_lets_ages (fun vs H Q E h => ?_) (fun f cdv A outer s' H vs Q E hr h => ?_)
  · obtain ⟨p, a, v, g, rs, s, rfl, _⟩ := h
    rfl
  · obtain ⟨p, a, v, g, rs, s, rfl, hw, ok, hv, s1, s8, q⟩ := h
    refine ⟨_, (pss_cons (ps_expr (pe_own c_look_at_web hr (by decide) (by rfl) (pa_cons (pv 0) pa_nil)))
      (pss_cons (ps_expr (pe_own c_look_at_kind hr (by decide) (by rfl) (pa_cons (pv 2) (pa_cons pe_str pa_nil))))
      (pss_cons (ps_set (i := 3) sc_lets_ages.nd rfl (Or.inr rfl) (pe_own c_rooms_in hr (by decide) (by rfl) (pa_cons (pv 0) pa_nil)))
      (pss_cons (ps_if (PW.pt (pw_or (pt_not (pt_val (pe_callB call_isi (by rfl) B.isinstance (by decide +kernel) (pa_cons (pv 1) (pa_cons (pe_bltn (v := .ty "list") (u := .type "list") (by rfl) B.list (by decide +kernel) rfl) pa_nil))))) (pw_or1 (pt_cmpR op_ne (pe_callB call_len_seq (by rfl) B.len PySem.boot_len (pa_cons (pv 1) pa_nil)) (pe_callB call_len_seq (by rfl) B.len PySem.boot_len (pa_cons (pv 0) pa_nil)) (nomark _))))) (pss_one (ps_ret pe_bl)) pss_nil)
      (pss_cons (ps_if (pt_not (pt_val (pe_callB (cr_all rfl) (by rfl) B.all (by decide +kernel) (pa_cons (pe_lc (own := [("pair", 4)]) (g := (gName 4)) (tt := tYes) (te := (tOrV (tOp (fun x y H Q => y = V.non ∧ Q (V.bl (decide (x = V.non))) H) (tVar 4) (tC .non)) (tCall spPr [] E0 (tCons (tVar 4) (tCons (tVar 3) (tCons (tVar 2) tNil)))))) (by rfl) sc_lets_ages.nd (pi_list (pv 1)) (blkOk_by (own := [("pair", 4)]) (N := ["web", "thing", "size", "rooms", "pair", "asks", "tos", "come", "to"]) (sc := defScope s_lets_ages) (by decide +kernel)) (fun _ _ _ _ _ => (pg_name (i := 4) sc_lets_ages.nd rfl (Or.inl rfl))) (fun _ _ _ _ _ => pts_nil) (fun _ _ _ _ _ => (pe_or (pe_cmpR op_isN (pv 4) pe_non (nomark _)) (pe_one (pe_own c_are_ages hr (by decide) (by rfl) (pa_cons (pv 4) (pa_cons (pv 3) (pa_cons (pv 2) pa_nil)))))))) pa_nil)))) (pss_one (ps_ret pe_bl)) pss_nil)
      (pss_cons (ps_if (pt_cmpR (op_neD hr.units) (pe_ix ix_list (pv 1) pe_int (fun _ _ => rfl)) (pe_own c_first_ages hr (by decide) (by rfl) (pa_cons (pv 3) (pa_cons (pv 2) pa_nil))) (nomark _)) (pss_one (ps_ret pe_bl)) pss_nil)
      (pss_cons (ps_for PassesOwn.never rfl (RZ.pi_zipA (by rfl) B.zip (pa_cons (pv 1) (pa_cons (pv 0) pa_nil))) (pg_tup (by rfl) (pgs_cons (pg_name (i := 4) sc_lets_ages.nd rfl (Or.inl rfl)) (pgs_cons (pg_tup (by rfl) (pgs_cons (pg_name (i := 5) sc_lets_ages.nd rfl (Or.inl rfl)) (pgs_cons (pg_name (i := 6) sc_lets_ages.nd rfl (Or.inl rfl)) pgs_nil))) pgs_nil))) (pss_one (ps_if (pt_cmpR op_notN (pv 4) pe_non (nomark _)) (pss_cons (ps_set (i := 7) sc_lets_ages.nd rfl (Or.inr rfl) (pe_own c_behind_row hr (by decide) (by rfl) (pa_cons (pv 4) (pa_cons (pv 5) (pa_cons (pv 3) (pa_cons (pv 2) pa_nil))))))
      (pss_one (ps_if (pt_not (pt_val (pe_callB (cr_all rfl) (by rfl) B.all (by decide +kernel) (pa_cons (pe_lc (own := [("to", 8)]) (g := (gName 8)) (tt := tYes) (te := (tCall spAllows [] E0 (tCons (tOp (rIxL K) (tVar 1) (tVar 8)) (tCons (tVar 7) tNil)))) (by rfl) sc_lets_ages.nd (pi_tup (pv 6)) (blkOk_by (own := [("to", 8)]) (N := ["web", "thing", "size", "rooms", "pair", "asks", "tos", "come", "to"]) (sc := defScope s_lets_ages) (by decide +kernel)) (fun _ _ _ _ _ => (pg_name (i := 8) sc_lets_ages.nd rfl (Or.inl rfl))) (fun _ _ _ _ _ => pts_nil) (fun _ _ _ _ _ => (pe_own c_allows hr (by decide) (by rfl) (pa_cons (pe_ix ix_list (pv 1) (pv 8) (fun _ _ => rfl)) (pa_cons (pv 7) pa_nil))))) pa_nil)))) (pss_one (ps_ret pe_bl)) pss_nil))) pss_nil)))
      (pss_one (ps_ret pe_bl))))))))), ?_⟩
    refine ⟨_, rfl, a, rs, rfl, hw, ok, fun H1 t1 => ?_⟩
    refine ⟨_, rfl, s, "last", rfl, ⟨.inl rfl, by omega, by omega, fun z => absurd z (by decide +kernel)⟩, ?_⟩
    obtain ⟨A, hA, hin⟩ := ok.all
    have hw1 := hw.same t1
    refine ⟨_, rfl, a, rs, A, rfl, hw1, by omega, hin, fun ms u H2 pw mem t2 nu hu => ?_⟩
    have hw2 := hw1.same t2
    have t12 := t1.trans t2
    have m12 : ms.length ≤ 12 := by
      have := nodup_few (S := A) (pw.imp fun h => Int.ne_of_lt h) fun k hk => hin k ((mem k).mp hk)
      omega
    obtain ⟨ws, ha2, hrs⟩ := id hw2
    have wl := hrs.len
    have r80 := ok.few
    have rpos := ok.pos
    have hv2 := hv.keep (Keeps.same t12)
    have no : tabG ms.length s rs.length g = false → letsB ms s rs g = false := fun e => by
      unfold letsB
      rw [e, Bool.false_and]
    refine ⟨_, rfl, v, .ty "list", _, _, _, rfl, .ty "list", hv2.ty, kit_list g, _, rfl, iteB (fun e => ?_) (fun e => ?_)⟩
    · refine iteT ?_
      have z := no (by cases g <;> first | rfl | cases e)
      have q2 := q ms H2 pw mem t12
      rw [z] at q2
      exact q2
    cases hv2 with
    | @lst b vs l na eb t =>
      have hl := t.len
      refine ⟨_, rfl, b, _, rfl, .inl (SqL.of eb), _, rfl, a, _, rfl, .inl (SqL.of ha2), rfl, _, rfl, iteB (fun e1 => ?_) (fun e1 => ?_)⟩
      · have z : ¬ l.length = rs.length := fun z => by
          rw [hl, z, wl] at e1
          simp at e1
        have z2 := no (by show (decide (l.length = rs.length) && (l.map (celG ms.length s)).all id) = false; rw [decide_eq_false z, Bool.false_and])
        have q2 := q ms H2 pw mem t12
        rw [z2] at q2
        exact q2
      · have lr : l.length = rs.length := by
          rw [hl, wl] at e1
          by_cases z : l.length = rs.length
          · exact z
          · exfalso
            have z2 : ¬ ((l.length : Int) = (rs.length : Int)) := by omega
            simp [z2] at e1
        refine ⟨_, rfl, b, rfl, ⟨_, SqL.of eb⟩, fun D nD => ?_⟩
        refine lc_list (K := K) (a := b) (xs := vs) (fun i H3 => Same H2 H3 ∧ H3 D = some (.lst (((l.map (celG ms.length s)).take i).map V.bl))) ?_ ?_ ?_ ?_
        · exact ⟨same_upd nD, upd_same⟩
        · rintro i H3 _ ⟨s3, _⟩
          exact SqL.of (s3 _ _ eb)
        · rintro i x H3 hx ⟨s3, hD⟩
          obtain ⟨g1, e4, tg⟩ := t.get hx
          have fin : ∀ (c : Bool) (H4 : Hp), Same H3 H4 → c = celG ms.length s g1 → ∃ acc, H4 D = some (.lst acc) ∧ acc.length < sizeLine ∧ Same H2 (upd H4 D (.lst (acc ++ [V.bl c]))) ∧ (upd H4 D (.lst (acc ++ [V.bl c]))) D = some (.lst (((l.map (celG ms.length s)).take (i + 1)).map V.bl)) := by
            rintro c H4 s4 rfl
            refine ⟨_, s4 _ _ hD, ?_, fun c o ec => ?_, ?_⟩
            · rw [List.length_map]
              exact sz1000 (Nat.le_trans (List.length_take_le' _ _) (by rw [List.length_map]; omega))
            · rw [upd_ne (ne_of_none ec nD)]
              exact s4 _ _ (s3 _ _ ec)
            · rw [upd_same, take_map_snoc _ (show (l.map (celG ms.length s))[i]? = some (celG ms.length s g1) by rw [List.getElem?_map, e4]; rfl)]
          refine ⟨rfl, tyes ?_⟩
          by_cases z : g1 = .non
          · subst z
            cases tg
            exact ⟨_, rfl, rfl, _, rfl, iteT (fin true H3 (Same.refl H3) rfl)⟩
          · have xn : x ≠ .non := fun h => by
              subst h
              cases tg
              exact z rfl
            refine ⟨_, rfl, rfl, _, rfl, ?_⟩
            rw [decide_eq_false xn]
            refine iteF ⟨_, rfl, _, rfl, _, rfl, p, x, g1, u, ms, s, rfl, tg.keep (Keeps.same s3), s3 _ _ hu, by omega, fun H4 s4 => fin _ H4 s4 ?_⟩
            cases g1 <;> first | exact absurd rfl z | rfl
        · rintro H3 ⟨s3, hD⟩
          rw [List.take_of_length_le (by rw [List.length_map]; omega)] at hD
          refine ⟨D, l.map (celG ms.length s), rfl, SqL.of hD, _, rfl, ?_⟩
          have tb : tabG ms.length s rs.length (.lst l) = (l.map (celG ms.length s)).all id := by
            show (decide (l.length = rs.length) && (l.map (celG ms.length s)).all id) = _
            rw [decide_eq_true lr, Bool.true_and]
          cases hb : (l.map (celG ms.length s)).all id with
          | false =>
            have z2 := no (tb.trans hb)
            have q2 := q ms H3 pw mem (t12.trans s3)
            rw [z2] at q2
            exact iteT q2
          | true =>
            have tb1 := tb.trans hb
            have eL : letsB ms s rs (.lst l) = (decide ((l.map celO)[0]? = some (some (firstP ms.length s))) && holdB ms s rs (l.map celO)) := by
              unfold letsB
              rw [tb1, Bool.true_and]
              rfl
            refine iteF ?_
            have l0 : 0 < l.length := by omega
            have eg0 : l[0]? = some l[0] := List.getElem?_eq_getElem l0
            obtain ⟨v0, ev0, tg0⟩ := t.at eg0
            obtain ⟨c0, o0⟩ := cel_at tg0 (all_rows hb eg0)
            have ex0 : (l.map celO)[0]? = some (celO l[0]) := by rw [List.getElem?_map, eg0]; rfl
            generalize celO l[0] = o at c0 o0 ex0
            have cc := c0.same s3
            refine ⟨_, rfl, b, vs, _, _, rfl, rfl, SqL.of (s3 _ _ eb), atI_nat (j := 0) ev0, _, rfl, _, rfl, u, ms, s, rfl, s3 _ _ hu, by omega, fun v1 H4 s4 hv1 => ?_⟩
            have f0 := (o_fine o0 m12 (by omega)).shaped (by decide)
            have okf : POk ms.length s (firstP ms.length s) := firstP_ok (by omega)
            have f1 := (pr_fine okf m12 (by omega)).shaped (by decide)
            refine ⟨oD o, prD (firstP ms.length s), (cc.same s4).dp, hv1.at.dp, f0, f1, _, rfl, ?_⟩
            rw [show PyData.eqv (oD o) (prD (firstP ms.length s)) = decide (o = some (firstP ms.length s)) from o_eqv o (some (firstP ms.length s))]
            have t14 := (t12.trans s3).trans s4
            have s24 := s3.trans s4
            by_cases zf : o = some (firstP ms.length s)
            · rw [decide_eq_true zf]
              refine iteF ?_
              have e0t : decide ((l.map celO)[0]? = some (some (firstP ms.length s))) = true := decide_eq_true (by rw [ex0, zf])
              rw [e0t, Bool.true_and] at eL
              refine ⟨_, rfl, _, rfl, b, a, _, _, rfl, .inl ⟨SqL.of (s24 _ _ eb), SqL.of (s24 _ _ ha2), ?_⟩⟩
              refine RZ.for_zipL (K := K) (a := b) (b := a) (xs := vs) (ys := ws) (by omega) (fun i σ H5 => ∃ y4 y5 y6 y7 y8 : Option V, σ = [some (.ref a), some (.ref b), some (.int s), some (.ref u), y4, y5, y6, y7, y8] ∧ Same H2 H5 ∧ ∀ j < i, holdR ms s (l.map celO) (rs.getD j ([], [])) ((l.map celO).getD j none) = true) ?_ ?_ ?_ ?_
              · exact ⟨none, none, none, none, none, rfl, s24, fun j h => absurd h (Nat.not_lt_zero j)⟩
              · rintro i σ H5 ⟨_, _, _, _, _, _, s5, _⟩
                exact ⟨SqL.of (s5 _ _ eb), SqL.of (s5 _ _ ha2)⟩
              · rintro i x y T σ H5 hx hy ⟨y4, y5, y6, y7, y8, rfl, s5, hold⟩ nT
                have sT : Same H5 (upd H5 T (.tup [x, y])) := same_upd nT
                obtain ⟨g1, e4, tg⟩ := t.get hx
                obtain ⟨r, er, ra, rb, rc, rfl, hra, hrb, hrc⟩ := hrs.get hy
                have rok := ok.row r (List.mem_of_getElem? er)
                obtain ⟨c1, o1⟩ := cel_at tg (all_rows hb e4)
                have ex1 : (l.map celO)[i]? = some (celO g1) := by rw [List.getElem?_map, e4]; rfl
                generalize celO g1 = o1v at c1 o1 ex1
                have egd : (l.map celO).getD i none = o1v := by rw [List.getD_eq_getElem?_getD, ex1]; rfl
                have erd : rs.getD i ([], []) = r := by rw [List.getD_eq_getElem?_getD, er]; rfl
                have s6 := s5.trans sT
                have hold2 : holdR ms s (l.map celO) r o1v = true → ∀ j < i + 1, holdR ms s (l.map celO) (rs.getD j ([], [])) ((l.map celO).getD j none) = true := fun h j hj => by
                  by_cases ji : j = i
                  · subst ji
                    rw [egd, erd]
                    exact h
                  · exact hold j (by omega)
                refine ⟨T, _, rfl, .inl (.inl upd_same), rfl, _, _, rfl, _, _, rfl, ra, _, rfl, (hra.same s6).sq, rfl, _, _, rfl, _, _, rfl, rfl, rfl, ?_⟩
                cases o1v with
                | none =>
                  have xe : x = .non := c1
                  rw [xe]
                  exact ⟨_, rfl, rfl, _, rfl, iteF ⟨_, _, _, _, _, rfl, by rw [← xe]; exact s6, hold2 rfl⟩⟩
                | some p0 =>
                  obtain ⟨tt, ta, tb', rfl, _⟩ := id (show PairAt H2 x p0 from c1)
                  have op := o1 p0 rfl
                  have rin : ∀ k ∈ r.1, k ∈ ms := fun k hk => (mem k).mpr (List.mem_flatten.mpr ⟨r.1, List.mem_map.mpr ⟨r, List.mem_of_getElem? er, rfl⟩, hk⟩)
                  have few6 : r.1.length ≤ 100 := by
                    have := rok.few
                    omega
                  refine ⟨_, rfl, rfl, _, rfl, iteT ?_⟩
                  refine ⟨_, rfl, _, rfl, _, rfl, _, rfl, _, rb, u, r, p0, ms, s, rfl, PairAt.same c1 s6, hrb.same s6, s6 _ _ hu, op, rin, few6, by omega, by omega, by omega, fun cv H7 t7 hcv => ?_⟩
                  have s7 := s6.trans t7
                  have okc : POk ms.length s (comeP ms s r p0) := rowP_ok (by omega) op _
                  have hcc : PairAt H7 cv (comeP ms s r p0) := by
                    rcases hcv with h | ⟨rfl, e⟩
                    · exact h.at
                    · rw [e]
                      exact PairAt.same c1 s7
                  refine ⟨_, rfl, rc, rfl, ⟨_, (hrc.same s7).sq⟩, fun D2 nD2 => ?_⟩
                  refine lc_tup (K := K) (a := rc) (xs := r.2.map V.int) (fun i H8 => Same H7 H8 ∧ H8 D2 = some (.lst (((r.2.map (holdT (l.map celO) (comeP ms s r p0))).take i).map V.bl))) ?_ ?_ ?_ ?_
                  · exact ⟨same_upd nD2, upd_same⟩
                  · rintro i H8 _ ⟨s8', _⟩
                    exact (hrc.same (s7.trans s8')).sq
                  · rintro i v H8 hv ⟨s8', hD2⟩
                    obtain ⟨tt2, et, rfl⟩ := map_get_int hv
                    have tin := List.mem_of_getElem? et
                    have tg0 := rok.tos.lo _ tin
                    have tg1 := rok.tos.hi _ tin
                    obtain ⟨tn, rfl⟩ : ∃ tn : Nat, tt2 = (tn : Int) := ⟨tt2.toNat, by omega⟩
                    have tl : tn < l.length := by omega
                    have eg2 : l[tn]? = some l[tn] := List.getElem?_eq_getElem tl
                    obtain ⟨v2, ev2, tg2⟩ := t.at eg2
                    obtain ⟨c2, o2⟩ := cel_at tg2 (all_rows hb eg2)
                    have ex2 : (l.map celO)[tn]? = some (celO l[tn]) := by rw [List.getElem?_map, eg2]; rfl
                    generalize celO l[tn] = o2v at c2 o2 ex2
                    have s28 := s7.trans s8'
                    refine ⟨rfl, tyes ?_⟩
                    refine ⟨_, rfl, _, rfl, b, vs, _, _, rfl, rfl, SqL.of (s28 _ _ eb), atI_nat ev2, _, rfl, v2, cv, o2v, comeP ms s r p0, ms.length, s, rfl, c2.same s28, hcc.same s8', o2, okc, m12, by omega, fun H9 s9 => ?_⟩
                    have eh : allowB o2v (comeP ms s r p0) = holdT (l.map celO) (comeP ms s r p0) (tn : Int) := by
                      unfold holdT
                      rw [Int.toNat_natCast, ex2]
                    rw [eh]
                    refine ⟨_, s9 _ _ hD2, ?_, fun c o ec => ?_, ?_⟩
                    · rw [List.length_map]
                      have := ris_len rok.tos
                      exact sz1000 (Nat.le_trans (List.length_take_le' _ _) (by rw [List.length_map]; omega))
                    · rw [upd_ne (ne_of_none ec nD2)]
                      exact s9 _ _ (s8' _ _ ec)
                    · rw [upd_same, take_map_snoc _ (show (r.2.map (holdT (l.map celO) (comeP ms s r p0)))[i]? = some (holdT (l.map celO) (comeP ms s r p0) (tn : Int)) by rw [List.getElem?_map, et]; rfl)]
                  · rintro H8 ⟨s8', hD2⟩
                    rw [List.take_of_length_le (by rw [List.length_map, List.length_map]; omega)] at hD2
                    refine ⟨D2, r.2.map (holdT (l.map celO) (comeP ms s r p0)), rfl, SqL.of hD2, _, rfl, ?_⟩
                    have eR : holdR ms s (l.map celO) r (some p0) = (r.2.map (holdT (l.map celO) (comeP ms s r p0))).all id := by
                      show r.2.all (holdT (l.map celO) (comeP ms s r p0)) = _
                      rw [List.all_map]
                      rfl
                    cases hc : (r.2.map (holdT (l.map celO) (comeP ms s r p0))).all id with
                    | true => exact iteF ⟨_, _, _, _, _, rfl, s7.trans s8', hold2 (eR.trans hc)⟩
                    | false =>
                      have q2 := q ms H8 pw mem (t12.trans (s7.trans s8'))
                      have eH : holdB ms s rs (l.map celO) = false := by
                        unfold holdB
                        rw [List.all_eq_false]
                        refine ⟨i, List.mem_range.mpr (List.getElem?_eq_some_iff.mp er).1, ?_⟩
                        rw [egd, erd, eR, hc]
                        exact Bool.false_ne_true
                      rw [eL, eH] at q2
                      exact iteT q2
              · rintro σ H5 ⟨y4, y5, y6, y7, y8, rfl, s5, hold⟩
                have q2 := q ms H5 pw mem (t12.trans s5)
                have eH : holdB ms s rs (l.map celO) = true := by
                  unfold holdB
                  rw [List.all_eq_true]
                  intro i hi
                  exact hold i (by have := List.mem_range.mp hi; omega)
                rw [eL, eH] at q2
                exact q2
            · rw [decide_eq_false zf]
              have q2 := q ms H4 pw mem t14
              have e0f : decide ((l.map celO)[0]? = some (some (firstP ms.length s))) = false := decide_eq_false (by rw [ex0]; exact fun h => zf (by injection h))
              rw [eL, e0f, Bool.false_and] at q2
              exact iteT q2
    | _ => cases e
end
end Su
/-! ### F2: the law's webs -/
namespace Su
open PySem PySem.Spec PyProof.Rows L2
def spLTos : Sp := fun vs H Q _ => ∃ (p : Addr) (row many : Int), vs = [.ref p, .int row, .int many] ∧ PoolAt H p ∧ 0 ≤ row ∧ 1 ≤ many ∧ many < 1000 ∧
  ∀ (t : Addr) (H' : Hp) (ns : List Int), Kept p H H' → PoolAt H' p → T2 H' t (ns.map V.int) → Ris 0 (many - 1) ns → Q (.ref t) H'
def spLWeb : Sp := fun vs H Q _ => ∃ (p : Addr) (mr mo : Int), vs = [.ref p, .int mr, .int mo] ∧ PoolAt H p ∧ 1 ≤ mr ∧ mr ≤ 80 ∧ 1 ≤ mo ∧ mo ≤ 12 ∧
  ∀ (u : Addr) (H' : Hp) (rs : List Rw), H u = none → Kept p H H' → PoolAt H' p → WebAt H' u rs → WebOk rs → (rs.length : Int) ≤ mr → (∃ S : List Int, (S.length : Int) ≤ mo ∧ ∀ k ∈ allRooms rs, k ∈ S) → Q (.ref u) H'
theorem sc_law_tos : FnScope ["_law_pool_here", "_law_row", "_law_many", "_law_way", "_law_found", "_law_turn"] ["_law_pool_here", "_law_row", "_law_many"] (defScope s_law_tos) := ⟨rfl, rfl, rfl, by decide +kernel, rfl, by decide +kernel, by decide +kernel⟩
theorem sc_law_web : FnScope ["_law_pool_here", "_law_most_rows", "_law_most_rooms", "_law_many", "_law_rooms", "_law_web_here", "_law_row", "_law_asked_for"] ["_law_pool_here", "_law_most_rows", "_law_most_rooms"] (defScope s_law_web) := ⟨rfl, rfl, rfl, by decide +kernel, rfl, by decide +kernel, by decide +kernel⟩
section
variable {P : Program} {w : World} {K : PySem.W.Frag} {mg : Str → Option Value} {base : Heap}
theorem ok_ltos (T : At K mg "_law_tos" s_law_tos ["_law_pool_here", "_law_row", "_law_many"]) (B : Bt mg) (c_take : Cal P w K mg base 1 "_law_take" ["_law_pool_here", "_law_many"] spTake) : Cal P w K mg base 2 "_law_tos" ["_law_pool_here", "_law_row", "_law_many"] spLTos := by
  refine cal_of T sc_law_tos (fun vs H Q E h => ?_) (fun f cdv A outer s H vs Q E hr h => ?_)
  · obtain ⟨p, row, many, rfl, _⟩ := h
    rfl
  · obtain ⟨p, row, many, rfl, hp, r0, m1, m2, q⟩ := h
    refine ⟨_, (pss_cons (ps_set (i := 3) sc_law_tos.nd rfl (Or.inl rfl) (pe_own c_take hr (by decide) (by rfl) (pa_cons (pv 0) (pa_cons pe_int pa_nil))))
      (pss_cons (ps_set (i := 4) sc_law_tos.nd rfl (Or.inl rfl) pe_dnewK)
      (pss_cons (ps_if (PW.pt (pw_and (pt_cmpR op_gt (pv 3) pe_int (nomark _)) (pw_and1 (pt_cmpR op_lt (pe_op op_add (pv 1) pe_int) (pv 2) (nomark _))))) (pss_one (ps_dput (hu_of hr) (pv 4) (pe_op op_add (pv 1) pe_int) pe_bl rfl)) pss_nil)
      (pss_cons (ps_for PassesOwn.never rfl (pi_range1 (by rfl) B.range (pa_cons (pe_ix ix_list (pe_lst (pa_cons pe_int (pa_cons pe_int (pa_cons pe_int (pa_cons pe_int (pa_cons pe_int (pa_cons pe_int (pa_cons pe_int (pa_cons pe_int pa_nil))))))))) (pv 3) (fun _ _ => rfl)) pa_nil)) (pg_name (i := 5) sc_law_tos.nd rfl (Or.inl rfl)) (pss_one (ps_dput (hu_of hr) (pv 4) (pe_own c_take hr (by decide) (by rfl) (pa_cons (pv 0) (pa_cons (pv 2) pa_nil))) pe_bl rfl)))
      (pss_one (ps_ret (pe_callTy call_tupleF (by rfl) B.tuple (by decide +kernel) (pa_cons (pe_callB (cr_sortedDI rfl) (by rfl) B.sorted (by decide +kernel) (pa_cons (pv 4) pa_nil)) pa_nil)))))))), ?_⟩
    refine ⟨_, rfl, p, 8, rfl, hp, by decide, by decide, fun wy o w0 w1 po => ?_⟩
    have hp1 : PoolAt (upd H p o) p := ⟨o, upd_same, po⟩
    have hk1 : Kept p H (upd H p o) := Kept.upd p H o
    refine fun D nD => ?_
    have eDp : D ≠ p := pool_ne hp1 nD
    have nD0 : H D = none := hk1.free eDp nD
    -- the end, from any dict
    have fin : ∀ (H2 : Hp) (kvs : List (Key × V)) (ks : List Int), H2 D = some (.dK kvs) → KeysI kvs ks → ks.Nodup → ks.length ≤ 1 → (∀ k ∈ ks, 0 ≤ k ∧ k < many) → PoolAt H2 p → Kept p H H2 → ∀ y5 : Option V,
        tSeq (tFor (iRng1 (tCons (tOp (rIxL K) (tLst (tCons (tC (.int 0)) (tCons (tC (.int 0)) (tCons (tC (.int 0)) (tCons (tC (.int 1)) (tCons (tC (.int 1)) (tCons (tC (.int 1)) (tCons (tC (.int 2)) (tCons (tC (.int 2)) tNil))))))))) (tVar 3)) tNil)) (gName 5)
          (sDPut (tVar 4) (tCall spTake [] E0 (tCons (tVar 0) (tCons (tVar 2) tNil))) (tC (.bl true)))) (tRet (tCB (rTupL K) (tCons (tCB rSortedDI (tCons (tVar 4) tNil)) tNil))) { nx := fun _ H' => Q .non H', rt := Q } [some (.ref p), some (.int row), some (.int many), some (.int wy), some (.ref D), y5] H2 := by
      intro H2 kvs ks hD hks nd hl hb hp2 k2 y5
      refine ⟨(by show 8 ≤ sizeLine; decide), fun L nL => ?_⟩
      have eLp : L ≠ p := pool_ne hp2 nL
      have eLD : D ≠ L := ne_of_none hD nL
      obtain ⟨v, hv, ev⟩ := cons_nil_fin (xs := [V.int 0, .int 0, .int 0, .int 1, .int 1, .int 1, .int 2, .int 2]) 8 rfl w0 w1
      obtain ⟨n, en, hn⟩ : ∃ n : Nat, v = .int n ∧ n ≤ 2 := by
        simp only [List.mem_cons, List.not_mem_nil, or_false] at hv
        rcases hv with e | e | e | e | e | e | e | e
        all_goals first
          | exact ⟨0, e, by decide⟩
          | exact ⟨1, e, by decide⟩
          | exact ⟨2, e, by decide⟩
      subst en
      refine ⟨_, rfl, L, _, _, _, rfl, rfl, SqL.of upd_same, ev, ?_⟩
      refine ⟨(n : Int), rfl, by omega, by omega, ?_⟩
      rw [show ((n : Int)).toNat = n by omega]
      refine for_range (lo := 0) (n := n) (fun i σ H3 => ∃ (kvs : List (Key × V)) (ks : List Int) (y5 : Option V), σ = [some (.ref p), some (.int row), some (.int many), some (.int wy), some (.ref D), y5] ∧ H3 D = some (.dK kvs) ∧ KeysI kvs ks ∧ ks.Nodup ∧ kvs.length ≤ 1 + i ∧ (∀ k ∈ ks, 0 ≤ k ∧ k < many) ∧ PoolAt H3 p ∧ Kept p H H3) ?_ ?_ ?_
      · exact ⟨kvs, ks, y5, rfl, (by rw [upd_ne eLD]; exact hD), hks, nd, (by rw [hks.len]; exact hl), hb, hp2.upd eLp.symm, k2.trans (Kept.same (same_upd nL))⟩
      · rintro i σ H3 hi ⟨kvs, ks, y5, rfl, hD3, hks3, nd3, hl3, hb3, hp3, k3⟩
        refine ⟨_, rfl, _, rfl, _, rfl, p, many, rfl, hp3, m1, by omega, fun r o2 r0 r1 po2 => ?_⟩
        have hD4 : (upd H3 p o2) D = some (.dK kvs) := by
          rw [upd_ne eDp]
          exact hD3
        obtain ⟨ks', h1, h2, h3⟩ := hks3.put nd3 r (.bl true)
        refine ⟨D, _, rfl, DPut.k (k := Sum.inl r) hD4 (small1000 (by omega)), ?_⟩
        refine ⟨_, ks', _, rfl, upd_same, h1, h2, ?_, fun k hk => ?_, PoolAt.upd ⟨o2, upd_same, po2⟩ eDp.symm, (k3.trans (Kept.upd p H3 o2)).set nD0⟩
        · have := length_putK kvs (Sum.inl r) (.bl true)
          omega
        · rcases (h3 k).mp hk with z | z
          · exact hb3 k z
          · rw [z]
            exact ⟨r0, r1⟩
      · rintro σ H3 ⟨kvs, ks, y5, rfl, hD3, hks3, nd3, hl3, hb3, hp3, k3⟩
        refine ⟨_, rfl, D, kvs, ks, rfl, hD3, hks3, (by rw [← hks3.len]; omega), fun ys u pm so nu => ?_⟩
        refine ⟨u, _, rfl, SqL.of upd_same, fun t H4 s4 nt pt => ?_⟩
        have eup : u ≠ p := pool_ne hp3 nu
        refine q t H4 ys (k3.trans (Kept.same ((same_upd nu).trans s4))) ((hp3.upd eup.symm).same s4) (.inl pt) ⟨pw_lt so (pm.nodup_iff.mpr nd3), fun k hk => (hb3 k (pm.subset hk)).1, fun k hk => ?_⟩
        have := (hb3 k (pm.subset hk)).2
        omega
    have hk2 : Kept p H (upd (upd H p o) D (.dK [])) := hk1.set nD0
    have hp2 : PoolAt (upd (upd H p o) D (.dK [])) p := hp1.upd eDp.symm
    refine ⟨_, rfl, _, _, rfl, rfl, _, rfl, iteB (fun z1 => ?_) (fun z1 => iteF ?_)⟩
    · refine ⟨_, rfl, _, _, rfl, rfl, _, rfl, _, _, rfl, rfl, _, rfl, iteB (fun z2 => ?_) (fun z2 => ?_)⟩
      · have z3 : row + 1 < many := of_decide_eq_true z2
        refine ⟨_, rfl, _, rfl, _, _, rfl, rfl, D, _, rfl, DPut.k (k := Sum.inl (row + 1)) upd_same (small1000 (by decide)), ?_⟩
        refine fin _ [(Sum.inl (row + 1), .bl true)] [row + 1] upd_same rfl (by simp) (Nat.le_refl _) (fun k hk => ?_) (hp2.upd eDp.symm) (hk2.set nD0) none
        rw [List.mem_singleton.mp hk]
        omega
      · exact fin _ [] [] upd_same rfl (by simp) (by decide) (fun k hk => (List.not_mem_nil hk).elim) hp2 hk2 none
    · exact fin _ [] [] upd_same rfl (by simp) (by decide) (fun k hk => (List.not_mem_nil hk).elim) hp2 hk2 none
theorem ok_lweb (T : At K mg "_law_web" s_law_web ["_law_pool_here", "_law_most_rows", "_law_most_rooms"]) (B : Bt mg) (c_take : Cal P w K mg base 1 "_law_take" ["_law_pool_here", "_law_many"] spTake) (c_picked : Cal P w K mg base 2 "_law_picked" ["_law_pool_here", "_law_some", "_law_many"] (spPicked K))
    (c_tos : Cal P w K mg base 2 "_law_tos" ["_law_pool_here", "_law_row", "_law_many"] spLTos) : Cal P w K mg base 3 "_law_web" ["_law_pool_here", "_law_most_rows", "_law_most_rooms"] spLWeb := by
  refine cal_of T sc_law_web (fun vs H Q E h => ?_) (fun f cdv A outer s H vs Q E hr h => ?_)
  · obtain ⟨p, mr, mo, rfl, _⟩ := h
    rfl
  · obtain ⟨p, mr, mo, rfl, hp, r1, r80, o1, o12, q⟩ := h
    refine ⟨_, (pss_cons (ps_set (i := 3) sc_law_web.nd rfl (Or.inl rfl) (pe_op op_add pe_int (pe_own c_take hr (by decide) (by rfl) (pa_cons (pv 0) (pa_cons (pv 1) pa_nil)))))
      (pss_cons (ps_set (i := 4) sc_law_web.nd rfl (Or.inl rfl) (pe_own c_picked hr (by decide) (by rfl) (pa_cons (pv 0) (pa_cons (pe_listRg rfl (by rfl) B.list (prg_1 (by rfl) B.range pe_int)) (pa_cons (pe_op op_add pe_int (pe_own c_take hr (by decide) (by rfl) (pa_cons (pv 0) (pa_cons (pv 2) pa_nil)))) pa_nil)))))
      (pss_cons (ps_set (i := 5) sc_law_web.nd rfl (Or.inl rfl) (pe_lst pa_nil))
      (pss_cons (ps_for PassesOwn.never rfl (pi_range1 (by rfl) B.range (pa_cons (pv 3) pa_nil)) (pg_name (i := 6) sc_law_web.nd rfl (Or.inl rfl)) (pss_cons (ps_set (i := 7) sc_law_web.nd rfl (Or.inl rfl) (pe_own c_picked hr (by decide) (by rfl) (pa_cons (pv 0) (pa_cons (pv 4) (pa_cons (pe_ix ix_list (pe_lst (pa_cons pe_int (pa_cons pe_int (pa_cons pe_int (pa_cons pe_int (pa_cons pe_int (pa_cons pe_int (pa_cons pe_int pa_nil)))))))) (pe_own c_take hr (by decide) (by rfl) (pa_cons (pv 0) (pa_cons pe_int pa_nil))) (fun _ _ => rfl)) pa_nil)))))
      (pss_one (ps_expr (pe_bm PySem.F.plainAttrs_list PySem.F.slot_list_append PySem.F.type_list_append mt_append (pv 5) (pa_cons (pe_tupF (pa_cons (pe_callTy call_tupleF (by rfl) B.tuple (by decide +kernel) (pa_cons (pv 7) pa_nil)) (pa_cons (pe_own c_tos hr (by decide) (by rfl) (pa_cons (pv 0) (pa_cons (pv 6) (pa_cons (pv 3) pa_nil)))) pa_nil))) pa_nil))))))
      (pss_one (ps_ret (pv 5))))))), ?_⟩
    refine ⟨_, rfl, _, rfl, p, mr, rfl, hp, r1, by omega, fun rr o rr0 rr1 po => ?_⟩
    have hp1 : PoolAt (upd H p o) p := ⟨o, upd_same, po⟩
    obtain ⟨n, hn⟩ : ∃ n : Nat, 1 + rr = (n : Int) := ⟨(1 + rr).toNat, by omega⟩
    refine ⟨_, _, rfl, rfl, ?_⟩
    refine ⟨_, rfl, 100, rfl, ⟨by decide, by decide, by decide, by decide, by decide⟩, fun b nb => ?_⟩
    rw [hundred_rg]
    have ebp : b ≠ p := pool_ne hp1 nb
    refine ⟨_, rfl, _, rfl, p, mo, rfl, hp1.upd ebp.symm, o1, by omega, fun ro o2 ro0 ro1 po2 => ?_⟩
    refine ⟨_, _, rfl, rfl, p, b, hundred, _, rfl, ⟨o2, upd_same, po2⟩, SqL.of (by rw [upd_ne ebp, upd_same]), ebp, hundred_nd, (by rw [hundred_len]; decide), (by omega), fun ra H2 ms nra k2 hp2 hra nd hsub hml hle => ?_⟩
    have kk2 : Kept p H H2 := ((Kept.upd p H o).trans ((Kept.same (same_upd nb)).trans (Kept.upd p _ o2))).trans k2
    have erp : ra ≠ p := (free_upd nra).1
    have hml12 : ms.length ≤ 12 := by
      rw [hml]
      omega
    have hr99 : ∀ k ∈ ms, 0 ≤ k ∧ k ≤ 99 := fun k hk => by
      have := hundred_mem (hsub k hk)
      omega
    have hall : ∀ rs : List Rw, (∀ r ∈ rs, RowOk n r ∧ ∀ k ∈ r.1, k ∈ ms) → ∀ k ∈ allRooms rs, k ∈ ms := by
      intro rs hrow k hk
      obtain ⟨l, hl, hk⟩ := List.mem_flatten.mp hk
      obtain ⟨r, hr, rfl⟩ := List.mem_map.mp hl
      exact (hrow r hr).2 k hk
    refine ⟨(by show 0 ≤ sizeLine; decide), fun wa nwa => ?_⟩
    have ewp : wa ≠ p := pool_ne hp2 nwa
    have ewr : ra ≠ wa := ne_of_none hra nwa
    have nwa0 : H wa = none := kk2.free ewp nwa
    refine ⟨_, rfl, _, congrArg (fun z => [V.int z]) hn, by omega, by omega, ?_⟩
    rw [show ((n : Int)).toNat = n by omega]
    refine for_range (lo := 0) (n := n) (fun i σ H3 => ∃ (y6 y7 : Option V) (ws : List V) (rs : List Rw), σ = [some (.ref p), some (.int mr), some (.int mo), some (.int n), some (.ref ra), some (.ref wa), y6, y7] ∧ H3 wa = some (.lst ws) ∧ RowsAt H3 ws rs ∧ rs.length = i ∧ (∀ r ∈ rs, RowOk n r ∧ ∀ k ∈ r.1, k ∈ ms) ∧ H3 ra = some (.lst (ms.map V.int)) ∧ PoolAt H3 p ∧ Kept p H H3) ?_ ?_ ?_
    · refine ⟨none, none, [], [], ?_, upd_same, trivial, rfl, fun r hr => (List.not_mem_nil hr).elim, (by rw [upd_ne ewr]; exact hra), hp2.upd ewp.symm, kk2.set nwa0⟩
      rw [← hn]
      rfl
    · rintro i σ H3 hi ⟨y6, y7, ws, rs, rfl, hwa, hrs, hlen, hrow, hra3, hp3, k3⟩
      have hwl := hrs.len
      refine ⟨_, rfl, _, rfl, (by show 7 ≤ sizeLine; decide), fun L nL => ?_⟩
      have eLp : L ≠ p := pool_ne hp3 nL
      refine ⟨_, rfl, p, 7, rfl, hp3.upd eLp.symm, by decide, by decide, fun r3 o3 r30 r31 po3 => ?_⟩
      obtain ⟨v, hv, ev⟩ := cons_nil_fin (xs := [V.int 1, .int 1, .int 1, .int 1, .int 0, .int 2, .int 3]) 7 rfl r30 r31
      obtain ⟨m, em, hm⟩ : ∃ m : Nat, v = .int m ∧ m ≤ 3 := by
        simp only [List.mem_cons, List.not_mem_nil, or_false] at hv
        rcases hv with e | e | e | e | e | e | e
        all_goals first
          | exact ⟨0, e, by decide⟩
          | exact ⟨1, e, by decide⟩
          | exact ⟨2, e, by decide⟩
          | exact ⟨3, e, by decide⟩
      subst em
      have eLra : ra ≠ L := ne_of_none hra3 nL
      refine ⟨L, _, _, _, rfl, rfl, SqL.of (by rw [upd_ne eLp, upd_same]), ev, ?_⟩
      refine ⟨p, ra, ms, _, rfl, ⟨o3, upd_same, po3⟩, SqL.of (by rw [upd_ne erp, upd_ne eLra]; exact hra3), erp, nd, by omega, by omega, fun q1 H4 m1 nq1 k4 hp4 hq1 nd1 sub1 len1 le1 => ?_⟩
      have kk4 : Kept p H3 H4 := ((Kept.same (same_upd nL)).trans (Kept.upd p _ o3)).trans k4
      have hwa4 : H4 wa = some (.lst ws) := kk4 _ _ hwa ewp
      refine ⟨_, rfl, .inl ⟨rfl, _, SqL.of hwa4⟩, _, rfl, q1, _, rfl, SqL.of hq1, fun u5 H5 s5 nu5 pu5 => ?_⟩
      refine ⟨_, rfl, _, rfl, _, rfl, p, 0 + (i : Int), (n : Int), rfl, hp4.same s5, by omega, by omega, by omega, fun u6 H6 tos k6 hp6 hu6 ris6 => ?_⟩
      refine ⟨(by show 2 ≤ sizeLine; decide), fun t3 H7 s7 nt3 pt3 => ?_⟩
      have kk7 : Kept p H3 H7 := ((kk4.trans (Kept.same s5)).trans k6).trans (Kept.same s7)
      have hwa7 : H7 wa = some (.lst ws) := kk7 _ _ hwa ewp
      refine ⟨wa, _, _, rfl, rfl, hwa7, small1000 (by omega), ?_⟩
      refine ⟨_, _, ws ++ [.ref t3], rs ++ [(m1, tos)], rfl, upd_same, ?_, (by rw [List.length_append, hlen]; rfl), fun r hr => ?_, ?_, ?_, ?_⟩
      · have kz : K2 H7 (upd H7 wa (.lst (ws ++ [.ref t3]))) := K2.lst hwa7
        refine RowsAt.snoc (hrs.keep ((K2.of kk7 hp3).trans kz)) ⟨t3, u5, u6, rfl, kz _ _ (.inl pt3), kz _ _ ((K2.of k6 (hp4.same s5) _ _ (.inl pu5)).same s7), kz _ _ (hu6.same s7)⟩
      · rcases List.mem_append.mp hr with z | z
        · exact hrow r z
        · rw [List.mem_singleton.mp z]
          refine ⟨⟨⟨pw_lt le1 nd1, fun k hk => (hr99 k (sub1 k hk)).1, fun k hk => (hr99 k (sub1 k hk)).2⟩, ?_, ris6⟩, sub1⟩
          show m1.length ≤ 6
          omega
      · rw [upd_ne ewr]
        exact kk7 _ _ hra3 erp
      · exact (hp6.same s7).upd ewp.symm
      · exact (k3.trans kk7).set nwa0
    · rintro σ H3 ⟨y6, y7, ws, rs, rfl, hwa, hrs, hlen, hrow, hra3, hp3, k3⟩
      refine ⟨_, rfl, q wa H3 rs nwa0 k3 hp3 ⟨ws, hwa, hrs⟩ ⟨by omega, by omega, fun r hr => (by rw [hlen]; exact (hrow r hr).1), ms, hml12, hall rs hrow⟩ (by omega) ⟨ms, by rw [hml]; omega, hall rs hrow⟩⟩
end
end Su
/-! ### AS: the law's own ages behind asks and rows -/
namespace Su
open PySem PySem.Spec PyProof.Rows L2
abbrev rInt1 : List V → Hp → VK → Prop := fun xs H Q => (∃ i, xs = [.int i] ∧ Q (.int i) H) ∨ ∃ k, xs = [.bl k] ∧
  Q (.int (if k then 1 else 0)) H
def spBoth : Sp := fun vs H Q _ => ∃ (x y : V), vs = [x, y] ∧ ((x = .non ∧ Q y H) ∨ ∃ (p q : Pr) (n : Nat) (s : Int), PairAt H x p ∧ PairAt H y q ∧ POk n s p ∧ POk n s q ∧ n ≤ 1000 ∧ ∀ v H', Same H H' → PairN H H' v (joinP p q) → Q v H')
def spLBeh : Sp := fun vs H Q _ => ∃ (a rm : Addr) (rs : List Rw) (k : Nat) (r : Rw) (x : V) (p : Pr) (ms : List Int) (s : Int), vs = [.ref a, .ref rm, .int (k : Nat), x, .int s] ∧ WebAt H a rs ∧ rs[k]? = some r ∧ PairAt H x p ∧ H rm = some (.lst (ms.map V.int)) ∧ POk ms.length s p ∧ (∀ k ∈ r.1, k ∈ ms) ∧ r.1.length ≤ 100 ∧ ms.length ≤ 1000 ∧ 0 ≤ s ∧ s ≤ 1000 ∧ ∀ v H', Same H H' → (PairN H H' v (comeP ms s r p) ∨ (v = x ∧ comeP ms s r p = p)) → Q v H'
theorem sc_law_aged : FnScope ["_law_found", "_law_at", "_law_size", "_law_aboves", "_law_belows", "_law_one", "_law_other", "_law_k"] ["_law_found", "_law_at", "_law_size"] (defScope s_law_aged) := ⟨rfl, rfl, rfl, by decide +kernel, rfl, by decide +kernel, by decide +kernel⟩
theorem sc_law_both_ages : FnScope ["_law_one", "_law_other", "_law_aboves", "_law_pair"] ["_law_one", "_law_other"] (defScope s_law_both_ages) := ⟨rfl, rfl, rfl, by decide +kernel, rfl, by decide +kernel, by decide +kernel⟩
theorem sc_law_behind : FnScope ["_law_web_here", "_law_rooms", "_law_row", "_law_found", "_law_size", "_law_later", "_law_one"] ["_law_web_here", "_law_rooms", "_law_row", "_law_found", "_law_size"] (defScope s_law_behind) := ⟨rfl, rfl, rfl, by decide +kernel, rfl, by decide +kernel, by decide +kernel⟩
section
variable {P : Program} {w : World} {K : PySem.W.Frag} {mg : Str → Option Value} {base : Heap}
theorem ok_aged (T : At K mg "_law_aged" s_law_aged ["_law_found", "_law_at", "_law_size"]) (B : Bt mg) : Cal P w K mg base 1 "_law_aged" ["_law_found", "_law_at", "_law_size"] spBAsk := by
  refine cal_of T sc_law_aged (fun vs H Q E h => ?_) (fun f cdv A outer s H vs Q E hr h => ?_)
  · obtain ⟨x, p, k, n, s, rfl, _⟩ := h
    rfl
  · obtain ⟨x, p, k, n, s, rfl, hx, op, kn, few, s1, q⟩ := h
    refine ⟨_, (pss_cons (ps_asg (pv 0) (pg_tup (by rfl) (pgs_cons (pg_name (i := 3) sc_law_aged.nd rfl (Or.inr rfl)) (pgs_cons (pg_name (i := 4) sc_law_aged.nd rfl (Or.inr rfl)) pgs_nil))))
      (pss_cons (ps_setLc (i := 5) (own := [("_law_k", 7)]) (g := (gName 7)) (tt := tYes) (te := (tOp (rI0 fun i j => .int (i + j)) (tOp (rIxL K) (tVar 3) (tVar 7)) (tCB rInt1 (tCons (tOp (rI0 fun i j => .bl (decide (i < j))) (tOp (rIxL K) (tVar 3) (tVar 7)) (tOp (rIxL K) (tVar 3) (tVar 1))) tNil)))) (by rfl) sc_law_aged.nd rfl rfl (sw_true rfl rfl rfl (by decide +kernel)) (pi_range1 (by rfl) B.range (pa_cons (pe_callB call_len_seq (by rfl) B.len PySem.boot_len (pa_cons (pv 3) pa_nil)) pa_nil)) (blkOk_by (own := [("_law_k", 7)]) (N := ["_law_found", "_law_at", "_law_size", "_law_aboves", "_law_belows", "_law_one", "_law_other", "_law_k"]) (sc := defScope s_law_aged) (by decide +kernel)) (fun _ _ _ _ _ => (pg_name (i := 7) sc_law_aged.nd rfl (Or.inl rfl))) (fun _ _ _ _ _ => pts_nil) (fun _ _ _ _ _ => (pe_op op_add (pe_ix ix_list (pv 3) (pv 7) (fun _ _ => rfl)) (pe_callTy call_int1 (by rfl) B.int (by decide +kernel) (pa_cons (pe_cmpR op_lt (pe_ix ix_list (pv 3) (pv 7) (fun _ _ => rfl)) (pe_ix ix_list (pv 3) (pv 1) (fun _ _ => rfl)) (nomark _)) pa_nil)))))
      (pss_cons (ps_setLc (i := 6) (own := [("_law_k", 7)]) (g := (gName 7)) (tt := tYes) (te := (tCB rMin2 (tCons (tVar 2) (tCons (tOp (rI0 fun i j => .int (i + j)) (tOp (rIxL K) (tVar 4) (tVar 7)) (tCB rInt1 (tCons (tOp (rI0 fun i j => .bl (decide (i ≤ j))) (tOp (rIxL K) (tVar 4) (tVar 7)) (tOp (rIxL K) (tVar 4) (tVar 1))) tNil))) tNil)))) (by rfl) sc_law_aged.nd rfl rfl (sw_true rfl rfl rfl (by decide +kernel)) (pi_range1 (by rfl) B.range (pa_cons (pe_callB call_len_seq (by rfl) B.len PySem.boot_len (pa_cons (pv 4) pa_nil)) pa_nil)) (blkOk_by (own := [("_law_k", 7)]) (N := ["_law_found", "_law_at", "_law_size", "_law_aboves", "_law_belows", "_law_one", "_law_other", "_law_k"]) (sc := defScope s_law_aged) (by decide +kernel)) (fun _ _ _ _ _ => (pg_name (i := 7) sc_law_aged.nd rfl (Or.inl rfl))) (fun _ _ _ _ _ => pts_nil) (fun _ _ _ _ _ => (pe_callB (call_min2 rfl) (by rfl) B.min (by decide +kernel) (pa_cons (pv 2) (pa_cons (pe_op op_add (pe_ix ix_list (pv 4) (pv 7) (fun _ _ => rfl)) (pe_callTy call_int1 (by rfl) B.int (by decide +kernel) (pa_cons (pe_cmpR op_le (pe_ix ix_list (pv 4) (pv 7) (fun _ _ => rfl)) (pe_ix ix_list (pv 4) (pv 1) (fun _ _ => rfl)) (nomark _)) pa_nil))) pa_nil)))))
      (pss_cons (ps_asg pe_int (pg_sub (pv 5) (pv 1) set_list))
      (pss_cons (ps_asg pe_int (pg_sub (pv 6) (pv 1) set_list))
      (pss_one (ps_ret (pe_tupF (pa_cons (pv 5) (pa_cons (pv 6) pa_nil)))))))))), ?_⟩
    obtain ⟨t1, a1, b1, rfl, ht1, ha1, hb1⟩ := hx
    have kl : k < p.1.length := by rw [op.la]; exact kn
    have kl2 : k < p.2.length := by rw [op.lb]; exact kn
    refine ⟨_, rfl, t1, _, rfl, ht1.sq, rfl, _, _, rfl, _, _, rfl, rfl, ?_⟩
    refine ⟨_, rfl, a1, _, rfl, .inl (SqL.of ha1), _, rfl, (by omega), (by rw [List.length_map, op.la]; omega), fun D nD => ?_⟩
    rw [show (((p.1.map V.int).length : Nat) : Int).toNat = p.1.length by rw [List.length_map]; omega]
    refine lc_range (lo := 0) (n := p.1.length) (fun i H2 => Same H H2 ∧ H2 D = some (.lst (((p.1.take i).map fun x => if x < p.1.getD k 0 then x + 1 else x).map V.int))) ?_ ?_ ?_
    · exact ⟨same_upd nD, upd_same⟩
    · rintro i H2 hi ⟨s2, hD⟩
      have ex := getD_at hi
      generalize p.1.getD i 0 = x at ex
      rw [Int.zero_add]
      have hix : atI (p.1.map V.int) (i : Int) = some (.int x) := atI_nat (by rw [List.getElem?_map, ex]; rfl)
      have hik : atI (p.1.map V.int) (k : Int) = some (.int (p.1.getD k 0)) := atI_nat (by rw [List.getElem?_map, getD_at kl]; rfl)
      have sq1 := SqL.of (K := K) (s2 _ _ ha1)
      refine ⟨rfl, tyes ?_⟩
      refine ⟨_, rfl, _, rfl, a1, _, _, _, rfl, rfl, sq1, hix, _, rfl, _, rfl, a1, _, _, _, rfl, rfl, sq1, hix, _, rfl, _, rfl, a1, _, _, _, rfl, rfl, sq1, hik, _, _, rfl, rfl, .inr ⟨_, rfl, _, _, rfl, rfl, ?_⟩⟩
      refine ⟨_, hD, ?_, fun c o ec => ?_, ?_⟩
      · rw [List.length_map, List.length_map]
        exact sz1000 (Nat.le_trans (List.length_take_le' _ _) (by rw [op.la]; exact few))
      · rw [upd_ne (ne_of_none ec nD)]
        exact s2 _ _ ec
      · rw [upd_same, take_map_snoc _ ex, List.map_append]
        have e : x + (if decide (x < p.1.getD k 0) = true then 1 else 0) = if x < p.1.getD k 0 then x + 1 else x := by
          by_cases z : x < p.1.getD k 0
          · rw [if_pos z, if_pos (decide_eq_true z)]
          · rw [if_neg z, if_neg (by rw [decide_eq_false z]; exact Bool.false_ne_true), Int.add_zero]
        show some (HO.lst (_ ++ [V.int (x + (if decide (x < p.1.getD k 0) = true then 1 else 0))])) = _
        rw [e]
        rfl
    · rintro H2 ⟨s2, hD⟩
      rw [List.take_length] at hD
      refine ⟨_, rfl, b1, _, rfl, .inl (SqL.of (s2 _ _ hb1)), _, rfl, (by omega), (by rw [List.length_map, op.lb]; omega), fun D2 nD2 => ?_⟩
      rw [show (((p.2.map V.int).length : Nat) : Int).toNat = p.2.length by rw [List.length_map]; omega]
      have eD : D ≠ D2 := ne_of_none hD nD2
      refine lc_range (lo := 0) (n := p.2.length) (fun i H3 => Same H2 H3 ∧ H3 D2 = some (.lst (((p.2.take i).map fun x => if x ≤ p.2.getD k 0 then min s (x + 1) else x).map V.int))) ?_ ?_ ?_
      · exact ⟨same_upd nD2, upd_same⟩
      · rintro i H3 hi ⟨s3, hD3⟩
        have ex := getD_at hi
        have xs : p.2.getD i 0 ≤ s := by
          rcases getD_mem_or p.2 i with z | z
          · exact (op.b _ z).2
          · have : p.2.getD i 0 ∈ p.2 := List.mem_of_getElem? ex
            exact (op.b _ this).2
        generalize p.2.getD i 0 = x at ex xs
        rw [Int.zero_add]
        have hix : atI (p.2.map V.int) (i : Int) = some (.int x) := atI_nat (by rw [List.getElem?_map, ex]; rfl)
        have hik : atI (p.2.map V.int) (k : Int) = some (.int (p.2.getD k 0)) := atI_nat (by rw [List.getElem?_map, getD_at kl2]; rfl)
        have sq1 := SqL.of (K := K) (s3 _ _ (s2 _ _ hb1))
        refine ⟨rfl, tyes ?_⟩
        refine ⟨_, rfl, _, rfl, _, rfl, b1, _, _, _, rfl, rfl, sq1, hix, _, rfl, _, rfl, b1, _, _, _, rfl, rfl, sq1, hix, _, rfl, _, rfl, b1, _, _, _, rfl, rfl, sq1, hik, _, _, rfl, rfl, .inr ⟨_, rfl, _, _, rfl, rfl, _, _, rfl, ?_⟩⟩
        refine ⟨_, hD3, ?_, fun c o ec => ?_, ?_⟩
        · rw [List.length_map, List.length_map]
          exact sz1000 (Nat.le_trans (List.length_take_le' _ _) (by rw [op.lb]; exact few))
        · rw [upd_ne (ne_of_none ec nD2)]
          exact s3 _ _ ec
        · rw [upd_same, take_map_snoc _ ex, List.map_append]
          have e : (if x + (if decide (x ≤ p.2.getD k 0) = true then 1 else 0) < s then x + (if decide (x ≤ p.2.getD k 0) = true then 1 else 0) else s) = if x ≤ p.2.getD k 0 then min s (x + 1) else x := by
            by_cases z : x ≤ p.2.getD k 0
            · rw [if_pos z, if_pos (decide_eq_true z)]
              split <;> omega
            · rw [if_neg z, show (if decide (x ≤ p.2.getD k 0) = true then (1 : Int) else 0) = 0 from if_neg (by rw [decide_eq_false z]; exact Bool.false_ne_true), Int.add_zero]
              split <;> omega
          show some (HO.lst (_ ++ [V.int (if x + (if decide (x ≤ p.2.getD k 0) = true then 1 else 0) < s then x + (if decide (x ≤ p.2.getD k 0) = true then 1 else 0) else s)])) = _
          rw [e]
          rfl
      · rintro H3 ⟨s3, hD3⟩
        rw [List.take_length] at hD3
        have hD4 := s3 _ _ hD
        refine ⟨_, rfl, _, rfl, D, _, _, _, rfl, rfl, hD4, ixN_of (by rw [List.length_map, List.length_map]; exact kl), ?_⟩
        refine ⟨_, rfl, _, rfl, D2, _, _, _, rfl, rfl, (by rw [upd_ne eD.symm]; exact hD3), ixN_of (by rw [List.length_map, List.length_map]; exact kl2), ?_⟩
        refine ⟨_, rfl, _, rfl, by show 2 ≤ sizeLine; decide, fun v H' s4 _ pt => q _ H' ((fun c o ec => ?_)) ⟨v, D, D2, rfl, pt, s4 _ _ ?_, s4 _ _ ?_, nD, s2.free nD2, eD⟩⟩
        · refine s4 _ _ ?_
          rw [upd_ne (ne_of_none ec (s2.free nD2)), upd_ne (ne_of_none ec nD)]
          exact s3 _ _ (s2 _ _ ec)
        · rw [upd_ne eD, upd_same]
          show some (HO.lst (List.set _ k (V.int 0))) = _
          rw [← List.map_set]
          rfl
        · rw [upd_same]
          show some (HO.lst (List.set _ k (V.int 0))) = _
          rw [← List.map_set]
          rfl
theorem ok_both (T : At K mg "_law_both_ages" s_law_both_ages ["_law_one", "_law_other"]) (B : Bt mg) : Cal P w K mg base 1 "_law_both_ages" ["_law_one", "_law_other"] spBoth := by
  refine cal_of T sc_law_both_ages (fun vs H Q E h => ?_) (fun f cdv A outer s' H vs Q E hr h => ?_)
  · obtain ⟨x, y, rfl, _⟩ := h
    rfl
  · obtain ⟨x, y, rfl, h⟩ := h
    refine ⟨_, (pss_cons (ps_if (pt_cmpR op_isN (pv 0) pe_non (nomark _)) (pss_one (ps_ret (pv 1))) pss_nil)
      (pss_cons (ps_setLc (i := 2) (own := [("_law_pair", 3)]) (g := (gName 3)) (tt := tYes) (te := (tCB (rMaxT K) (tCons (tVar 3) tNil))) (by rfl) sc_law_both_ages.nd rfl rfl (sw_true rfl rfl rfl (by decide +kernel)) (pi_zipN (by rfl) B.zip (pa_cons (pe_ix ix_tup (pv 0) pe_int (fun _ _ => rfl)) (pa_cons (pe_ix ix_tup (pv 1) pe_int (fun _ _ => rfl)) pa_nil))) (blkOk_by (own := [("_law_pair", 3)]) (N := ["_law_one", "_law_other", "_law_aboves", "_law_pair"]) (sc := defScope s_law_both_ages) (by decide +kernel)) (fun _ _ _ _ _ => (pg_name (i := 3) sc_law_both_ages.nd rfl (Or.inl rfl))) (fun _ _ _ _ _ => pts_nil) (fun _ _ _ _ _ => (pe_callB (call_maxT rfl hr.units) (by rfl) B.max (by decide +kernel) (pa_cons (pv 3) pa_nil))))
      (pss_one (ps_ret (pe_tupF (pa_cons (pv 2) (pa_cons (pe_lc (own := [("_law_pair", 3)]) (g := (gName 3)) (tt := tYes) (te := (tCB (rMinT K) (tCons (tVar 3) tNil))) (by rfl) sc_law_both_ages.nd (pi_zipN (by rfl) B.zip (pa_cons (pe_ix ix_tup (pv 0) pe_int (fun _ _ => rfl)) (pa_cons (pe_ix ix_tup (pv 1) pe_int (fun _ _ => rfl)) pa_nil))) (blkOk_by (own := [("_law_pair", 3)]) (N := ["_law_one", "_law_other", "_law_aboves", "_law_pair"]) (sc := defScope s_law_both_ages) (by decide +kernel)) (fun _ _ _ _ _ => (pg_name (i := 3) sc_law_both_ages.nd rfl (Or.inl rfl))) (fun _ _ _ _ _ => pts_nil) (fun _ _ _ _ _ => (pe_callB (call_minT rfl hr.units) (by rfl) B.min (by decide +kernel) (pa_cons (pv 3) pa_nil)))) pa_nil))))))), ?_⟩
    rcases h with ⟨rfl, q⟩ | ⟨p, q, n, s, hx, hy, op, oq, few, k⟩
    · exact ⟨_, rfl, rfl, _, rfl, iteT ⟨_, rfl, q⟩⟩
    · obtain ⟨t1, a1, b1, rfl, ht1, ha1, hb1⟩ := hx
      obtain ⟨t2, a2, b2, rfl, ht2, ha2, hb2⟩ := hy
      refine ⟨_, rfl, rfl, _, rfl, iteF ?_⟩
      refine ⟨_, rfl, t1, _, _, _, rfl, rfl, ht1.sq, atI_nat (j := 0) rfl, _, rfl, t2, _, _, _, rfl, rfl, ht2.sq, atI_nat (j := 0) rfl, a1, a2, _, _, rfl, SqL.of ha1, SqL.of ha2, fun D nD => ?_⟩
      refine lc_zipLL (K := K) (a := a1) (b := a2) (xs := p.1.map V.int) (ys := q.1.map V.int) (by rw [List.length_map, List.length_map, op.la, oq.la]) (fun i H2 => Same H H2 ∧ H2 D = some (.lst (((List.zipWith max p.1 q.1).take i).map V.int))) ?_ ?_ ?_ ?_
      · exact ⟨same_upd nD, upd_same⟩
      · rintro i H2 _ ⟨s2, _⟩
        exact ⟨SqL.of (s2 _ _ ha1), SqL.of (s2 _ _ ha2)⟩
      · rintro i vx vy T H2 hvx hvy ⟨s2, hD⟩ nT
        obtain ⟨i1, e1, rfl⟩ := map_get_int hvx
        obtain ⟨i2, e2, rfl⟩ := map_get_int hvy
        refine ⟨rfl, tyes ?_⟩
        refine ⟨_, rfl, T, _, _, rfl, .inl (.inl upd_same), _, (by rw [upd_ne (ne_of_none hD nT)]; exact hD), ?_, ?_⟩
        · rw [List.length_map]
          exact sz1000 (Nat.le_trans (List.length_take_le' _ _) (by rw [List.length_zipWith, op.la]; omega))
        · refine ⟨fun c o ec => ?_, ?_⟩
          · rw [upd_ne (ne_of_none ec nD)]
            exact (s2.trans (same_upd nT)) _ _ ec
          · rw [upd_same, zip_take_snoc e1 e2, List.map_append]
            rfl
      · rintro H2 ⟨s2, hD⟩
        rw [List.length_map, List.take_of_length_le (by rw [List.length_zipWith]; omega)] at hD
        refine ⟨_, rfl, _, rfl, t1, _, _, _, rfl, rfl, (ht1.same s2).sq, atI_nat (j := 1) rfl, _, rfl, t2, _, _, _, rfl, rfl, (ht2.same s2).sq, atI_nat (j := 1) rfl, b1, b2, _, _, rfl, SqL.of (s2 _ _ hb1), SqL.of (s2 _ _ hb2), fun D2 nD2 => ?_⟩
        refine lc_zipLL (K := K) (a := b1) (b := b2) (xs := p.2.map V.int) (ys := q.2.map V.int) (by rw [List.length_map, List.length_map, op.lb, oq.lb]) (fun i H3 => Same H2 H3 ∧ H3 D2 = some (.lst (((List.zipWith min p.2 q.2).take i).map V.int))) ?_ ?_ ?_ ?_
        · exact ⟨same_upd nD2, upd_same⟩
        · rintro i H3 _ ⟨s3, _⟩
          exact ⟨SqL.of (s3 _ _ (s2 _ _ hb1)), SqL.of (s3 _ _ (s2 _ _ hb2))⟩
        · rintro i vx vy T H3 hvx hvy ⟨s3, hD3⟩ nT
          obtain ⟨i1, e1, rfl⟩ := map_get_int hvx
          obtain ⟨i2, e2, rfl⟩ := map_get_int hvy
          refine ⟨rfl, tyes ?_⟩
          refine ⟨_, rfl, T, _, _, rfl, .inl (.inl upd_same), _, (by rw [upd_ne (ne_of_none hD3 nT)]; exact hD3), ?_, ?_⟩
          · rw [List.length_map]
            exact sz1000 (Nat.le_trans (List.length_take_le' _ _) (by rw [List.length_zipWith, op.lb]; omega))
          · refine ⟨fun c o ec => ?_, ?_⟩
            · rw [upd_ne (ne_of_none ec nD2)]
              exact (s3.trans (same_upd nT)) _ _ ec
            · rw [upd_same, zip_take_snoc e1 e2, List.map_append]
              rfl
        · rintro H3 ⟨s3, hD3⟩
          rw [List.length_map, List.take_of_length_le (by rw [List.length_zipWith]; omega)] at hD3
          refine ⟨by show 2 ≤ sizeLine; decide, fun v H' s4 _ pt => k _ H' ((s2.trans s3).trans s4) ⟨v, D, D2, rfl, pt, s4 _ _ (s3 _ _ hD), s4 _ _ hD3, nD, s2.free nD2, ne_of_none hD nD2⟩⟩
theorem ok_lbeh (T : At K mg "_law_behind" s_law_behind ["_law_web_here", "_law_rooms", "_law_row", "_law_found", "_law_size"]) (B : Bt mg) (c_both_ages : Cal P w K mg base 1 "_law_both_ages" ["_law_one", "_law_other"] spBoth) (c_aged : Cal P w K mg base 1 "_law_aged" ["_law_found", "_law_at", "_law_size"] spBAsk) :
    Cal P w K mg base 2 "_law_behind" ["_law_web_here", "_law_rooms", "_law_row", "_law_found", "_law_size"] spLBeh := by
  refine cal_of T sc_law_behind (fun vs H Q E h => ?_) (fun f cdv A outer s' H vs Q E hr h => ?_)
  · obtain ⟨a, rm, rs, k, r, x, p, ms, s, rfl, _⟩ := h
    rfl
  · obtain ⟨a, rm, rs, k, r, x, p, ms, s, rfl, hw, er, hx, hm, op, hin, few, fewm, s0, s1, q⟩ := h
    have c_law_both_ages := c_both_ages
    refine ⟨_, (pss_cons (ps_set (i := 5) sc_law_behind.nd rfl (Or.inl rfl) pe_non)
      (pss_cons (ps_for PassesOwn.never rfl (pi_tup (pe_ix ix_tup (pe_ix ix_list (pv 0) (pv 2) (fun _ _ => rfl)) pe_int (fun _ _ => rfl))) (pg_name (i := 6) sc_law_behind.nd rfl (Or.inl rfl)) (pss_one (ps_set (i := 5) sc_law_behind.nd rfl (Or.inl rfl) (pe_own c_both_ages hr (by decide) (by rfl) (pa_cons (pv 5) (pa_cons (pe_own c_aged hr (by decide) (by rfl) (pa_cons (pv 3) (pa_cons (pe_bm PySem.F.plainAttrs_list PySem.F.slot_list_index PySem.F.type_list_index mt_index (pv 1) (pa_cons (pv 6) pa_nil)) (pa_cons (pv 4) pa_nil)))) pa_nil))))))
      (pss_cons (ps_if (pt_cmpR op_isN (pv 5) pe_non (nomark _)) (pss_one (ps_ret (pv 3))) pss_nil)
      (pss_one (ps_ret (pv 5)))))), ?_⟩
    obtain ⟨ws, hwa, hrs⟩ := hw
    have wl := hrs.len
    have kl := (List.getElem?_eq_some_iff.mp er).1
    have kw : ws[k]? = some ws[k] := List.getElem?_eq_getElem (by omega)
    obtain ⟨r', er', ra, rb, rc, ew, hra, hrb, hrc⟩ := hrs.get kw
    rw [er] at er'
    injection er' with er'
    subst er'
    have fl : (ms.map V.int).all flatV = true := all_flat ms
    have okk : ∀ j, POk ms.length s (askP s p j) := fun j => askP_ok s0 op j
    refine ⟨_, rfl, _, rfl, a, _, _, _, rfl, rfl, SqL.of hwa, atI_nat (by rw [kw, ew]), ra, _, _, _, rfl, rfl, hra.sq, atI_nat (j := 0) rfl, rb, rfl, ⟨_, hrb.sq⟩, ?_⟩
    refine for_tup (K := K) (a := rb) (xs := r.1.map V.int) (fun i σ H3 => ∃ (cv : V) (y6 : Option V), σ = [some (.ref a), some (.ref rm), some (.int (k : Nat)), some x, some (.int s), some cv, y6] ∧ ((i = 0 ∧ cv = .non) ∨ (PairN H H3 cv (rowP s p ((r.1.take i).map fun k => ms.idxOf k)) ∧ POk ms.length s (rowP s p ((r.1.take i).map fun k => ms.idxOf k)) ∧ r.1.take i ≠ [])) ∧ Same H H3) ?_ ?_ ?_ ?_
    · exact ⟨_, _, rfl, .inl ⟨rfl, rfl⟩, Same.refl H⟩
    · rintro i σ H3 _ ⟨_, _, _, _, t3⟩
      exact (hrb.same t3).sq
    · rintro i v σ H3 hv ⟨cv, y6, rfl, hc, t3⟩
      obtain ⟨k2, ek, rfl⟩ := map_get_int hv
      have kin := List.mem_of_getElem? ek
      obtain ⟨j1, j2, j3⟩ := idx_int (hin k2 kin)
      have kl2 : ms.idxOf k2 < ms.length := List.idxOf_lt_length_of_mem (hin k2 kin)
      refine ⟨_, rfl, _, rfl, _, rfl, .inl ⟨rfl, _, SqL.of (t3 _ _ hm)⟩, _, rfl, rm, _, _, _, _, rfl, rfl, SqL.of (t3 _ _ hm), rfl, fl, j1, j2, j3, ?_⟩
      refine ⟨_, rfl, x, p, _, ms.length, s, rfl, hx.same t3, op, kl2, fewm, s1, fun c2 H4 t5 hc2 => ?_⟩
      have sn : r.1.take (i + 1) ≠ [] := fun z => by
        rw [List.take_add_one, ek] at z
        simp at z
      rcases hc with ⟨rfl, rfl⟩ | ⟨hcv, okc, ne⟩
      · refine ⟨_, _, rfl, .inl ⟨rfl, c2, _, rfl, .inr ⟨?_, ?_, sn⟩, t3.trans t5⟩⟩
        · rw [List.take_add_one, ek]
          exact hc2.back t3
        · rw [List.take_add_one, ek]
          exact okk _
      · refine ⟨_, _, rfl, .inr ⟨_, _, ms.length, s, hcv.at.same t5, hc2.at, okc, okk _, fewm, fun c3 H5 t6 hc3 => ?_⟩⟩
        have e : rowP s p ((r.1.take (i + 1)).map fun k => ms.idxOf k) = joinP (rowP s p ((r.1.take i).map fun k => ms.idxOf k)) (askP s p (ms.idxOf k2)) := by
          rw [List.take_add_one, ek, List.map_append]
          cases h : r.1.take i with
          | nil => exact absurd h ne
          | cons z zs =>
            show List.foldl _ _ _ = joinP (List.foldl _ _ _) _
            rw [List.append_eq, List.foldl_append]
            rfl
        refine ⟨c3, _, rfl, .inr ⟨?_, ?_, sn⟩, (t3.trans t5).trans t6⟩
        · rw [e]
          exact hc3.back (t3.trans t5)
        · rw [e]
          exact joinP_ok okc (okk _)
    · rintro σ H3 ⟨cv, y6, rfl, hc, t3⟩
      rw [List.length_map, List.take_length] at hc
      rcases hc with ⟨l0, rfl⟩ | ⟨hcv, okc, ne⟩
      · refine ⟨_, rfl, rfl, _, rfl, iteT ⟨_, rfl, q x H3 t3 (.inr ⟨rfl, ?_⟩)⟩⟩
        unfold comeP plcs
        rw [List.eq_nil_of_length_eq_zero l0]
        rfl
      · obtain ⟨tt, ta, tb, rfl, _⟩ := id hcv
        exact ⟨_, rfl, rfl, _, rfl, iteF ⟨_, rfl, q _ H3 t3 (.inl hcv)⟩⟩
end
end Su
/-! ### LR: the law's own rooms of a web -/
namespace Su
open PySem PySem.Spec PyProof.Rows L2
def spLRooms : Sp := fun vs H Q _ => ∃ (p : Addr) (rs : List Rw), vs = [.ref p] ∧ WebAt H p rs ∧ WebOk rs ∧
  ∀ (ms : List Int) (u : Addr) (H' : Hp), ms.Pairwise (· < ·) → (∀ k : Int, k ∈ ms ↔ k ∈ allRooms rs) → Same H H' → H u = none → H' u = some (.lst (ms.map V.int)) → Q (.ref u) H'
theorem sc_law_web_rooms : FnScope ["_law_web_here", "_law_found", "_law_rooms", "_law_tos_here", "_law_room"] ["_law_web_here"] (defScope s_law_web_rooms) := ⟨rfl, rfl, rfl, by decide +kernel, rfl, by decide +kernel, by decide +kernel⟩
section
variable {P : Program} {w : World} {K : PySem.W.Frag} {mg : Str → Option Value} {base : Heap}
theorem ok_lrooms (T : At K mg "_law_web_rooms" s_law_web_rooms ["_law_web_here"]) (B : Bt mg) : Cal P w K mg base 1 "_law_web_rooms" ["_law_web_here"] spLRooms := by
  refine cal_of T sc_law_web_rooms (fun vs H Q E h => ?_) (fun f cdv A outer s H vs Q E hr h => ?_)
  · obtain ⟨p, rs, rfl, _⟩ := h
    rfl
  · obtain ⟨p, rs, rfl, ⟨ws, hp, hrs⟩, ok, q⟩ := h
    have hwl := hrs.len
    have h80 := ok.few
    obtain ⟨S, hS, hin⟩ := ok.all
    refine ⟨_, (pss_cons (ps_set (i := 1) sc_law_web_rooms.nd rfl (Or.inl rfl) pe_dnewK)
      (pss_cons (ps_for PassesOwn.never rfl (pi_list (pv 0)) (pg_tup (by rfl) (pgs_cons (pg_name (i := 2) sc_law_web_rooms.nd rfl (Or.inl rfl)) (pgs_cons (pg_name (i := 3) sc_law_web_rooms.nd rfl (Or.inl rfl)) pgs_nil))) (pss_one (ps_for PassesOwn.never rfl (pi_tup (pv 2)) (pg_name (i := 4) sc_law_web_rooms.nd rfl (Or.inl rfl)) (pss_one (ps_dput (hu_of hr) (pv 1) (pv 4) pe_bl rfl)))))
      (pss_one (ps_ret (pe_callB (cr_sortedDI rfl) (by rfl) B.sorted (by decide +kernel) (pa_cons (pv 1) pa_nil)))))), ?_⟩
    refine fun D nD => ?_
    have good : ∀ {kvs : List (Key × V)} {ks : List Int} {l : List Int}, KeysI kvs ks → ks.Nodup → (∀ k, k ∈ ks ↔ k ∈ l) → (∀ k ∈ l, k ∈ S) → kvs.length ≤ 12 := by
      intro kvs ks l h nd mem hl
      rw [h.len]
      exact Nat.le_trans (nodup_few nd fun k hk => hl k ((mem k).mp hk)) hS
    refine ⟨_, rfl, p, rfl, ⟨_, SqL.of (same_upd nD _ _ hp)⟩, ?_⟩
    refine for_list (K := K) (a := p) (xs := ws) (fun j σ H2 => ∃ (y2 y3 y4 : Option V) (kvs : List (Key × V)) (ks : List Int), σ = [some (.ref p), some (.ref D), y2, y3, y4] ∧ H2 D = some (.dK kvs) ∧ KeysI kvs ks ∧ ks.Nodup ∧ (∀ k, k ∈ ks ↔ k ∈ allRooms (rs.take j)) ∧ Same H H2) ?_ ?_ ?_ ?_
    · exact ⟨none, none, none, [], [], rfl, upd_same, rfl, List.nodup_nil, fun k => by simp [allRooms], same_upd nD⟩
    · rintro j σ H2 _ ⟨_, _, _, _, _, _, _, _, _, _, s2⟩
      exact SqL.of (s2 _ _ hp)
    · rintro j x σ H2 hx ⟨y2, y3, y4, kvs, ks, rfl, hD, hks, nd, mem, s2⟩
      obtain ⟨r, er, ra, rb, rc, rfl, ha, hb, hc⟩ := hrs.get hx
      refine ⟨ra, _, rfl, (ha.same s2).sq, rfl, _, _, rfl, _, _, rfl, rfl, ?_⟩
      refine ⟨_, rfl, rb, rfl, ⟨_, (hb.same s2).sq⟩, ?_⟩
      refine for_tup (K := K) (a := rb) (xs := r.1.map V.int) (fun i σ H3 => ∃ (y4 : Option V) (kvs : List (Key × V)) (ks : List Int), σ = [some (.ref p), some (.ref D), some (.ref rb), some (.ref rc), y4] ∧ H3 D = some (.dK kvs) ∧ KeysI kvs ks ∧ ks.Nodup ∧ (∀ k, k ∈ ks ↔ k ∈ allRooms (rs.take j) ++ r.1.take i) ∧ Same H H3) ?_ ?_ ?_ ?_
      · exact ⟨_, kvs, ks, rfl, hD, hks, nd, fun k => by rw [List.take_zero, List.append_nil]; exact mem k, s2⟩
      · rintro i σ H3 _ ⟨_, _, _, _, _, _, _, _, s3⟩
        exact (hb.same s3).sq
      · rintro i y σ H3 hy ⟨y4, kvs, ks, rfl, hD3, hks3, nd3, mem3, s3⟩
        rw [List.getElem?_map] at hy
        obtain ⟨t, et, rfl⟩ := Option.map_eq_some_iff.mp hy
        have sub3 : ∀ k ∈ allRooms (rs.take j) ++ r.1.take i, k ∈ S := by
          intro k hk
          rcases List.mem_append.mp hk with z | z
          · exact hin k (allRooms_sub z)
          · refine hin k (allRooms_sub (i := j + 1) ?_)
            rw [allRooms_take er]
            exact List.mem_append_right _ (List.mem_of_mem_take z)
        have few := good hks3 nd3 mem3 sub3
        obtain ⟨ks', h1, h2, h3⟩ := hks3.put nd3 t (.bl true)
        refine ⟨_, rfl, _, rfl, D, _, rfl, DPut.k (k := Sum.inl t) hD3 (small1000 (by omega)), ?_⟩
        refine ⟨_, _, ks', rfl, upd_same, h1, h2, fun k => ?_, fun c o ec => ?_⟩
        · rw [h3 k, mem3 k, List.take_add_one, et, ← List.append_assoc]
          constructor
          · rintro (z | z)
            · exact List.mem_append_left _ z
            · exact List.mem_append_right _ (List.mem_singleton.mpr z)
          · intro z
            rcases List.mem_append.mp z with y | y
            · exact .inl y
            · exact .inr (List.mem_singleton.mp y)
        · rw [upd_ne (ne_of_none ec nD)]
          exact s3 _ _ ec
      · rintro σ H3 ⟨y4, kvs, ks, rfl, hD3, hks3, nd3, mem3, s3⟩
        refine ⟨_, _, _, kvs, ks, rfl, hD3, hks3, nd3, fun k => ?_, s3⟩
        rw [mem3 k, List.length_map, List.take_length, allRooms_take er]
    · rintro σ H2 ⟨y2, y3, y4, kvs, ks, rfl, hD, hks, nd, mem, s2⟩
      rw [hwl, List.take_length] at mem
      have few := good hks nd mem hin
      refine ⟨_, rfl, D, kvs, ks, rfl, hD, hks, (by rw [← hks.len]; omega), fun ys u pm so nu => ?_⟩
      exact q ys u _ (pw_lt so (pm.nodup_iff.mpr nd)) (fun k => (pm.mem_iff).trans (mem k)) (s2.trans (same_upd nu)) (s2.free nu) upd_same
end
end Su
/-! ### LC: whether these are ages that hold, the law's -/
namespace Su
open PySem PySem.Spec PyProof.Rows L2
theorem OkE.lst_mem {l : List G} (h : OkE (.lst l)) : ∀ x ∈ l, OkE x := by
  obtain ⟨a, b, c⟩ := h
  simp only [okD, okDs_all, List.all_eq_true] at a
  simp only [toD, PyData.canLay0] at b
  simp only [toD, PyData.depth] at c
  induction l with
  | nil => exact fun x hx => by cases hx
  | cons g l ih =>
    simp only [toDs, PyData.canLayAll0, Bool.and_eq_true] at b
    simp only [toDs, PyData.depthAll] at c
    intro x hx
    rcases List.mem_cons.mp hx with rfl | hx
    · exact ⟨a x List.mem_cons_self, b.1, by omega⟩
    · exact ih (fun y hy => a y (List.mem_cons_of_mem _ hy)) b.2 (by omega) x hx
theorem OkE.tup_mem {l : List G} (h : OkE (.tup l)) : ∀ x ∈ l, OkE x := by
  obtain ⟨a, b, c⟩ := h
  simp only [okD, okDs_all, List.all_eq_true] at a
  simp only [toD, PyData.canLay0] at b
  simp only [toD, PyData.depth] at c
  induction l with
  | nil => exact fun x hx => by cases hx
  | cons g l ih =>
    simp only [toDs, PyData.canLayAll0, Bool.and_eq_true] at b
    simp only [toDs, PyData.depthAll] at c
    intro x hx
    rcases List.mem_cons.mp hx with rfl | hx
    · exact ⟨a x List.mem_cons_self, b.1, by omega⟩
    · exact ih (fun y hy => a y (List.mem_cons_of_mem _ hy)) b.2 (by omega) x hx
/-- a short list -/
def FewL (g : G) : Prop := ∀ m, g = .lst m → m.length ≤ 100
/-- a row of a table, or something else that may stand there -/
structure RowS (g : G) : Prop where
  fz : Fz g 2 3000
  ok : OkE g
  few : ∀ l, g = .tup l → ∀ x ∈ l, FewL x
def TabF (g : G) : Prop := FewL g ∧ ∀ l, g = .lst l → ∀ x ∈ l, RowS x
theorem toDs_nil (l : List G) : (toDs l).isEmpty = l.isEmpty := by
  cases l <;> rfl
/-- what is filtered of things, beside [] -/
theorem rest_nil {K : PySem.W.Frag} {p D c : Addr} {H H' : Hp} {ws : List V} {gs : List G} (h : ∀ g ∈ gs, OkE g) (t : TgL p H ws gs) (s : Same H H') (hD : H' D = some (.lst ws)) (hc : H' c = some (.lst [])) {Q : VK} (q : Q (.bl (!gs.isEmpty)) H') : rNeD K (.ref D) (.ref c) H' Q := by
  have okl := OkE.list h
  refine ⟨.list (toDs gs), .list [], .lst (SqL.of hD) (TgL.dp (t.keep (Keeps.same (p := p) s)) okl.1), .lst (SqL.of hc) .nil, okl.2, shaped_nil, ?_⟩
  rw [eqv_nilD, toDs_nil]
  exact q
theorem rest_nilE {K : PySem.W.Frag} {p D c : Addr} {H H' : Hp} {ws : List V} {gs : List G} (h : ∀ g ∈ gs, OkE g) (t : TgL p H ws gs) (s : Same H H') (hD : H' D = some (.lst ws)) (hc : H' c = some (.lst [])) {Q : VK} (q : Q (.bl gs.isEmpty) H') : rEqD K (.ref D) (.ref c) H' Q := by
  have okl := OkE.list h
  refine ⟨.list (toDs gs), .list [], .lst (SqL.of hD) (TgL.dp (t.keep (Keeps.same (p := p) s)) okl.1), .lst (SqL.of hc) .nil, okl.2, shaped_nil, ?_⟩
  rw [eqv_nilD, toDs_nil]
  exact q
theorem filt_emp {f : G → Bool} : ∀ l : List G, (l.filter fun g => !f g).isEmpty = (l.map f).all id
  | [] => rfl
  | g :: l => by
    rw [List.map_cons, List.all_cons]
    cases h : f g with
    | true =>
      rw [List.filter_cons_of_neg (by rw [h]; decide), filt_emp l]
      rfl
    | false =>
      rw [List.filter_cons_of_pos (by rw [h]; decide)]
      rfl
def spLNl : Sp := fun vs H Q _ => ∃ (p : Addr) (v : V) (g : G) (n : Nat) (s : Int), vs = [v, .int (n : Nat), .int s] ∧ Tg p H v g ∧ OkE g ∧ FewL g ∧ ∀ H', Same H H' → Q (.bl (nlG n s g)) H'
def spLRow : Sp := fun vs H Q _ => ∃ (p : Addr) (v : V) (g : G) (n : Nat) (s : Int), vs = [v, .int (n : Nat), .int s] ∧ Tg p H v g ∧ RowS g ∧ ∀ H', Same H H' → Q (.bl (celG n s g)) H'
theorem sc_law_numbers_so : FnScope ["_law_thing", "_law_many", "_law_size", "_law_one"] ["_law_thing", "_law_many", "_law_size"] (defScope s_law_numbers_so) := ⟨rfl, rfl, rfl, by decide +kernel, rfl, by decide +kernel, by decide +kernel⟩
theorem sc_law_row_so : FnScope ["_law_thing", "_law_many", "_law_size"] ["_law_thing", "_law_many", "_law_size"] (defScope s_law_row_so) := ⟨rfl, rfl, rfl, by decide +kernel, rfl, by decide +kernel, by decide +kernel⟩
section
variable {P : Program} {w : World} {K : PySem.W.Frag} {mg : Str → Option Value} {base : Heap}
theorem ok_lnl (T : At K mg "_law_numbers_so" s_law_numbers_so ["_law_thing", "_law_many", "_law_size"]) (B : Bt mg) : Cal P w K mg base 1 "_law_numbers_so" ["_law_thing", "_law_many", "_law_size"] spLNl := by
  refine cal_of T sc_law_numbers_so (fun vs H Q E h => ?_) (fun f cdv A outer s' H vs Q E hr h => ?_)
  · obtain ⟨p, v, g, n, s, rfl, _⟩ := h
    rfl
  · obtain ⟨p, v, g, n, s, rfl, hv, ok, few, q⟩ := h
    refine ⟨_, (pss_cons (ps_if (PW.pt (pw_or (pt_not (pt_val (pe_callB call_isi (by rfl) B.isinstance (by decide +kernel) (pa_cons (pv 0) (pa_cons (pe_bltn (v := .ty "list") (u := .type "list") (by rfl) B.list (by decide +kernel) rfl) pa_nil))))) (pw_or1 (pt_cmpR op_ne (pe_callB call_len_seq (by rfl) B.len PySem.boot_len (pa_cons (pv 0) pa_nil)) (pv 1) (nomark _))))) (pss_one (ps_ret pe_bl)) pss_nil)
      (pss_cons (ps_if (pt_cmpR (op_neD hr.units) (pe_lc (own := [("_law_one", 3)]) (g := (gName 3)) (tt := (tOr (tNot (tB (tCB (rIsi K) (tCons (tVar 3) (tCons (tC (.ty "int")) tNil))))) (tB (tCB (rIsi K) (tCons (tVar 3) (tCons (tC (.ty "bool")) tNil)))))) (te := (tVar 3)) (by rfl) sc_law_numbers_so.nd (pi_list (pv 0)) (blkOk_by (own := [("_law_one", 3)]) (N := ["_law_thing", "_law_many", "_law_size", "_law_one"]) (sc := defScope s_law_numbers_so) (by decide +kernel)) (fun _ _ _ _ _ => (pg_name (i := 3) sc_law_numbers_so.nd rfl (Or.inl rfl))) (fun _ _ _ _ _ => pts_one (PW.pt (pw_or (pt_not (pt_val (pe_callB call_isi (by rfl) B.isinstance (by decide +kernel) (pa_cons (pv 3) (pa_cons (pe_bltn (v := .ty "int") (u := .type "int") (by rfl) B.int (by decide +kernel) rfl) pa_nil))))) (pw_or1 (pt_val (pe_callB call_isi (by rfl) B.isinstance (by decide +kernel) (pa_cons (pv 3) (pa_cons (pe_bltn (v := .ty "bool") (u := .type "bool") (by rfl) B.bool (by decide +kernel) rfl) pa_nil)))))))) (fun _ _ _ _ _ => (pv 3))) (pe_lst pa_nil) (nomark _)) (pss_one (ps_ret pe_bl)) pss_nil)
      (pss_one (ps_ret (pe_cmpR (op_eqD hr.units) (pe_lc (own := [("_law_one", 3)]) (g := (gName 3)) (tt := (tNot (tTest (tChain (rI0 fun i j => .bl (decide (i ≤ j))) (rI0 fun i j => .bl (decide (i ≤ j))) (tC (.int 0)) (tVar 3) (tVar 2))))) (te := (tVar 3)) (by rfl) sc_law_numbers_so.nd (pi_list (pv 0)) (blkOk_by (own := [("_law_one", 3)]) (N := ["_law_thing", "_law_many", "_law_size", "_law_one"]) (sc := defScope s_law_numbers_so) (by decide +kernel)) (fun _ _ _ _ _ => (pg_name (i := 3) sc_law_numbers_so.nd rfl (Or.inl rfl))) (fun _ _ _ _ _ => pts_one (pt_not (pt_chain op_le op_le pe_int (pv 3) (pv 2)))) (fun _ _ _ _ _ => (pv 3))) (pe_lst pa_nil) (nomark _)))))), ?_⟩
    refine ⟨_, rfl, v, .ty "list", _, _, _, rfl, .ty "list", hv.ty, kit_list g, _, rfl, iteB (fun e => ?_) (fun e => ?_)⟩
    · refine iteT ?_
      rw [show false = nlG n s g from by cases g <;> first | rfl | cases e]
      exact q H (Same.refl H)
    cases hv with
    | @lst a vs l na ea t =>
      have hl := t.len
      have l100 := few l rfl
      have okl := ok.lst_mem
      refine ⟨_, rfl, a, _, rfl, .inl (SqL.of ea), _, rfl, rfl, _, rfl, iteB (fun e1 => ?_) (fun e1 => ?_)⟩
      · have z : ¬ l.length = n := fun z => by
          rw [hl, z] at e1
          simp at e1
        have e2 : nlG n s (.lst l) = false := by
          show (decide (l.length = n) && (l.map (ageG s)).all id) = false
          rw [decide_eq_false z, Bool.false_and]
        rw [← e2]
        exact q H (Same.refl H)
      · have z : l.length = n := by
          rw [hl] at e1
          by_cases z : l.length = n
          · exact z
          · exfalso
            have z2 : ¬ ((l.length : Int) = (n : Int)) := by omega
            simp [z2] at e1
        have eN : nlG n s (.lst l) = (l.map (ageG s)).all id := by
          show (decide (l.length = n) && (l.map (ageG s)).all id) = _
          rw [decide_eq_true z, Bool.true_and]
        refine ⟨_, rfl, a, rfl, ⟨_, SqL.of ea⟩, fun D nD => ?_⟩
        refine lc_list (K := K) (a := a) (xs := vs) (fun i H2 => Same H H2 ∧ ∃ ws, H2 D = some (.lst ws) ∧ TgL p H ws ((l.take i).filter fun g => !wholeG g)) ?_ ?_ ?_ ?_
        · exact ⟨same_upd nD, [], upd_same, .nil⟩
        · rintro i H2 _ ⟨s2, _⟩
          exact SqL.of (s2 _ _ ea)
        · rintro i x H2 hx ⟨s2, ws, hD, tw⟩
          obtain ⟨g1, e4, tg⟩ := t.get hx
          have et : l.take (i + 1) = l.take i ++ [g1] := by rw [List.take_add_one, e4]; rfl
          have yes : wholeG g1 = false → ∃ acc, H2 D = some (.lst acc) ∧ acc.length < sizeLine ∧ Same H (upd H2 D (.lst (acc ++ [x]))) ∧ ∃ ws, (upd H2 D (.lst (acc ++ [x]))) D = some (.lst ws) ∧ TgL p H ws ((l.take (i + 1)).filter fun g => !wholeG g) := fun z => by
            refine ⟨ws, hD, ?_, fun c o ec => ?_, ws ++ [x], upd_same, ?_⟩
            · rw [tw.len]
              have z := List.length_filter_le (fun g => !wholeG g) (l.take i)
              rw [List.length_take] at z
              exact sz1000 (by omega)
            · rw [upd_ne (ne_of_none ec nD)]
              exact s2 _ _ ec
            · rw [et, List.filter_append, List.filter_cons_of_pos (by rw [z]; rfl), List.filter_nil]
              exact tw.app (.cons tg .nil)
          have noo : wholeG g1 = true → Same H H2 ∧ ∃ ws, H2 D = some (.lst ws) ∧ TgL p H ws ((l.take (i + 1)).filter fun g => !wholeG g) := fun z => by
            refine ⟨s2, ws, hD, ?_⟩
            rw [et, List.filter_append, List.filter_cons_of_neg (by rw [z]; decide), List.filter_nil, List.append_nil]
            exact tw
          have tg2 := tg.keep (Keeps.same (p := p) s2)
          refine ⟨rfl, _, rfl, x, .ty "int", _, _, _, rfl, .ty "int", tg2.ty, kit_int g1, _, rfl, iteB (fun ea => ?_) (fun ea => ?_)⟩
          · exact iteT ⟨_, rfl, yes (by cases g1 <;> first | rfl | cases ea)⟩
          · refine ⟨_, rfl, x, .ty "bool", _, _, _, rfl, .ty "bool", tg2.ty, kit_bool g1, _, rfl, iteB (fun eb => ?_) (fun eb => ?_)⟩
            · exact ⟨_, rfl, yes (by cases g1 <;> first | rfl | (cases eb; done))⟩
            · exact noo (by cases g1 <;> first | rfl | (cases eb; done) | (cases ea; done))
        · rintro H2 ⟨s2, ws, hD, tw⟩
          rw [hl, List.take_length] at tw
          refine ⟨Nat.zero_le _, fun c nc => ?_⟩
          have ecD : D ≠ c := ne_of_none hD nc
          have s4 : Same H (upd H2 c (.lst [])) := s2.trans (same_upd nc)
          refine rest_nil (p := p) (H := H) (gs := l.filter fun g => !wholeG g) (fun g hg => okl g (List.mem_filter.mp hg).1) tw s4 (by rw [upd_ne ecD]; exact hD) upd_same ⟨_, rfl, ?_⟩
          rw [filt_emp]
          generalize upd H2 c (.lst []) = H3 at s4
          cases hw : (l.map wholeG).all id with
          | false =>
            refine iteT ?_
            have q2 := q H3 s4
            have e2 : (l.map (ageG s)).all id = false := by
              rw [List.all_map, List.all_eq_false] at hw ⊢
              obtain ⟨x, hx, hx2⟩ := hw
              refine ⟨x, hx, fun h => hx2 ?_⟩
              show wholeG x = true
              have h' : ageG s x = true := h
              cases x <;> first | rfl | cases h'
            rw [eN, e2] at q2
            exact q2
          | true =>
            refine iteF ⟨_, rfl, a, rfl, ⟨_, SqL.of (s4 _ _ ea)⟩, fun D2 nD2 => ?_⟩
            have lw : ∀ x ∈ l, wholeG x = true := fun x hx => by
              rw [List.all_map] at hw
              exact List.all_eq_true.mp hw x hx
            refine lc_list (K := K) (a := a) (xs := vs) (fun i H4 => Same H3 H4 ∧ ∃ ws, H4 D2 = some (.lst ws) ∧ TgL p H ws ((l.take i).filter fun g => !ageG s g)) ?_ ?_ ?_ ?_
            · exact ⟨same_upd nD2, [], upd_same, .nil⟩
            · rintro i H4 _ ⟨s5, _⟩
              exact SqL.of (s5 _ _ (s4 _ _ ea))
            · rintro i x H4 hx ⟨s5, ws2, hD2, tw2⟩
              obtain ⟨g1, e4, tg⟩ := t.get hx
              have et : l.take (i + 1) = l.take i ++ [g1] := by rw [List.take_add_one, e4]; rfl
              obtain ⟨y, rfl, rfl⟩ := whole_intA tg (lw g1 (List.mem_of_getElem? e4))
              have yes : ageG s (.int y) = false → ∃ acc, H4 D2 = some (.lst acc) ∧ acc.length < sizeLine ∧ Same H3 (upd H4 D2 (.lst (acc ++ [V.int y]))) ∧ ∃ ws, (upd H4 D2 (.lst (acc ++ [V.int y]))) D2 = some (.lst ws) ∧ TgL p H ws ((l.take (i + 1)).filter fun g => !ageG s g) := fun z => by
                refine ⟨ws2, hD2, ?_, fun c o ec => ?_, ws2 ++ [V.int y], upd_same, ?_⟩
                · rw [tw2.len]
                  have z := List.length_filter_le (fun g => !ageG s g) (l.take i)
                  rw [List.length_take] at z
                  exact sz1000 (by omega)
                · rw [upd_ne (ne_of_none ec nD2)]
                  exact s5 _ _ ec
                · rw [et, List.filter_append, List.filter_cons_of_pos (by rw [z]; rfl), List.filter_nil]
                  exact tw2.app (.cons tg .nil)
              have noo : ageG s (.int y) = true → Same H3 H4 ∧ ∃ ws, H4 D2 = some (.lst ws) ∧ TgL p H ws ((l.take (i + 1)).filter fun g => !ageG s g) := fun z => by
                refine ⟨s5, ws2, hD2, ?_⟩
                rw [et, List.filter_append, List.filter_cons_of_neg (by rw [z]; decide), List.filter_nil, List.append_nil]
                exact tw2
              have ea : ageG s (.int y) = (decide (0 ≤ y) && decide (y ≤ s)) := rfl
              refine ⟨rfl, _, rfl, _, _, rfl, rfl, _, rfl, iteB (fun e5 => ?_) (fun e5 => ?_)⟩
              · refine ⟨_, rfl, _, _, rfl, rfl, _, rfl, ?_⟩
                by_cases ys : y ≤ s
                · rw [decide_eq_true ys]
                  exact iteF (noo (by rw [ea, e5, decide_eq_true ys]; rfl))
                · rw [decide_eq_false ys]
                  exact iteT ⟨_, rfl, yes (by rw [ea, decide_eq_false ys, Bool.and_false])⟩
              · exact ⟨_, rfl, iteT ⟨_, rfl, yes (by rw [ea, e5, Bool.false_and])⟩⟩
            · rintro H4 ⟨s5, ws2, hD2, tw2⟩
              rw [hl, List.take_length] at tw2
              refine ⟨Nat.zero_le _, fun c2 nc2 => ?_⟩
              have ecD2 : D2 ≠ c2 := ne_of_none hD2 nc2
              have s6 : Same H (upd H4 c2 (.lst [])) := (s4.trans s5).trans (same_upd nc2)
              refine rest_nilE (p := p) (H := H) (gs := l.filter fun g => !ageG s g) (fun g hg => okl g (List.mem_filter.mp hg).1) tw2 s6 (by rw [upd_ne ecD2]; exact hD2) upd_same ?_
              rw [filt_emp]
              have q2 := q _ s6
              rw [eN] at q2
              exact q2
    | _ => cases e
theorem ok_lrow (T : At K mg "_law_row_so" s_law_row_so ["_law_thing", "_law_many", "_law_size"]) (B : Bt mg) (c_numbers_so : Cal P w K mg base 1 "_law_numbers_so" ["_law_thing", "_law_many", "_law_size"] spLNl) : Cal P w K mg base 2 "_law_row_so" ["_law_thing", "_law_many", "_law_size"] spLRow := by
  refine cal_of T sc_law_row_so (fun vs H Q E h => ?_) (fun f cdv A outer s' H vs Q E hr h => ?_)
  · obtain ⟨p, v, g, n, s, rfl, _⟩ := h
    rfl
  · obtain ⟨p, v, g, n, s, rfl, hv, rs, q⟩ := h
    refine ⟨_, (pss_cons (ps_if (pt_cmpR op_isN (pv 0) pe_non (nomark _)) (pss_one (ps_ret pe_bl)) pss_nil)
      (pss_cons (ps_if (PW.pt (pw_or (pt_not (pt_val (pe_callB call_isi (by rfl) B.isinstance (by decide +kernel) (pa_cons (pv 0) (pa_cons (pe_bltn (v := .ty "tuple") (u := .type "tuple") (by rfl) B.tuple (by decide +kernel) rfl) pa_nil))))) (pw_or1 (pt_cmpR op_ne (pe_callB call_len_seq (by rfl) B.len PySem.boot_len (pa_cons (pv 0) pa_nil)) pe_int (nomark _))))) (pss_one (ps_ret pe_bl)) pss_nil)
      (pss_one (ps_ret (pe_and (pe_own c_numbers_so hr (by decide) (by rfl) (pa_cons (pe_ix ix_tup (pv 0) pe_int (fun _ _ => rfl)) (pa_cons (pv 1) (pa_cons (pv 2) pa_nil)))) (pe_one (pe_own c_numbers_so hr (by decide) (by rfl) (pa_cons (pe_ix ix_tup (pv 0) pe_int (fun _ _ => rfl)) (pa_cons (pv 1) (pa_cons (pv 2) pa_nil)))))))))), ?_⟩
    by_cases gn : g = .non
    · subst gn
      cases hv
      exact ⟨_, rfl, rfl, _, rfl, iteT (q H (Same.refl H))⟩
    have vn : v ≠ .non := fun h => by
      subst h
      cases hv
      exact gn rfl
    refine ⟨_, rfl, rfl, _, rfl, ?_⟩
    rw [decide_eq_false vn]
    have eC : celG n s g = prG n s g := by
      cases g <;> first | exact absurd rfl gn | rfl
    rw [eC] at q
    refine iteF ⟨_, rfl, v, .ty "tuple", _, _, _, rfl, .ty "tuple", hv.ty, kit_tuple g, _, rfl, iteB (fun e => ?_) (fun e => ?_)⟩
    · refine iteT ?_
      rw [show false = prG n s g from by cases g <;> first | rfl | cases e]
      exact q H (Same.refl H)
    cases hv with
    | @tup a vs l ea t =>
      have hl := t.len
      refine ⟨_, rfl, a, _, rfl, .inr ea.sq, rfl, _, rfl, iteB (fun e1 => ?_) (fun e1 => ?_)⟩
      · have z : ¬ l.length = 2 := fun z => by
          rw [hl, z] at e1
          simp at e1
        have e2 : prG n s (.tup l) = false := by
          show (decide (l.length = 2) && (l.map (nlG n s)).all id) = false
          rw [decide_eq_false z, Bool.false_and]
        rw [← e2]
        exact q H (Same.refl H)
      · have z : l.length = 2 := by
          rw [hl] at e1
          by_cases z : l.length = 2
          · exact z
          · exfalso
            have z2 : ¬ ((l.length : Int) = 2) := by omega
            simp [z2] at e1
        obtain ⟨x1, x2, rfl⟩ : ∃ x1 x2, l = [x1, x2] := by
          cases l with
          | nil => cases z
          | cons x1 l =>
            cases l with
            | nil => cases z
            | cons x2 l =>
              cases l with
              | nil => exact ⟨x1, x2, rfl⟩
              | cons _ _ => simp at z
        have okl := rs.ok.tup_mem
        have fewl := rs.few _ rfl
        cases t with
        | @cons v1 _ _ _ h1 t =>
          cases t with
          | @cons v2 _ _ _ h2 t =>
            cases t
            have e3 : prG n s (.tup [x1, x2]) = (nlG n s x1 && nlG n s x2) := by
              show (true && (nlG n s x1 && (nlG n s x2 && true))) = _
              rw [Bool.true_and, Bool.and_true]
            rw [e3] at q
            refine ⟨_, rfl, a, _, _, _, rfl, rfl, ea.sq, atI_nat (j := 0) rfl, _, rfl, _, rfl, p, v1, x1, n, s, rfl, h1, okl x1 (by simp), fewl x1 (by simp), fun H2 s2 => ⟨_, rfl, ?_⟩⟩
            cases hb : nlG n s x1 with
            | false =>
              have q2 := q H2 s2
              rw [hb, Bool.false_and] at q2
              exact iteF q2
            | true =>
              refine iteT ⟨_, rfl, a, _, _, _, rfl, rfl, (ea.same s2).sq, atI_nat (j := 1) rfl, _, rfl, _, rfl, p, v2, x2, n, s, rfl, h2.keep (Keeps.same s2), okl x2 (by simp), fewl x2 (by simp), fun H3 s3 => ?_⟩
              have q2 := q H3 (s2.trans s3)
              rw [hb, Bool.true_and] at q2
              exact q2
    | _ => cases e
end
end Su
/-! ### LD: the law's own look at a table -/
namespace Su
open PySem PySem.Spec PyProof.Rows L2
def spLDue37 : Sp := fun vs H Q _ => ∃ (p a : Addr) (v : V) (g : G) (rs : List Rw) (s : Int), vs = [.ref a, .int s, v] ∧ WebAt H a rs ∧ WebOk rs ∧ Tg p H v g ∧ TabF g ∧ 1 ≤ s ∧ s ≤ 8 ∧
  ∀ (ms : List Int) (H' : Hp), ms.Pairwise (· < ·) → (∀ k : Int, k ∈ ms ↔ k ∈ allRooms rs) → Same H H' → Q (.bl (letsB ms s rs g)) H'
theorem sc_law_due : FnScope ["_law_web_here", "_law_size", "_law_thing", "_law_rooms", "_law_row", "_law_later", "_law_to", "_law_one"] ["_law_web_here", "_law_size", "_law_thing"] (defScope s_law_due) := ⟨rfl, rfl, rfl, by decide +kernel, rfl, by decide +kernel, by decide +kernel⟩
section
variable {P : Program} {w : World} {K : PySem.W.Frag} {mg : Str → Option Value} {base : Heap}
theorem ok_due (T : At K mg "_law_due" s_law_due ["_law_web_here", "_law_size", "_law_thing"]) (B : Bt mg) (c_web_rooms : Cal P w K mg base 1 "_law_web_rooms" ["_law_web_here"] spLRooms) (c_row_so : Cal P w K mg base 2 "_law_row_so" ["_law_thing", "_law_many", "_law_size"] spLRow) (c_behind : Cal P w K mg base 2 "_law_behind" ["_law_web_here", "_law_rooms", "_law_row", "_law_found", "_law_size"] spLBeh) (c_both_ages : Cal P w K mg base 1 "_law_both_ages" ["_law_one", "_law_other"] spBoth) :
    Cal P w K mg base 3 "_law_due" ["_law_web_here", "_law_size", "_law_thing"] spLDue37 := by
  refine cal_of T sc_law_due (fun vs H Q E h => ?_) (fun f cdv A outer s' H vs Q E hr h => ?_)
  · obtain ⟨p, a, v, g, rs, s, rfl, _⟩ := h
    rfl
  · obtain ⟨p, a, v, g, rs, s, rfl, hw, ok, hv, tf, s1, s8, q⟩ := h
    refine ⟨_, (pss_cons (ps_set (i := 3) sc_law_due.nd rfl (Or.inr rfl) (pe_own c_web_rooms hr (by decide) (by rfl) (pa_cons (pv 0) pa_nil)))
      (pss_cons (ps_if (PW.pt (pw_or (pt_not (pt_val (pe_callB call_isi (by rfl) B.isinstance (by decide +kernel) (pa_cons (pv 2) (pa_cons (pe_bltn (v := .ty "list") (u := .type "list") (by rfl) B.list (by decide +kernel) rfl) pa_nil))))) (pw_or1 (pt_cmpR op_ne (pe_callB call_len_seq (by rfl) B.len PySem.boot_len (pa_cons (pv 2) pa_nil)) (pe_callB call_len_seq (by rfl) B.len PySem.boot_len (pa_cons (pv 0) pa_nil)) (nomark _))))) (pss_one (ps_ret pe_bl)) pss_nil)
      (pss_cons (ps_if (pt_cmpR (op_neD hr.units) (pe_lc (own := [("_law_one", 7)]) (g := (gName 7)) (tt := (tNot (tB (tCall spLRow [] E0 (tCons (tVar 7) (tCons (tCB (rLenK K) (tCons (tVar 3) tNil)) (tCons (tVar 1) tNil))))))) (te := (tVar 7)) (by rfl) sc_law_due.nd (pi_list (pv 2)) (blkOk_by (own := [("_law_one", 7)]) (N := ["_law_web_here", "_law_size", "_law_thing", "_law_rooms", "_law_row", "_law_later", "_law_to", "_law_one"]) (sc := defScope s_law_due) (by decide +kernel)) (fun _ _ _ _ _ => (pg_name (i := 7) sc_law_due.nd rfl (Or.inl rfl))) (fun _ _ _ _ _ => pts_one (pt_not (pt_val (pe_own c_row_so hr (by decide) (by rfl) (pa_cons (pv 7) (pa_cons (pe_callB call_len_seq (by rfl) B.len PySem.boot_len (pa_cons (pv 3) pa_nil)) (pa_cons (pv 1) pa_nil))))))) (fun _ _ _ _ _ => (pv 7))) (pe_lst pa_nil) (nomark _)) (pss_one (ps_ret pe_bl)) pss_nil)
      (pss_cons (ps_if (pt_cmpR (op_neD hr.units) (pe_ix ix_list (pv 2) pe_int (fun _ _ => rfl)) (pe_tupF (pa_cons (pe_op op_rep (pe_lst (pa_cons (pv 1) pa_nil)) (pe_callB call_len_seq (by rfl) B.len PySem.boot_len (pa_cons (pv 3) pa_nil))) (pa_cons (pe_op op_rep (pe_lst (pa_cons pe_int pa_nil)) (pe_callB call_len_seq (by rfl) B.len PySem.boot_len (pa_cons (pv 3) pa_nil))) pa_nil))) (nomark _)) (pss_one (ps_ret pe_bl)) pss_nil)
      (pss_cons (ps_for PassesOwn.never rfl (pi_range1 (by rfl) B.range (pa_cons (pe_callB call_len_seq (by rfl) B.len PySem.boot_len (pa_cons (pv 0) pa_nil)) pa_nil)) (pg_name (i := 4) sc_law_due.nd rfl (Or.inl rfl)) (pss_one (ps_if (pt_cmpR op_notN (pe_ix ix_list (pv 2) (pv 4) (fun _ _ => rfl)) pe_non (nomark _)) (pss_cons (ps_set (i := 5) sc_law_due.nd rfl (Or.inl rfl) (pe_own c_behind hr (by decide) (by rfl) (pa_cons (pv 0) (pa_cons (pv 3) (pa_cons (pv 4) (pa_cons (pe_ix ix_list (pv 2) (pv 4) (fun _ _ => rfl)) (pa_cons (pv 1) pa_nil)))))))
      (pss_one (ps_for PassesOwn.never rfl (pi_tup (pe_ix ix_tup (pe_ix ix_list (pv 0) (pv 4) (fun _ _ => rfl)) pe_int (fun _ _ => rfl))) (pg_name (i := 6) sc_law_due.nd rfl (Or.inl rfl)) (pss_one (ps_if (PW.pt (pw_or (pt_cmpR op_isN (pe_ix ix_list (pv 2) (pv 6) (fun _ _ => rfl)) pe_non (nomark _)) (pw_or1 (pt_cmpR (op_neD hr.units) (pe_own c_both_ages hr (by decide) (by rfl) (pa_cons (pe_ix ix_list (pv 2) (pv 6) (fun _ _ => rfl)) (pa_cons (pv 5) pa_nil))) (pe_ix ix_list (pv 2) (pv 6) (fun _ _ => rfl)) (nomark _))))) (pss_one (ps_ret pe_bl)) pss_nil))))) pss_nil)))
      (pss_one (ps_ret pe_bl))))))), ?_⟩
    refine ⟨_, rfl, a, rs, rfl, hw, ok, fun ms u H2 pw mem t12 nu hu => ?_⟩
    obtain ⟨A, hA, hin⟩ := ok.all
    have hw2 := hw.same t12
    have m12 : ms.length ≤ 12 := by
      have := nodup_few (S := A) (pw.imp fun h => Int.ne_of_lt h) fun k hk => hin k ((mem k).mp hk)
      omega
    obtain ⟨ws, ha2, hrs⟩ := id hw2
    have wl := hrs.len
    have r80 := ok.few
    have rpos := ok.pos
    have hv2 := hv.keep (Keeps.same t12)
    have no : tabG ms.length s rs.length g = false → letsB ms s rs g = false := fun e => by
      unfold letsB
      rw [e, Bool.false_and]
    refine ⟨_, rfl, v, .ty "list", _, _, _, rfl, .ty "list", hv2.ty, kit_list g, _, rfl, iteB (fun e => ?_) (fun e => ?_)⟩
    · refine iteT ?_
      have z := no (by cases g <;> first | rfl | cases e)
      have q2 := q ms H2 pw mem t12
      rw [z] at q2
      exact q2
    cases hv2 with
    | @lst b vs l na eb t =>
      have hl := t.len
      have l100 := tf.1 l rfl
      have rowS := tf.2 l rfl
      refine ⟨_, rfl, b, _, rfl, .inl (SqL.of eb), _, rfl, a, _, rfl, .inl (SqL.of ha2), rfl, _, rfl, iteB (fun e1 => ?_) (fun e1 => ?_)⟩
      · have z : ¬ l.length = rs.length := fun z => by
          rw [hl, z, wl] at e1
          simp at e1
        have z2 := no (by show (decide (l.length = rs.length) && (l.map (celG ms.length s)).all id) = false; rw [decide_eq_false z, Bool.false_and])
        have q2 := q ms H2 pw mem t12
        rw [z2] at q2
        exact q2
      · have lr : l.length = rs.length := by
          rw [hl, wl] at e1
          by_cases z : l.length = rs.length
          · exact z
          · exfalso
            have z2 : ¬ ((l.length : Int) = (rs.length : Int)) := by omega
            simp [z2] at e1
        refine ⟨_, rfl, b, rfl, ⟨_, SqL.of eb⟩, fun D nD => ?_⟩
        refine lc_list (K := K) (a := b) (xs := vs) (fun i H3 => Same H2 H3 ∧ ∃ ws, H3 D = some (.lst ws) ∧ TgL p H2 ws ((l.take i).filter fun g => !celG ms.length s g)) ?_ ?_ ?_ ?_
        · exact ⟨same_upd nD, [], upd_same, .nil⟩
        · rintro i H3 _ ⟨s3, _⟩
          exact SqL.of (s3 _ _ eb)
        · rintro i x H3 hx ⟨s3, ws1, hD, tw⟩
          obtain ⟨g1, e4, tg⟩ := t.get hx
          have et : l.take (i + 1) = l.take i ++ [g1] := by rw [List.take_add_one, e4]; rfl
          refine ⟨rfl, _, rfl, _, rfl, u, _, rfl, .inl (SqL.of (s3 _ _ hu)), _, rfl, p, x, g1, ms.length, s, (by rw [List.length_map]; rfl), tg.keep (Keeps.same s3), rowS g1 (List.mem_of_getElem? e4), fun H4 s4 => ⟨_, rfl, ?_⟩⟩
          cases hc : celG ms.length s g1 with
          | false =>
            refine iteT ⟨_, rfl, ws1, s4 _ _ hD, ?_, fun c o ec => ?_, ws1 ++ [x], upd_same, ?_⟩
            · rw [tw.len]
              have z := List.length_filter_le (fun g => !celG ms.length s g) (l.take i)
              rw [List.length_take] at z
              exact sz1000 (by omega)
            · rw [upd_ne (ne_of_none ec nD)]
              exact s4 _ _ (s3 _ _ ec)
            · rw [et, List.filter_append, List.filter_cons_of_pos (by rw [hc]; rfl), List.filter_nil]
              exact tw.app (.cons tg .nil)
          | true =>
            refine iteF ⟨s3.trans s4, ws1, s4 _ _ hD, ?_⟩
            rw [et, List.filter_append, List.filter_cons_of_neg (by rw [hc]; decide), List.filter_nil, List.append_nil]
            exact tw
        · rintro H3 ⟨s3, ws1, hD, tw⟩
          rw [hl, List.take_length] at tw
          refine ⟨Nat.zero_le _, fun c nc => ?_⟩
          have ecD : D ≠ c := ne_of_none hD nc
          have s4 : Same H2 (upd H3 c (.lst [])) := s3.trans (same_upd nc)
          refine rest_nil (p := p) (H := H2) (gs := l.filter fun g => !celG ms.length s g) (fun g hg => (rowS g (List.mem_filter.mp hg).1).ok) tw s4 (by rw [upd_ne ecD]; exact hD) upd_same ⟨_, rfl, ?_⟩
          rw [filt_emp]
          have tb : tabG ms.length s rs.length (.lst l) = (l.map (celG ms.length s)).all id := by
            show (decide (l.length = rs.length) && (l.map (celG ms.length s)).all id) = _
            rw [decide_eq_true lr, Bool.true_and]
          generalize upd H3 c (.lst []) = H4 at s4
          cases hb : (l.map (celG ms.length s)).all id with
          | false =>
            have z2 := no (tb.trans hb)
            have q2 := q ms H4 pw mem (t12.trans s4)
            rw [z2] at q2
            exact iteT q2
          | true =>
            have tb1 := tb.trans hb
            have eL : letsB ms s rs (.lst l) = (decide ((l.map celO)[0]? = some (some (firstP ms.length s))) && holdB ms s rs (l.map celO)) := by
              unfold letsB
              rw [tb1, Bool.true_and]
              rfl
            refine iteF ?_
            have l0 : 0 < l.length := by omega
            have eg0 : l[0]? = some l[0] := List.getElem?_eq_getElem l0
            obtain ⟨v0, ev0, tg0⟩ := t.at eg0
            obtain ⟨c0, o0⟩ := cel_at tg0 (all_rows hb eg0)
            have ex0 : (l.map celO)[0]? = some (celO l[0]) := by rw [List.getElem?_map, eg0]; rfl
            generalize celO l[0] = o at c0 o0 ex0
            have hu4 := s4 _ _ hu
            refine ⟨_, rfl, b, vs, _, _, rfl, rfl, SqL.of (s4 _ _ eb), atI_nat (j := 0) ev0, _, rfl, (by show 1 ≤ sizeLine; decide), fun p1 n1 => ?_⟩
            have t4 : Same H4 (upd H4 p1 (.lst [V.int s])) := same_upd n1
            refine ⟨_, rfl, u, _, rfl, .inl (SqL.of (t4 _ _ hu4)), p1, _, _, rfl, rfl, upd_same, by omega, by rw [List.length_map]; omega, ?_, fun a5 na5 => ?_⟩
            · rw [List.length_map]
              show 1 * _ ≤ _
              have := sz1000 (n := ms.length) (by omega)
              omega
            rw [List.length_map, Int.toNat_natCast, rep_ints]
            have t5 := t4.trans (same_upd (o := .lst ((List.replicate ms.length s).map V.int)) na5)
            refine ⟨(by show 1 ≤ sizeLine; decide), fun p2 n2 => ?_⟩
            have t6 := t5.trans (same_upd (o := .lst [V.int 0]) n2)
            refine ⟨_, rfl, u, _, rfl, .inl (SqL.of (t6 _ _ hu4)), p2, _, _, rfl, rfl, upd_same, by omega, by rw [List.length_map]; omega, ?_, fun b5 nb5 => ?_⟩
            · rw [List.length_map]
              show 1 * _ ≤ _
              have := sz1000 (n := ms.length) (by omega)
              omega
            rw [List.length_map, Int.toNat_natCast, rep_ints]
            have t7 := t6.trans (same_upd (o := .lst ((List.replicate ms.length 0).map V.int)) nb5)
            refine ⟨(by show 2 ≤ sizeLine; decide), fun t9 H5 t8 _ pt => ?_⟩
            have t45 := t7.trans t8
            have s25 := s4.trans t45
            have hv1 : PairAt H5 (.ref t9) (firstP ms.length s) := ⟨t9, a5, b5, rfl, .inl pt, t8 _ _ (((same_upd n2).trans (same_upd nb5)) _ _ upd_same), t8 _ _ upd_same⟩
            have f0 := (o_fine o0 m12 (by omega)).shaped (by decide)
            have okf : POk ms.length s (firstP ms.length s) := firstP_ok (by omega)
            have f1 := (pr_fine okf m12 (by omega)).shaped (by decide)
            refine ⟨oD o, prD (firstP ms.length s), (c0.same s25).dp, hv1.dp, f0, f1, _, rfl, ?_⟩
            rw [show PyData.eqv (oD o) (prD (firstP ms.length s)) = decide (o = some (firstP ms.length s)) from o_eqv o (some (firstP ms.length s))]
            by_cases zf : o = some (firstP ms.length s)
            · rw [decide_eq_true zf]
              refine iteF ?_
              have e0t : decide ((l.map celO)[0]? = some (some (firstP ms.length s))) = true := decide_eq_true (by rw [ex0, zf])
              rw [e0t, Bool.true_and] at eL
              have eb5 := s25 _ _ eb
              refine ⟨_, rfl, a, _, rfl, .inl (SqL.of (s25 _ _ ha2)), _, rfl, (by omega), (by omega), ?_⟩
              rw [show ((ws.length : Nat) : Int).toNat = rs.length by omega]
              refine for_range (lo := 0) (n := rs.length) (fun i σ H6 => ∃ y4 y5 y6 y7 : Option V, σ = [some (.ref a), some (.int s), some (.ref b), some (.ref u), y4, y5, y6, y7] ∧ Same H2 H6 ∧ ∀ j < i, holdR ms s (l.map celO) (rs.getD j ([], [])) ((l.map celO).getD j none) = true) ?_ ?_ ?_
              · exact ⟨none, none, none, none, rfl, s25, fun j h => absurd h (Nat.not_lt_zero j)⟩
              · rintro i σ H6 hi ⟨y4, y5, y6, y7, rfl, s6, hold⟩
                rw [Int.zero_add]
                have eb6 := s6 _ _ eb
                have jw : ws[i]? = some ws[i] := List.getElem?_eq_getElem (by omega)
                obtain ⟨r, er, ra, rb, rc, ew, hra, hrb, hrc⟩ := hrs.get jw
                have rok := ok.row r (List.mem_of_getElem? er)
                have il : i < l.length := by omega
                have e4 : l[i]? = some l[i] := List.getElem?_eq_getElem il
                obtain ⟨x, ex, tg⟩ := t.at e4
                obtain ⟨c1, o1⟩ := cel_at tg (all_rows hb e4)
                have ex1 : (l.map celO)[i]? = some (celO l[i]) := by rw [List.getElem?_map, e4]; rfl
                generalize celO l[i] = o1v at c1 o1 ex1
                have egd : (l.map celO).getD i none = o1v := by rw [List.getD_eq_getElem?_getD, ex1]; rfl
                have erd : rs.getD i ([], []) = r := by rw [List.getD_eq_getElem?_getD, er]; rfl
                have hold2 : holdR ms s (l.map celO) r o1v = true → ∀ j < i + 1, holdR ms s (l.map celO) (rs.getD j ([], [])) ((l.map celO).getD j none) = true := fun h j hj => by
                  by_cases ji : j = i
                  · subst ji
                    rw [egd, erd]
                    exact h
                  · exact hold j (by omega)
                refine ⟨_, rfl, _, rfl, b, vs, _, _, rfl, rfl, SqL.of eb6, atI_nat ex, rfl, _, rfl, ?_⟩
                cases o1v with
                | none =>
                  rw [show x = .non from c1]
                  exact iteF ⟨_, _, _, _, rfl, s6, hold2 rfl⟩
                | some p0 =>
                  obtain ⟨tt, ta, tb', rfl, _⟩ := id (show PairAt H2 x p0 from c1)
                  have op := o1 p0 rfl
                  have rin : ∀ k ∈ r.1, k ∈ ms := fun k hk => (mem k).mpr (List.mem_flatten.mpr ⟨r.1, List.mem_map.mpr ⟨r, List.mem_of_getElem? er, rfl⟩, hk⟩)
                  have few6 : r.1.length ≤ 100 := by
                    have := rok.few
                    omega
                  refine iteT ⟨_, rfl, _, rfl, _, rfl, _, rfl, _, rfl, b, vs, _, _, rfl, rfl, SqL.of eb6, atI_nat ex, _, rfl, a, u, rs, i, r, _, p0, ms, s, rfl, hw2.same s6, er, PairAt.same c1 s6, s6 _ _ hu, op, rin, few6, by omega, by omega, by omega, fun cv H7 t7 hcv => ?_⟩
                  have s7 := s6.trans t7
                  have okc : POk ms.length s (comeP ms s r p0) := rowP_ok (by omega) op _
                  have hcc : PairAt H7 cv (comeP ms s r p0) := by
                    rcases hcv with h | ⟨rfl, e⟩
                    · exact h.at
                    · rw [e]
                      exact PairAt.same c1 s7
                  have eR : ∀ n, holdR ms s (l.map celO) r (some p0) = ((r.2.take n).all (holdT (l.map celO) (comeP ms s r p0)) && (r.2.drop n).all (holdT (l.map celO) (comeP ms s r p0))) := fun n => by
                    rw [← List.all_append, List.take_append_drop]
                    rfl
                  refine ⟨_, rfl, _, rfl, a, _, _, _, rfl, rfl, SqL.of (s7 _ _ ha2), atI_nat (by rw [jw, ew]), ra, _, _, _, rfl, rfl, (hra.same s7).sq, atI_nat (j := 1) rfl, rc, rfl, ⟨_, (hrc.same s7).sq⟩, ?_⟩
                  refine for_tup (K := K) (a := rc) (xs := r.2.map V.int) (fun n σ H8 => ∃ y6 y7 : Option V, σ = [some (.ref a), some (.int s), some (.ref b), some (.ref u), some (.int (i : Nat)), some cv, y6, y7] ∧ Same H7 H8 ∧ (r.2.take n).all (holdT (l.map celO) (comeP ms s r p0)) = true) ?_ ?_ ?_ ?_
                  · exact ⟨_, _, rfl, Same.refl _, by simp⟩
                  · rintro n σ H8 _ ⟨_, _, _, s8', _⟩
                    exact (hrc.same (s7.trans s8')).sq
                  · rintro n vv σ H8 hvv ⟨y6', y7', rfl, s8', hall⟩
                    obtain ⟨tt2, et, rfl⟩ := map_get_int hvv
                    have tin := List.mem_of_getElem? et
                    have tg0 := rok.tos.lo _ tin
                    have tg1 := rok.tos.hi _ tin
                    obtain ⟨tn, rfl⟩ : ∃ tn : Nat, tt2 = (tn : Int) := ⟨tt2.toNat, by omega⟩
                    have tl : tn < l.length := by omega
                    have eg2 : l[tn]? = some l[tn] := List.getElem?_eq_getElem tl
                    obtain ⟨v2, ev2, tg2⟩ := t.at eg2
                    obtain ⟨c2, o2⟩ := cel_at tg2 (all_rows hb eg2)
                    have ex2 : (l.map celO)[tn]? = some (celO l[tn]) := by rw [List.getElem?_map, eg2]; rfl
                    generalize celO l[tn] = o2v at c2 o2 ex2
                    have s28 := s7.trans s8'
                    have eh : holdT (l.map celO) (comeP ms s r p0) (tn : Int) = allowB o2v (comeP ms s r p0) := by
                      unfold holdT
                      rw [Int.toNat_natCast, ex2]
                    have bad : allowB o2v (comeP ms s r p0) = false → ∀ H9, Same H8 H9 → Q (.bl false) H9 := fun hf H9 s9 => by
                      have q2 := q ms H9 pw mem (t12.trans (s28.trans s9))
                      have eH : holdB ms s rs (l.map celO) = false := by
                        unfold holdB
                        rw [List.all_eq_false]
                        refine ⟨i, List.mem_range.mpr hi, ?_⟩
                        rw [egd, erd]
                        have : holdR ms s (l.map celO) r (some p0) = false := by
                          show r.2.all (holdT (l.map celO) (comeP ms s r p0)) = false
                          rw [List.all_eq_false]
                          exact ⟨_, tin, by rw [eh, hf]; exact Bool.false_ne_true⟩
                        rw [this]
                        exact Bool.false_ne_true
                      rw [eL, eH] at q2
                      exact q2
                    refine ⟨_, rfl, _, rfl, b, vs, _, _, rfl, rfl, SqL.of (s28 _ _ eb), atI_nat ev2, rfl, _, rfl, ?_⟩
                    cases o2v with
                    | none =>
                      rw [show v2 = .non from c2]
                      exact iteT (bad rfl H8 (Same.refl _))
                    | some q0 =>
                      obtain ⟨tt3, ta3, tb3, rfl, _⟩ := id (show PairAt H2 v2 q0 from c2)
                      have oq := o2 q0 rfl
                      refine iteF ⟨_, rfl, _, rfl, b, vs, _, _, rfl, rfl, SqL.of (s28 _ _ eb), atI_nat ev2, _, rfl, _, _, rfl, .inr ⟨q0, comeP ms s r p0, ms.length, s, PairAt.same c2 s28, hcc.same s8', oq, okc, by omega, fun v3 H9 s9 hv3 => ?_⟩⟩
                      have s29 := s28.trans s9
                      have f3 := (pr_fine (joinP_ok oq okc) m12 (by omega)).shaped (by decide)
                      have f4 := (pr_fine oq m12 (by omega)).shaped (by decide)
                      refine ⟨_, rfl, _, rfl, b, vs, _, _, rfl, rfl, SqL.of (s29 _ _ eb), atI_nat ev2, prD (joinP q0 (comeP ms s r p0)), prD q0, hv3.at.dp, (PairAt.same c2 s29).dp, f3, f4, _, rfl, ?_⟩
                      rw [pr_eqv]
                      cases hz : decide (joinP q0 (comeP ms s r p0) = q0) with
                      | false => exact iteT (bad hz H9 s9)
                      | true =>
                        refine iteF ⟨_, _, rfl, s8'.trans s9, ?_⟩
                        rw [List.take_add_one, et, List.all_append, hall, Bool.true_and]
                        show (holdT (l.map celO) (comeP ms s r p0) (tn : Int) && true) = true
                        rw [eh, Bool.and_true]
                        exact hz
                  · rintro σ H8 ⟨y6', y7', rfl, s8', hall⟩
                    rw [List.length_map, List.take_length] at hall
                    exact ⟨_, _, _, _, rfl, s7.trans s8', hold2 hall⟩
              · rintro σ H6 ⟨y4, y5, y6, y7, rfl, s6, hold⟩
                have q2 := q ms H6 pw mem (t12.trans s6)
                have eH : holdB ms s rs (l.map celO) = true := by
                  unfold holdB
                  rw [List.all_eq_true]
                  intro i hi
                  exact hold i (List.mem_range.mp hi)
                rw [eL, eH] at q2
                exact q2
            · rw [decide_eq_false zf]
              have q2 := q ms H5 pw mem (t12.trans s25)
              have e0f : decide ((l.map celO)[0]? = some (some (firstP ms.length s))) = false := decide_eq_false (by rw [ex0]; exact fun h => zf (by injection h))
              rw [eL, e0f, Bool.false_and] at q2
              exact iteT q2
    | _ => cases e
end
end Su
/-! ### LE: tables made wider -/
namespace Su
open PySem PySem.Spec PyProof.Rows L2
def cellT : Option Pr → G
  | none => .non
  | some p => .tup [.lst (p.1.map G.int), .lst (p.2.map G.int)]
def tbT (X : Tb) : List G := X.map cellT
theorem valI_ints (l : List Int) : (l.map G.int).map valI = l := by
  rw [List.map_map]
  exact List.map_id' l
theorem cellT_O (o : Option Pr) : celO (cellT o) = o := by
  cases o with
  | none => rfl
  | some p =>
    show some ((p.1.map G.int).map valI, (p.2.map G.int).map valI) = _
    rw [valI_ints, valI_ints]
theorem tbT_O (X : Tb) : (tbT X).map celO = X := by
  unfold tbT
  rw [List.map_map]
  have e : (celO ∘ cellT) = id := funext fun o => cellT_O o
  rw [e, List.map_id]
theorem nl_ints {n : Nat} {s : Int} {l : List Int} (hl : l.length = n) (h : ∀ x ∈ l, 0 ≤ x ∧ x ≤ s) : nlG n s (.lst (l.map G.int)) = true := by
  show (decide ((l.map G.int).length = n) && ((l.map G.int).map (ageG s)).all id) = true
  rw [List.length_map, decide_eq_true hl, Bool.true_and, List.map_map, List.all_map, List.all_eq_true]
  intro x hx
  show (decide (0 ≤ x) && decide (x ≤ s)) = true
  have := h x hx
  rw [decide_eq_true this.1, decide_eq_true this.2]
  rfl
theorem cellT_ok {n : Nat} {s : Int} {o : Option Pr} (h : ∀ q, o = some q → POk n s q) : celG n s (cellT o) = true := by
  cases o with
  | none => rfl
  | some p =>
    have k := h p rfl
    show (decide (2 = 2) && (nlG n s _ && (nlG n s _ && true))) = true
    rw [nl_ints k.la k.a, nl_ints k.lb k.b]
    rfl
theorem OkE.int (i : Int) : OkE (.int i) := ⟨by simp [okD], by first | rfl | simp [toD, PyData.canLay0], by simp [toD, PyData.depth]⟩
theorem fz_ints {l : List Int} (h : ∀ x ∈ l, -1000 ≤ x ∧ x ≤ 2000) (hl : l.length ≤ 13) : Fz (.lst (l.map G.int)) 1 600 ∧ OkE (.lst (l.map G.int)) ∧ FewL (.lst (l.map G.int)) ∧ Fz (.tup (l.map G.int)) 1 600 ∧ OkE (.tup (l.map G.int)) := by
  have a : FzL (l.map G.int) 0 ((40 + 1) * (l.map G.int).length) := FzL.all fun g hg => by
    obtain ⟨x, hx, rfl⟩ := List.mem_map.mp hg
    have := h x hx
    exact Fz.int (by omega) (by omega)
  rw [List.length_map] at a
  have o : okDs (l.map G.int) = true ∧ PyData.canLayAll0 (toDs (l.map G.int)) = true ∧ PyData.depthAll (toDs (l.map G.int)) = 0 := by
    clear a h hl
    induction l with
    | nil => exact ⟨by simp [okDs], by simp [toDs, PyData.canLayAll0], by simp [toDs, PyData.depthAll]⟩
    | cons x l ih =>
      simp only [List.map_cons, okDs, toDs, toD, okD, PyData.canLayAll0, PyData.depthAll, PyData.depth, ih.1, ih.2.1, ih.2.2]
      exact ⟨rfl, by first | rfl | simp [PyData.canLay0], rfl⟩
  refine ⟨(Fz.lst a).up (by decide) (by omega), ⟨by simp only [okD, o.1], by simp only [toD, PyData.canLay0, o.2.1], by simp only [toD, PyData.depth, o.2.2]; decide⟩, fun m e => ?_, (Fz.tup a).up (by decide) (by omega), ⟨by simp only [okD, o.1], by simp only [toD, PyData.canLay0, o.2.1], by simp only [toD, PyData.depth, o.2.2]; decide⟩⟩
  injection e with e
  rw [← e, List.length_map]
  omega
/-- a tuple of such -/
theorem OkE.tupOf {l : List G} (h : ∀ x ∈ l, OkE x ∧ (toD x).depth ≤ 2) : OkE (.tup l) := by
  have c := OkE.list fun x hx => (h x hx).1
  have d : PyData.canLayAll0 (toDs l) = true ∧ PyData.depthAll (toDs l) ≤ 2 := by
    clear c
    induction l with
    | nil => exact ⟨by simp [toDs, PyData.canLayAll0], by simp [toDs, PyData.depthAll]⟩
    | cons x l ih =>
      have h1 := h x List.mem_cons_self
      have ih := ih fun y hy => h y (List.mem_cons_of_mem _ hy)
      refine ⟨by simp only [toDs, PyData.canLayAll0, h1.1.cl, ih.1, Bool.and_self], ?_⟩
      simp only [toDs, PyData.depthAll]
      omega
  exact ⟨by simp only [okD]; exact c.1, by simp only [toD, PyData.canLay0, d.1], by simp only [toD, PyData.depth]; omega⟩
theorem OkE.lstOf {l : List G} (h : ∀ x ∈ l, OkE x ∧ (toD x).depth ≤ 2) : OkE (.lst l) := by
  have c := OkE.tupOf h
  have a := c.ok
  have b := c.cl
  have d := c.dp
  simp only [okD, toD, PyData.canLay0, PyData.depth] at a b d
  exact ⟨by simp only [okD, a], by simp only [toD, PyData.canLay0, b], by simp only [toD, PyData.depth]; exact d⟩
theorem rowS_cell {n : Nat} {s : Int} {o : Option Pr} (h : ∀ q, o = some q → POk n s q) (n12 : n ≤ 12) (s1 : s ≤ 1000) : RowS (cellT o) := by
  cases o with
  | none => exact ⟨Fz.none.up (by decide) (by decide), ⟨by simp [cellT, okD], by simp [cellT, toD, PyData.canLay0], by simp [cellT, toD, PyData.depth]⟩, fun l e => nomatch e⟩
  | some p =>
    have k := h p rfl
    have a := fz_ints (l := p.1) (fun x hx => by have := k.a x hx; omega) (by have := k.la; omega)
    have b := fz_ints (l := p.2) (fun x hx => by have := k.b x hx; omega) (by have := k.lb; omega)
    refine ⟨(Fz.tup (FzL.cons a.1 (FzL.cons b.1 FzL.nil))).up (by decide) (by decide), OkE.tupOf fun x hx => ?_, fun l e x hx => ?_⟩
    · simp only [List.mem_cons, List.not_mem_nil, or_false] at hx
      rcases hx with rfl | rfl
      · exact ⟨a.2.1, Nat.le_trans a.1.dp (by decide)⟩
      · exact ⟨b.2.1, Nat.le_trans b.1.dp (by decide)⟩
    · injection e with e
      subst e
      simp only [List.mem_cons, List.not_mem_nil, or_false] at hx
      rcases hx with rfl | rfl
      · exact a.2.2.1
      · exact b.2.2.1
/-- a row whose lists are not these two -/
def CellY (p F : Addr) (H : Hp) (v : V) : Option Pr → Prop
  | none => v = .non
  | some q => ∃ t a b, v = .ref t ∧ T2 H t [.ref a, .ref b] ∧ H a = some (.lst (q.1.map V.int)) ∧ H b = some (.lst (q.2.map V.int)) ∧ (a ≠ p ∧ a ≠ F) ∧ b ≠ p ∧ b ≠ F
theorem tgl_ints {p : Addr} {H : Hp} {l : List Int} {vs : List V} (h : TgL p H vs (l.map G.int)) : vs = l.map V.int := by
  induction l generalizing vs with
  | nil =>
    cases h
    rfl
  | cons x l ih =>
    cases h with
    | cons h t =>
      cases h
      rw [ih t]
      rfl
theorem CellY.of {p F : Addr} {H : Hp} {v : V} {o : Option Pr} (h : Tg p H v (cellT o)) (nF : H F = none) : CellY p F H v o := by
  cases o with
  | none =>
    cases h
    rfl
  | some q =>
    cases h with
    | @tup t vs ds e tl =>
      cases tl with
      | cons h1 tl =>
        cases tl with
        | cons h2 tl =>
          cases tl
          cases h1 with
          | @lst a va da na ea ta =>
            cases h2 with
            | @lst b vb db nb eb tb =>
              rw [tgl_ints ta] at ea
              rw [tgl_ints tb] at eb
              exact ⟨t, a, b, rfl, e, ea, eb, ⟨na, ne_of_none ea nF⟩, nb, ne_of_none eb nF⟩
theorem CellY.tg {p F : Addr} {H : Hp} {v : V} {o : Option Pr} (h : CellY p F H v o) : Tg p H v (cellT o) := by
  cases o with
  | none =>
    rw [show v = .non from h]
    exact .non
  | some q =>
    obtain ⟨t, a, b, rfl, e, ea, eb, na, nb⟩ := h
    exact .tup e (.cons (.lst na.1 ea (TgL.ints _)) (.cons (.lst nb.1 eb (TgL.ints _)) .nil))
/-- all but the pool and one list is as it was -/
structure Kpf (p F : Addr) (H H' : Hp) : Prop where
  k : ∀ b o, H b = some o → b ≠ p → b ≠ F → H' b = some o
  t : K2 H H'
theorem Kpf.refl (p F : Addr) (H : Hp) : Kpf p F H H := ⟨fun _ _ e _ _ => e, fun _ _ h => h⟩
theorem Kpf.trans {p F : Addr} {H H1 H2 : Hp} (a : Kpf p F H H1) (b : Kpf p F H1 H2) : Kpf p F H H2 := ⟨fun c o e n1 n2 => b.k c o (a.k c o e n1 n2) n1 n2, a.t.trans b.t⟩
theorem Kpf.same {p F : Addr} {H H' : Hp} (s : Same H H') : Kpf p F H H' := ⟨fun c o e _ _ => s c o e, K2.same s⟩
theorem Kpf.kept {p F : Addr} {H H' : Hp} (k : Kept p H H') (hp : PoolAt H p) : Kpf p F H H' := ⟨fun c o e n1 _ => k c o e n1, K2.of k hp⟩
theorem Kpf.upd {p F : Addr} {H : Hp} {vs : List V} {u : HO} (e : H F = some (.lst vs)) : Kpf p F H (L2.upd H F u) := ⟨fun c o ec _ n2 => by rw [upd_ne n2]; exact ec, K2.lst e⟩
theorem CellY.keep {p F : Addr} {H H' : Hp} {v : V} {o : Option Pr} (h : CellY p F H v o) (k : Kpf p F H H') : CellY p F H' v o := by
  cases o with
  | none => exact h
  | some q =>
    obtain ⟨t, a, b, rfl, e, ea, eb, na, nb⟩ := h
    exact ⟨t, a, b, rfl, k.t _ _ e, k.k _ _ ea na.1 na.2, k.k _ _ eb nb.1 nb.2, na, nb⟩
def CellsY (p F : Addr) (H : Hp) (vs : List V) (X : Tb) : Prop := vs.length = X.length ∧ ∀ (i : Nat) (v : V) (o : Option Pr), vs[i]? = some v → X[i]? = some o → CellY p F H v o
theorem CellsY.keep {p F : Addr} {H H' : Hp} {vs : List V} {X : Tb} (h : CellsY p F H vs X) (k : Kpf p F H H') : CellsY p F H' vs X := ⟨h.1, fun i v o e1 e2 => (h.2 i v o e1 e2).keep k⟩
theorem CellsY.of {p F : Addr} {H : Hp} {vs : List V} {X : Tb} (h : TgL p H vs (tbT X)) (nF : H F = none) : CellsY p F H vs X := by
  have l := h.len
  unfold tbT at l
  rw [List.length_map] at l
  refine ⟨l, fun i v o e1 e2 => ?_⟩
  obtain ⟨g, eg, tg⟩ := h.get e1
  unfold tbT at eg
  rw [List.getElem?_map, e2] at eg
  injection eg with eg
  subst eg
  exact CellY.of tg nF
theorem CellsY.tg {p F : Addr} {H : Hp} : ∀ {vs : List V} {X : Tb}, CellsY p F H vs X → TgL p H vs (tbT X)
  | [], [], _ => .nil
  | v :: vs, o :: X, h => .cons (h.2 0 v o rfl rfl).tg (CellsY.tg ⟨by simpa using h.1, fun i v o e1 e2 => h.2 (i + 1) v o (by simpa using e1) (by simpa using e2)⟩)
  | [], _ :: _, h => by cases h.1
  | _ :: _, [], h => by cases h.1
theorem CellsY.snoc {p F : Addr} {H : Hp} {vs : List V} {X : Tb} {v : V} {o : Option Pr} (h : CellsY p F H vs X) (k : CellY p F H v o) : CellsY p F H (vs ++ [v]) (X ++ [o]) := by
  refine ⟨by rw [List.length_append, List.length_append, h.1]; rfl, fun i x y e1 e2 => ?_⟩
  by_cases il : i < vs.length
  · rw [List.getElem?_append_left il] at e1
    rw [List.getElem?_append_left (by rw [← h.1]; exact il)] at e2
    exact h.2 i x y e1 e2
  · rw [List.getElem?_append_right (by omega)] at e1
    rw [List.getElem?_append_right (by rw [← h.1]; omega)] at e2
    rw [h.1] at e1
    cases hk : i - X.length with
    | zero =>
      rw [hk] at e1 e2
      injection e1 with e1
      injection e2 with e2
      subst e1
      subst e2
      exact k
    | succ j =>
      rw [hk] at e1
      cases e1
def OkTb (n : Nat) (s : Int) (X : Tb) : Prop := ∀ o ∈ X, ∀ q, o = some q → POk n s q
abbrev rInt1' : List V → Hp → VK → Prop := rInt1
theorem mid_gif {t : TT} {u S : TS} {D : Ends} {σ : L2.St} {H : Hp} {j : Nat} {v : V} (M : L2.St → Hp → Prop) (hR : ∀ σ' H', M σ' H' → S D σ' H') (h : ∀ D2 : Ends, (∀ σ' H', M σ' H' → D2.nx σ' H') → tIfS t u tNext D2 (σ.set j (some v)) H) : gName j v σ H (fun σ2 H2 => tSeq (tIfS t u tNext) S D σ2 H2) := h _ hR
def spWider : Sp := fun vs H Q _ => ∃ (p : Addr) (v : V) (X : Tb) (n : Nat) (s : Int), vs = [.ref p, v, .int s] ∧ PoolAt H p ∧ Tg p H v (.lst (tbT X)) ∧ OkTb n s X ∧ 1 ≤ X.length ∧ X.length ≤ 80 ∧ n ≤ 12 ∧ 0 ≤ s ∧ s ≤ 1000 ∧
  ∀ (v' : V) (H' : Hp) (X' : Tb), Kept p H H' → PoolAt H' p → Tg p H' v' (.lst (tbT X')) → OkTb n s X' → X'.length = X.length → X'[0]? = X[0]? → Q v' H'
theorem sc_law_wider : FnScope ["_law_pool_here", "_law_told", "_law_size", "_law_found", "_law_one", "_law_aboves", "_law_age"] ["_law_pool_here", "_law_told", "_law_size"] (defScope s_law_wider) := ⟨rfl, rfl, rfl, by decide +kernel, rfl, by decide +kernel, by decide +kernel⟩
section
variable {P : Program} {w : World} {K : PySem.W.Frag} {mg : Str → Option Value} {base : Heap}
theorem ok_wider (T : At K mg "_law_wider" s_law_wider ["_law_pool_here", "_law_told", "_law_size"]) (B : Bt mg) (c_take : Cal P w K mg base 1 "_law_take" ["_law_pool_here", "_law_many"] spTake) : Cal P w K mg base 2 "_law_wider" ["_law_pool_here", "_law_told", "_law_size"] spWider := by
  refine cal_of T sc_law_wider (fun vs H Q E h => ?_) (fun f cdv A outer s' H vs Q E hr h => ?_)
  · obtain ⟨p, v, X, n, s, rfl, _⟩ := h
    rfl
  · obtain ⟨p, v, X, n, s, rfl, hp, hv, okX, x1, x80, n12, s0, s1, q⟩ := h
    refine ⟨_, (pss_cons (ps_set (i := 3) sc_law_wider.nd rfl (Or.inl rfl) (pe_lst (pa_cons (pe_ix ix_list (pv 1) pe_int (fun _ _ => rfl)) pa_nil)))
      (pss_cons (ps_for PassesOwn.never rfl (pi_list (pe_slice sl_list (pv 1) (po_some pe_int) po_none)) (pg_name (i := 4) sc_law_wider.nd rfl (Or.inl rfl)) (pss_cons (ps_if (pt_cmpR op_notN (pv 4) pe_non (nomark _)) (pss_cons (ps_setLc (i := 5) (own := [("_law_age", 6)]) (g := (gName 6)) (tt := tYes) (te := (tCB rMin2 (tCons (tVar 2) (tCons (tOp (rI0 fun i j => .int (i + j)) (tVar 6) (tCB rInt1 (tCons (tOp rEq (tCall spTake [] E0 (tCons (tVar 0) (tCons (tC (.int 5)) tNil))) (tC (.int 0))) tNil))) tNil)))) (by rfl) sc_law_wider.nd rfl rfl (sw_true rfl rfl rfl (by decide +kernel)) (pi_list (pe_ix ix_tup (pv 4) pe_int (fun _ _ => rfl))) (blkOk_by (own := [("_law_age", 6)]) (N := ["_law_pool_here", "_law_told", "_law_size", "_law_found", "_law_one", "_law_aboves", "_law_age"]) (sc := defScope s_law_wider) (by decide +kernel)) (fun _ _ _ _ _ => (pg_name (i := 6) sc_law_wider.nd rfl (Or.inl rfl))) (fun _ _ _ _ _ => pts_nil) (fun _ _ _ _ _ => (pe_callB (call_min2 rfl) (by rfl) B.min (by decide +kernel) (pa_cons (pv 2) (pa_cons (pe_op op_add (pv 6) (pe_callTy call_int1 (by rfl) B.int (by decide +kernel) (pa_cons (pe_cmpR op_eq (pe_own c_take hr (by decide) (by rfl) (pa_cons (pv 0) (pa_cons pe_int pa_nil))) pe_int (nomark _)) pa_nil))) pa_nil)))))
      (pss_one (ps_set (i := 4) sc_law_wider.nd rfl (Or.inl rfl) (pe_tupF (pa_cons (pv 5) (pa_cons (pe_lc (own := [("_law_age", 6)]) (g := (gName 6)) (tt := tYes) (te := (tCB rMax2 (tCons (tC (.int 0)) (tCons (tOp (rI0 fun i j => .int (i - j)) (tVar 6) (tCB rInt1 (tCons (tOp rEq (tCall spTake [] E0 (tCons (tVar 0) (tCons (tC (.int 5)) tNil))) (tC (.int 0))) tNil))) tNil)))) (by rfl) sc_law_wider.nd (pi_list (pe_ix ix_tup (pv 4) pe_int (fun _ _ => rfl))) (blkOk_by (own := [("_law_age", 6)]) (N := ["_law_pool_here", "_law_told", "_law_size", "_law_found", "_law_one", "_law_aboves", "_law_age"]) (sc := defScope s_law_wider) (by decide +kernel)) (fun _ _ _ _ _ => (pg_name (i := 6) sc_law_wider.nd rfl (Or.inl rfl))) (fun _ _ _ _ _ => pts_nil) (fun _ _ _ _ _ => (pe_callB (call_max2 rfl) (by rfl) B.max (by decide +kernel) (pa_cons pe_int (pa_cons (pe_op op_sub (pv 6) (pe_callTy call_int1 (by rfl) B.int (by decide +kernel) (pa_cons (pe_cmpR op_eq (pe_own c_take hr (by decide) (by rfl) (pa_cons (pv 0) (pa_cons pe_int pa_nil))) pe_int (nomark _)) pa_nil))) pa_nil))))) pa_nil)))))) pss_nil)
      (pss_one (ps_expr (pe_bm PySem.F.plainAttrs_list PySem.F.slot_list_append PySem.F.type_list_append mt_append (pv 3) (pa_cons (pv 4) pa_nil))))))
      (pss_one (ps_ret (pv 3))))), ?_⟩
    cases hv with
    | @lst a vs ds na ea t =>
      have hl := t.len
      have dl : (tbT X).length = X.length := List.length_map ..
      have x0l : 0 < X.length := x1
      obtain ⟨o0, eo0⟩ : ∃ o0, X[0]? = some o0 := ⟨X[0], List.getElem?_eq_getElem x0l⟩
      have v0l : 0 < vs.length := by omega
      have ev0 : vs[0]? = some vs[0] := List.getElem?_eq_getElem v0l
      refine ⟨_, rfl, a, vs, _, _, rfl, rfl, SqL.of ea, atI_nat (j := 0) ev0, (by show 1 ≤ sizeLine; decide), fun F nF => ?_⟩
      have eFp : F ≠ p := pool_ne hp nF
      have cy := CellsY.of (p := p) t nF
      have u1 : Same H (upd H F (.lst [vs[0]])) := same_upd nF
      refine ⟨_, rfl, 1, rfl, a, vs, rfl, SqL.of (u1 _ _ ea), fun c nc => ?_⟩
      rw [cut_tail]
      have u2 : Same (upd H F (.lst [vs[0]])) (upd (upd H F (.lst [vs[0]])) c (.lst (vs.drop 1))) := same_upd nc
      have eF2 : (upd (upd H F (.lst [vs[0]])) c (.lst (vs.drop 1))) F = some (.lst [vs[0]]) := u2 _ _ upd_same
      have ec2 : (upd (upd H F (.lst [vs[0]])) c (.lst (vs.drop 1))) c = some (.lst (vs.drop 1)) := upd_same
      have ecp : c ≠ p := pool_ne (hp.same u1) nc
      have ecF : c ≠ F := (ne_of_none (H := upd H F (.lst [vs[0]])) upd_same nc).symm
      have hp2 := (hp.same u1).same u2
      have cy2 := cy.keep (Kpf.same (p := p) (F := F) (u1.trans u2))
      have u12 := u1.trans u2
      refine ⟨c, rfl, ⟨_, SqL.of ec2⟩, ?_⟩
      generalize upd (upd H F (.lst [vs[0]])) c (.lst (vs.drop 1)) = H2 at eF2 ec2 hp2 cy2 u12 ⊢
      refine for_list (K := K) (a := c) (xs := vs.drop 1) (fun i σ H3 => ∃ (y4 y5 y6 : Option V) (fv : List V) (X' : Tb), σ = [some (.ref p), some (.ref a), some (.int s), some (.ref F), y4, y5, y6] ∧ H3 F = some (.lst fv) ∧ CellsY p F H3 fv X' ∧ OkTb n s X' ∧ X'.length = i + 1 ∧ X'[0]? = X[0]? ∧ PoolAt H3 p ∧ Kpf p F H2 H3) ?_ ?_ ?_ ?_
      · refine ⟨none, none, none, [vs[0]], [o0], rfl, eF2, ⟨rfl, fun i v o e1 e2 => ?_⟩, fun o ho q e => ?_, rfl, by rw [eo0]; rfl, hp2, Kpf.refl _ _ _⟩
        · cases i with
          | succ i => cases e1
          | zero =>
            injection e1 with e1
            injection e2 with e2
            subst e1
            subst e2
            exact cy2.2 0 _ _ ev0 eo0
        · rw [List.mem_singleton] at ho
          exact okX o0 (List.mem_of_getElem? eo0) q (by rw [← ho, e])
      · rintro i σ H3 _ ⟨_, _, _, _, _, _, _, _, _, _, _, _, k3⟩
        exact SqL.of (k3.k _ _ ec2 ecp ecF)
      · rintro i x σ H3 hx ⟨y4, y5, y6, fv, X', rfl, hF, cy3, ok3, l3, z3, hp3, k3⟩
        rw [List.getElem?_drop] at hx
        have il := (List.getElem?_eq_some_iff.mp hx).1
        obtain ⟨o, eo⟩ : ∃ o, X[1 + i]? = some o := ⟨X[1 + i]'(by omega), List.getElem?_eq_getElem (by omega)⟩
        have cx := (cy2.2 _ _ _ hx eo).keep k3
        have oko := okX o (List.mem_of_getElem? eo)
        refine mid_gif (fun σ' H' => ∃ (v4 : V) (y5 y6 : Option V) (o' : Option Pr), σ' = [some (.ref p), some (.ref a), some (.int s), some (.ref F), some v4, y5, y6] ∧ H' F = some (.lst fv) ∧ CellY p F H' v4 o' ∧ (∀ q, o' = some q → POk n s q) ∧ PoolAt H' p ∧ Kpf p F H3 H') ?_ ?_
        · rintro σ' H4 ⟨v4, y5', y6', o', rfl, hF4, cx4, oko4, hp4, k4⟩
          refine ⟨_, rfl, .inl ⟨rfl, _, SqL.of hF4⟩, _, rfl, F, fv, v4, rfl, rfl, hF4, small1000 (by rw [cy3.1, l3]; omega), ?_⟩
          have ku : Kpf p F H4 (upd H4 F (.lst (fv ++ [v4]))) := Kpf.upd hF4
          refine ⟨_, _, _, fv ++ [v4], X' ++ [o'], rfl, upd_same, ((cy3.keep k4).keep ku).snoc (cx4.keep ku), fun o ho q e => ?_, by rw [List.length_append, l3]; rfl, ?_, hp4.upd eFp.symm, (k3.trans k4).trans ku⟩
          · rcases List.mem_append.mp ho with h | h
            · exact ok3 o h q e
            · rw [List.mem_singleton] at h
              exact oko4 q (by rw [← h, e])
          · rw [List.getElem?_append_left (by omega)]
            exact z3
        · intro D2 hD2
          refine ⟨_, rfl, rfl, _, rfl, ?_⟩
          cases o with
          | none =>
            rw [show x = .non from cx]
            exact iteF (hD2 _ _ ⟨.non, _, _, none, rfl, hF, rfl, (fun q h => by cases h), hp3, Kpf.refl _ _ _⟩)
          | some q0 =>
            obtain ⟨t0, A1, B1, rfl, et, eA, eB, nA, nB⟩ := id cx
            have oq := oko q0 rfl
            refine iteT ⟨_, rfl, t0, _, _, _, rfl, rfl, et.sq, atI_nat (j := 0) rfl, A1, rfl, ⟨_, SqL.of eA⟩, fun D nD => ?_⟩
            have eDp : D ≠ p := pool_ne hp3 nD
            have eDF : D ≠ F := (ne_of_none hF nD).symm
            refine lc_list (K := K) (a := A1) (xs := q0.1.map V.int) (fun i H4 => ∃ acc : List Int, H4 D = some (.lst (acc.map V.int)) ∧ acc.length = i ∧ (∀ x ∈ acc, 0 ≤ x ∧ x ≤ s) ∧ PoolAt H4 p ∧ Kept p H3 H4) ?_ ?_ ?_ ?_
            · exact ⟨[], upd_same, rfl, fun x h => (List.not_mem_nil h).elim, hp3.upd eDp.symm, Kept.same (same_upd nD)⟩
            · rintro i H4 _ ⟨_, _, _, _, _, k4⟩
              exact SqL.of (k4 _ _ eA nA.1)
            · rintro i v H4 hv ⟨acc, hD, la, ra, hp4, k4⟩
              obtain ⟨y, ey, rfl⟩ := map_get_int hv
              have ry := oq.a y (List.mem_of_getElem? ey)
              have il2 : i < 12 := by
                have h1 := (List.getElem?_eq_some_iff.mp ey).1
                have h2 := oq.la
                omega
              refine ⟨rfl, tyes ?_⟩
              refine ⟨_, rfl, _, rfl, _, rfl, p, 5, rfl, hp4, by decide, by decide, fun r o r0 r1 po => ⟨rfl, .inr ⟨_, rfl, _, _, rfl, rfl, _, _, rfl, acc.map V.int, ?_, ?_, ?_⟩⟩⟩
              · rw [upd_ne eDp]
                exact hD
              · rw [List.length_map]
                exact sz1000 (by omega)
              · refine ⟨acc ++ [if y + (if decide (V.int r = V.int 0) = true then 1 else 0) < s then y + (if decide (V.int r = V.int 0) = true then 1 else 0) else s], by rw [upd_same, List.map_append]; rfl, by rw [List.length_append, la]; rfl, fun x hx => ?_, ?_, fun b o' eb nb => ?_⟩
                · rcases List.mem_append.mp hx with h | h
                  · exact ra x h
                  · rw [List.mem_singleton.mp h]
                    split <;> split <;> omega
                · exact ⟨o, by rw [upd_ne eDp.symm, upd_same], po⟩
                · rw [upd_ne (ne_of_none eb nD), upd_ne nb]
                  exact k4 _ _ eb nb
            · rintro H4 ⟨acc, hD, la, ra, hp4, k4⟩
              rw [List.length_map] at la
              have kp4 : Kpf p F H3 H4 := Kpf.kept k4 hp3
              have eA4 := k4 _ _ eA nA.1
              have eB4 := k4 _ _ eB nB.1
              have hF4 := k4 _ _ hF eFp
              have et4 := kp4.t _ _ et
              refine ⟨_, rfl, _, rfl, t0, _, _, _, rfl, rfl, et4.sq, atI_nat (j := 1) rfl, B1, rfl, ⟨_, SqL.of eB4⟩, fun D3 nD3 => ?_⟩
              have eDp3 : D3 ≠ p := pool_ne hp4 nD3
              refine lc_list (K := K) (a := B1) (xs := q0.2.map V.int) (fun i H5 => ∃ acc2 : List Int, H5 D3 = some (.lst (acc2.map V.int)) ∧ acc2.length = i ∧ (∀ x ∈ acc2, 0 ≤ x ∧ x ≤ s) ∧ PoolAt H5 p ∧ Kept p H4 H5) ?_ ?_ ?_ ?_
              · exact ⟨[], upd_same, rfl, fun x h => (List.not_mem_nil h).elim, hp4.upd eDp3.symm, Kept.same (same_upd nD3)⟩
              · rintro i H5 _ ⟨_, _, _, _, _, k5⟩
                exact SqL.of (k5 _ _ eB4 nB.1)
              · rintro i v H5 hv ⟨acc2, hD5, la2, ra2, hp5, k5⟩
                obtain ⟨y, ey, rfl⟩ := map_get_int hv
                have ry := oq.b y (List.mem_of_getElem? ey)
                have il2 : i < 12 := by
                  have h1 := (List.getElem?_eq_some_iff.mp ey).1
                  have h2 := oq.lb
                  omega
                refine ⟨rfl, tyes ?_⟩
                refine ⟨_, rfl, _, rfl, p, 5, rfl, hp5, by decide, by decide, fun r o r0 r1 po => ⟨rfl, .inr ⟨_, rfl, _, _, rfl, rfl, _, _, rfl, acc2.map V.int, ?_, ?_, ?_⟩⟩⟩
                · rw [upd_ne eDp3]
                  exact hD5
                · rw [List.length_map]
                  exact sz1000 (by omega)
                · refine ⟨acc2 ++ [if y - (if decide (V.int r = V.int 0) = true then 1 else 0) > 0 then y - (if decide (V.int r = V.int 0) = true then 1 else 0) else 0], by rw [upd_same, List.map_append]; rfl, by rw [List.length_append, la2]; rfl, fun x hx => ?_, ?_, fun b o' eb nb => ?_⟩
                  · rcases List.mem_append.mp hx with h | h
                    · exact ra2 x h
                    · rw [List.mem_singleton.mp h]
                      split <;> split <;> omega
                  · exact ⟨o, by rw [upd_ne eDp3.symm, upd_same], po⟩
                  · rw [upd_ne (ne_of_none eb nD3), upd_ne nb]
                    exact k5 _ _ eb nb
              · rintro H5 ⟨acc2, hD5, la2, ra2, hp5, k5⟩
                rw [List.length_map] at la2
                refine ⟨(by show 2 ≤ sizeLine; decide), fun t5 H6 s6 _ pt => ?_⟩
                have hD6 := s6 _ _ (k5 _ _ hD eDp)
                have eDF3 : D3 ≠ F := (ne_of_none hF4 nD3).symm
                refine hD2 _ _ ⟨_, _, _, some (acc, acc2), rfl, s6 _ _ (k5 _ _ hF4 eFp), ⟨t5, D, D3, rfl, .inl pt, hD6, s6 _ _ hD5, ⟨eDp, eDF⟩, eDp3, eDF3⟩, fun q h => ?_, hp5.same s6, (kp4.trans (Kpf.kept k5 hp4)).trans (Kpf.same s6)⟩
                injection h with h
                subst h
                exact ⟨by rw [la, oq.la], by rw [la2, oq.lb], ra, ra2⟩
      · rintro σ H3 ⟨y4, y5, y6, fv, X', rfl, hF, cy3, ok3, l3, z3, hp3, k3⟩
        rw [List.length_drop] at l3
        refine ⟨_, rfl, q _ H3 X' (fun b o eb nb => ?_) hp3 (.lst eFp hF cy3.tg) ok3 (by omega) z3⟩
        exact k3.k _ _ (u12 _ _ eb) nb (ne_of_none eb nF)
end
end Su
/-! ### EO2: more written things -/
namespace Su
open PySem PySem.Spec PyProof.Rows L2
theorem int_at {p : Addr} {H : Hp} {v : V} {i : Int} (h : Tg p H v (.int i)) : v = .int i := by
  cases h
  rfl
theorem cut_fromN {xs : List V} (k : Nat) : cutV xs (some (k : Int)) none = xs.drop k := by
  have e0 : HT.sIx xs.length 0 (some (k : Int)) = min k xs.length := HT.sIx_nat xs.length 0 k
  have e1 : HT.sIx xs.length xs.length (none : Option Int) = xs.length := rfl
  unfold cutV
  rw [e0, e1]
  rcases Nat.le_total k xs.length with h | h
  · rw [Nat.min_eq_left h, List.take_of_length_le (by rw [List.length_drop]; omega)]
  · rw [Nat.min_eq_right h, Nat.sub_self, List.take_zero, List.drop_eq_nil_of_le h]
section
variable {p : Addr} {H0 : Hp} {σ : L2.St} {K : PySem.W.Frag}
theorem EOk.toE {te tb : TE} {gs : List G} {k : Nat} (h : EOk p H0 σ te (.lst gs)) (hb : EOk p H0 σ tb (.int (k : Nat))) : EOk p H0 σ (tSl (rSlL K) te tNoPart (tPart tb)) (.lst (gs.take k)) :=
  fun H Q hp s q => h H _ hp s fun v H1 hp1 s1 t1 => hb H1 _ hp1 (s.trans s1) fun u H2 hp2 s2 t2 => by
    obtain rfl := int_at t2
    obtain ⟨a, vs, rfl, na, ea, ta⟩ := lst_at (t1.keep (Keeps.same s2))
    refine ⟨_, rfl, a, vs, rfl, SqL.of ea, fun c nc => ?_⟩
    rw [cut_toN]
    exact q _ _ (hp2.same (same_upd nc)) ((s1.trans s2).trans (same_upd nc)) (.lst (pool_ne hp2 nc) upd_same ((ta.take k).keep (Keeps.same (same_upd nc))))
theorem EOk.fromE {te tb : TE} {gs : List G} {k : Nat} (h : EOk p H0 σ te (.lst gs)) (hb : EOk p H0 σ tb (.int (k : Nat))) : EOk p H0 σ (tSl (rSlL K) te (tPart tb) tNoPart) (.lst (gs.drop k)) :=
  fun H Q hp s q => h H _ hp s fun v H1 hp1 s1 t1 => hb H1 _ hp1 (s.trans s1) fun u H2 hp2 s2 t2 => by
    obtain rfl := int_at t2
    obtain ⟨a, vs, rfl, na, ea, ta⟩ := lst_at (t1.keep (Keeps.same s2))
    refine ⟨_, rfl, a, vs, rfl, SqL.of ea, fun c nc => ?_⟩
    rw [cut_fromN]
    exact q _ _ (hp2.same (same_upd nc)) ((s1.trans s2).trans (same_upd nc)) (.lst (pool_ne hp2 nc) upd_same ((ta.drop k).keep (Keeps.same (same_upd nc))))
theorem EOk.ixE {te tb : TE} {gs : List G} {i : Nat} {g : G} (h : EOk p H0 σ te (.lst gs)) (hb : EOk p H0 σ tb (.int (i : Nat))) (e : gs[i]? = some g) : EOk p H0 σ (tOp (rIxL K) te tb) g :=
  fun H Q hp s q => h H _ hp s fun v H1 hp1 s1 t1 => hb H1 _ hp1 (s.trans s1) fun u H2 hp2 s2 t2 => by
    obtain rfl := int_at t2
    obtain ⟨a, vs, rfl, na, ea, ta⟩ := lst_at (t1.keep (Keeps.same s2))
    obtain ⟨v, ev, tv⟩ := ta.at e
    exact ⟨a, vs, _, v, rfl, rfl, SqL.of ea, atI_nat ev, q _ H2 hp2 (s1.trans s2) tv⟩
theorem EOk.add {ta tb : TE} {i j : Int} (ha : EOk p H0 σ ta (.int i)) (hb : EOk p H0 σ tb (.int j)) : EOk p H0 σ (tOp (rI0 fun i j => .int (i + j)) ta tb) (.int (i + j)) :=
  fun H Q hp s q => ha H _ hp s fun v H1 hp1 s1 t1 => hb H1 _ hp1 (s.trans s1) fun u H2 hp2 s2 t2 => by
    obtain rfl := int_at t1
    obtain rfl := int_at t2
    exact ⟨_, _, rfl, rfl, q _ H2 hp2 (s1.trans s2) (.int _)⟩
theorem EOk.sub {ta tb : TE} {i j : Int} (ha : EOk p H0 σ ta (.int i)) (hb : EOk p H0 σ tb (.int j)) : EOk p H0 σ (tOp (rI0 fun i j => .int (i - j)) ta tb) (.int (i - j)) :=
  fun H Q hp s q => ha H _ hp s fun v H1 hp1 s1 t1 => hb H1 _ hp1 (s.trans s1) fun u H2 hp2 s2 t2 => by
    obtain rfl := int_at t1
    obtain rfl := int_at t2
    exact ⟨_, _, rfl, rfl, q _ H2 hp2 (s1.trans s2) (.int _)⟩
theorem TgL.rep {H : Hp} {v : V} {g : G} (h : Tg p H v g) : ∀ k : Nat, TgL p H (List.replicate k [v]).flatten (List.replicate k g)
  | 0 => .nil
  | k + 1 => by
    rw [List.replicate_succ, List.flatten_cons, List.replicate_succ]
    exact .cons h (TgL.rep h k)
theorem EOk.rep {ta tb : TE} {g : G} {k : Nat} (ha : EOk p H0 σ ta (.lst [g])) (hb : EOk p H0 σ tb (.int (k : Nat))) (l : k ≤ 1000) : EOk p H0 σ (tOp rRep ta tb) (.lst (List.replicate k g)) :=
  fun H Q hp s q => ha H _ hp s fun v H1 hp1 s1 t1 => hb H1 _ hp1 (s.trans s1) fun u H2 hp2 s2 t2 => by
    obtain rfl := int_at t2
    obtain ⟨a, vs, rfl, na, ea, ta⟩ := lst_at (t1.keep (Keeps.same s2))
    cases ta with
    | cons h t =>
      cases t
      refine ⟨a, _, _, rfl, rfl, ea, by omega, by omega, ?_, fun c nc => ?_⟩
      · rw [Int.toNat_natCast]
        show 1 * k ≤ sizeLine
        rw [sizeLine_eq]
        omega
      · rw [Int.toNat_natCast]
        exact q _ _ (hp2.same (same_upd nc)) ((s1.trans s2).trans (same_upd nc)) (.lst (pool_ne hp2 nc) upd_same ((TgL.rep h k).keep (Keeps.same (same_upd nc))))
end
end Su
/-! ### ET: things apart from a set of places, and written ones -/
namespace Su
open PySem PySem.Spec PyProof.Rows L2
mutual
/-- the value is such a thing; its lists stand apart from p -/
inductive Ts (B : Addr → Prop) (H : Hp) : V → G → Prop
  | non : Ts B H .non .non
  | bl (b : Bool) : Ts B H (.bl b) (.bl b)
  | int (i : Int) : Ts B H (.int i) (.int i)
  | str (s : Str) : Ts B H (.str s) (.str s)
  | lst {a : Addr} {vs : List V} {ds : List G} (n : ¬ B a) (e : H a = some (.lst vs)) (t : TsL B H vs ds) : Ts B H (.ref a) (.lst ds)
  | tup {a : Addr} {vs : List V} {ds : List G} (e : T2 H a vs) (t : TsL B H vs ds) : Ts B H (.ref a) (.tup ds)
  | dct {a : Addr} (e : H a = some (.dK [])) : Ts B H (.ref a) .dct
inductive TsL (B : Addr → Prop) (H : Hp) : List V → List G → Prop
  | nil : TsL B H [] []
  | cons {v : V} {vs : List V} {d : G} {ds : List G} (h : Ts B H v d) (t : TsL B H vs ds) : TsL B H (v :: vs) (d :: ds)
end
/-- what keeps such things -/
structure KeepsB (B : Addr → Prop) (H H' : Hp) : Prop where
  ls : ∀ a vs, ¬ B a → H a = some (.lst vs) → H' a = some (.lst vs)
  tw : ∀ a vs, T2 H a vs → T2 H' a vs
  dk : ∀ a kvs, H a = some (.dK kvs) → H' a = some (.dK kvs)
theorem KeepsB.same {B : Addr → Prop} {H H' : Hp} (s : Same H H') : KeepsB B H H' := ⟨fun a vs n z => s _ _ z, fun a vs h => h.same s, fun a kvs z => s _ _ z⟩
theorem KeepsB.kept {B : Addr → Prop} {p : Addr} {H H' : Hp} (k : Kept p H H') (hp : PoolAt H p) (hB : B p) : KeepsB B H H' := by
  refine ⟨fun a vs n z => k _ _ z fun e => n (e ▸ hB), fun a vs h => K2.of k hp _ _ h, fun a kvs z => ?_⟩
  obtain ⟨o, e, g, m, rfl, _⟩ := hp
  exact k _ _ z (ne_of z e (by intro y; cases y))
theorem KeepsB.upd {B : Addr → Prop} {D : Addr} {H : Hp} {vs : List V} {u : HO} (e : H D = some (.lst vs)) (hB : B D) : KeepsB B H (L2.upd H D u) := by
  refine ⟨fun a vs n z => by rw [upd_ne (fun y => n (by rw [y]; exact hB))]; exact z, fun a vs h => K2.lst e _ _ h, fun a kvs z => ?_⟩
  rw [upd_ne fun y => by subst y; rw [e] at z; cases z]
  exact z
/-- the places of the set are taken -/
def Occ (B : Addr → Prop) (H : Hp) : Prop := ∀ a, B a → H a ≠ none
theorem Occ.same {B : Addr → Prop} {H H' : Hp} (h : Occ B H) (s : Same H H') : Occ B H' := fun a ha z => by
  cases e : H a with
  | none => exact h a ha e
  | some o =>
    rw [s _ _ e] at z
    cases z
theorem Occ.upd {B : Addr → Prop} {H : Hp} (h : Occ B H) (a : Addr) (o : HO) : Occ B (L2.upd H a o) := fun b hb z => by
  by_cases e : b = a
  · subst e
    rw [upd_same] at z
    cases z
  · rw [upd_ne e] at z
    exact h b hb z
theorem occ_ne {B : Addr → Prop} {H : Hp} {a : Addr} (h : Occ B H) (n : H a = none) : ¬ B a := fun ha => h a ha n
mutual
theorem Ts.keep {B : Addr → Prop} {H H' : Hp} (k : KeepsB B H H') : ∀ {v : V} {g : G}, Ts B H v g → Ts B H' v g
  | _, _, .non => .non
  | _, _, .bl b => .bl b
  | _, _, .int i => .int i
  | _, _, .str s => .str s
  | _, _, .lst n e t => .lst n (k.ls _ _ n e) (TsL.keep k t)
  | _, _, .tup e t => .tup (k.tw _ _ e) (TsL.keep k t)
  | _, _, .dct e => .dct (k.dk _ _ e)
theorem TsL.keep {B : Addr → Prop} {H H' : Hp} (k : KeepsB B H H') : ∀ {vs : List V} {gs : List G}, TsL B H vs gs → TsL B H' vs gs
  | _, _, .nil => .nil
  | _, _, .cons h t => .cons (Ts.keep k h) (TsL.keep k t)
end
theorem TsL.len {B : Addr → Prop} {H : Hp} : ∀ {vs : List V} {gs : List G}, TsL B H vs gs → vs.length = gs.length
  | _, _, .nil => rfl
  | _, _, .cons _ t => by
    rw [List.length_cons, List.length_cons, TsL.len t]
theorem TsL.get {B : Addr → Prop} {H : Hp} : ∀ {vs : List V} {gs : List G}, TsL B H vs gs → ∀ {i : Nat} {v : V}, vs[i]? = some v → ∃ g, gs[i]? = some g ∧ Ts B H v g
  | _, _, .nil, i, v, e => by simp at e
  | _, _, .cons h t, 0, v, e => by
    obtain rfl := (by simpa using e : _ = v)
    exact ⟨_, rfl, h⟩
  | _, _, .cons h t, i + 1, v, e => TsL.get t (i := i) (by simpa using e)
theorem TsL.ints {B : Addr → Prop} {H : Hp} : ∀ ns : List Int, TsL B H (ns.map V.int) (ns.map G.int)
  | [] => .nil
  | n :: ns => .cons (.int n) (TsL.ints ns)
theorem TsL.app {B : Addr → Prop} {H : Hp} : ∀ {vs ws : List V} {gs hs : List G}, TsL B H vs gs → TsL B H ws hs → TsL B H (vs ++ ws) (gs ++ hs)
  | _, _, _, _, .nil, h => h
  | _, _, _, _, .cons x t, h => .cons x (TsL.app t h)
mutual
theorem Ts.tg {B : Addr → Prop} {p : Addr} (hB : B p) {H : Hp} : ∀ {v : V} {g : G}, Ts B H v g → Tg p H v g
  | _, _, .non => .non
  | _, _, .bl b => .bl b
  | _, _, .int i => .int i
  | _, _, .str s => .str s
  | _, _, .lst n e t => .lst (fun z => n (z ▸ hB)) e (TsL.tg hB t)
  | _, _, .tup e t => .tup e (TsL.tg hB t)
  | _, _, .dct e => .dct e
theorem TsL.tg {B : Addr → Prop} {p : Addr} (hB : B p) {H : Hp} : ∀ {vs : List V} {gs : List G}, TsL B H vs gs → TgL p H vs gs
  | _, _, .nil => .nil
  | _, _, .cons h t => .cons (Ts.tg hB h) (TsL.tg hB t)
end
mutual
/-- apart from the pool, and from all that was free -/
theorem Tg.ts {p : Addr} {H : Hp} {B : Addr → Prop} (hB : ∀ a, B a → a = p ∨ H a = none) : ∀ {v : V} {g : G}, Tg p H v g → Ts B H v g
  | _, _, .non => .non
  | _, _, .bl b => .bl b
  | _, _, .int i => .int i
  | _, _, .str s => .str s
  | _, _, .lst n e t => .lst (fun z => by
      rcases hB _ z with y | y
      · exact n y
      · rw [e] at y
        cases y) e (TgL.ts hB t)
  | _, _, .tup e t => .tup e (TgL.ts hB t)
  | _, _, .dct e => .dct e
theorem TgL.ts {p : Addr} {H : Hp} {B : Addr → Prop} (hB : ∀ a, B a → a = p ∨ H a = none) : ∀ {vs : List V} {gs : List G}, TgL p H vs gs → TsL B H vs gs
  | _, _, .nil => .nil
  | _, _, .cons h t => .cons (Tg.ts hB h) (TgL.ts hB t)
end
theorem int_atS {B : Addr → Prop} {H : Hp} {v : V} {i : Int} (h : Ts B H v (.int i)) : v = .int i := by
  cases h
  rfl
/-- whatever else was made since H0, te gives the thing g -/
def EQk (B : Addr → Prop) (H0 : Hp) (σ : L2.St) (te : TE) (g : G) : Prop := ∀ (H : Hp) (Q : VK), Occ B H → Same H0 H → (∀ v H', Occ B H' → Same H H' → Ts B H' v g → Q v H') → te σ H Q
def EsQ (B : Addr → Prop) (H0 : Hp) (σ : L2.St) (ta : TA) (gs : List G) : Prop := ∀ (H : Hp) (Q : List V → Hp → Prop), Occ B H → Same H0 H → (∀ vs H', Occ B H' → Same H H' → TsL B H' vs gs → Q vs H') → ta σ H Q
theorem TsL.drop {B : Addr → Prop} {H : Hp} : ∀ (n : Nat) {vs : List V} {gs : List G}, TsL B H vs gs → TsL B H (vs.drop n) (gs.drop n)
  | 0, _, _, h => h
  | _ + 1, _, _, .nil => .nil
  | n + 1, _, _, .cons _ t => t.drop n
theorem TsL.take {B : Addr → Prop} {H : Hp} : ∀ (n : Nat) {vs : List V} {gs : List G}, TsL B H vs gs → TsL B H (vs.take n) (gs.take n)
  | 0, _, _, _ => .nil
  | _ + 1, _, _, .nil => .nil
  | n + 1, _, _, .cons h t => .cons h (t.take n)
theorem TsL.rev {B : Addr → Prop} {H : Hp} : ∀ {vs : List V} {gs : List G}, TsL B H vs gs → TsL B H vs.reverse gs.reverse
  | _, _, .nil => .nil
  | _, _, .cons h t => by
    rw [List.reverse_cons, List.reverse_cons]
    exact t.rev.app (.cons h .nil)
theorem TsL.at {B : Addr → Prop} {H : Hp} : ∀ {vs : List V} {gs : List G}, TsL B H vs gs → ∀ {i : Nat} {g : G}, gs[i]? = some g → ∃ v, vs[i]? = some v ∧ Ts B H v g
  | _, _, .nil, i, g, e => by simp at e
  | _, _, .cons h t, 0, g, e => by
    obtain rfl := (by simpa using e : _ = g)
    exact ⟨_, rfl, h⟩
  | _, _, .cons h t, i + 1, g, e => t.at (i := i) (by simpa using e)
section
variable {B : Addr → Prop} {H0 : Hp} {σ : L2.St} {K : PySem.W.Frag}
theorem EsQ.nil : EsQ B H0 σ tNil [] := fun H Q hp s q => q [] H hp (Same.refl H) .nil
theorem EsQ.cons {te : TE} {ta : TA} {g : G} {gs : List G} (h : EQk B H0 σ te g) (t : EsQ B H0 σ ta gs) : EsQ B H0 σ (tCons te ta) (g :: gs) :=
  fun H Q hp s q => h H _ hp s fun v H1 hp1 s1 tg => t H1 _ hp1 (s.trans s1) fun vs H2 hp2 s2 tgs => q (v :: vs) H2 hp2 (s1.trans s2) (.cons (tg.keep (KeepsB.same s2)) tgs)
theorem EQk.const {v : V} {g : G} (h : ∀ H, Ts B H v g) : EQk B H0 σ (tC v) g := fun H Q hp s q => q v H hp (Same.refl H) (h H)
theorem EQk.int (i : Int) : EQk B H0 σ (tC (.int i)) (.int i) := EQk.const fun _ => .int i
theorem EQk.bl (b : Bool) : EQk B H0 σ (tC (.bl b)) (.bl b) := EQk.const fun _ => .bl b
theorem EQk.str (x : Str) : EQk B H0 σ (tC (.str x)) (.str x) := EQk.const fun _ => .str x
theorem EQk.non : EQk B H0 σ (tC .non) .non := EQk.const fun _ => .non
theorem EQk.neg (i : Int) : EQk B H0 σ (tUn (rU fun i => .int (-i)) (tC (.int i))) (.int (-i)) := fun H Q hp s q => ⟨i, rfl, q _ H hp (Same.refl H) (.int _)⟩
theorem EQk.var {i : Nat} {v : V} {g : G} (e : σ[i]? = some (some v)) (h : Ts B H0 v g) : EQk B H0 σ (tVar i) g := fun H Q hp s q => ⟨v, e, q v H hp (Same.refl H) (h.keep (KeepsB.same s))⟩
theorem EQk.tup {ta : TA} {gs : List G} (h : EsQ B H0 σ ta gs) (l : gs.length ≤ 1000) : EQk B H0 σ (tTupF ta) (.tup gs) :=
  fun H Q hp s q => h H _ hp s fun vs H1 hp1 s1 t => ⟨by rw [t.len]; exact Nat.le_trans l (by decide), fun v H2 s2 nv pv => q _ H2 (hp1.same s2) (s1.trans s2) (.tup (.inl pv) (t.keep (KeepsB.same s2)))⟩
theorem EQk.lst {ta : TA} {gs : List G} (h : EsQ B H0 σ ta gs) (l : gs.length ≤ 1000) : EQk B H0 σ (tLst ta) (.lst gs) :=
  fun H Q hp s q => h H _ hp s fun vs H1 hp1 s1 t => ⟨by rw [t.len]; exact Nat.le_trans l (by decide), fun a na => q _ _ (hp1.same (same_upd na)) (s1.trans (same_upd na)) (.lst (occ_ne hp1 na) upd_same (t.keep (KeepsB.same (same_upd na))))⟩
theorem EQk.dct : EQk B H0 σ tDNewK .dct := fun H Q hp s q a na => q _ _ (hp.same (same_upd na)) (same_upd na) (.dct upd_same)
theorem lst_atS {H : Hp} {v : V} {gs : List G} (h : Ts B H v (.lst gs)) : ∃ a vs, v = .ref a ∧ ¬ B a ∧ H a = some (.lst vs) ∧ TsL B H vs gs := by
  cases h with
  | lst n e t => exact ⟨_, _, rfl, n, e, t⟩
theorem tupG_atS {H : Hp} {v : V} {gs : List G} (h : Ts B H v (.tup gs)) : ∃ a vs, v = .ref a ∧ T2 H a vs ∧ TsL B H vs gs := by
  cases h with
  | tup e t => exact ⟨_, _, rfl, e, t⟩
theorem EQk.cat {ta tb : TE} {gs hs : List G} (ha : EQk B H0 σ ta (.lst gs)) (hb : EQk B H0 σ tb (.lst hs)) (l : gs.length + hs.length ≤ 1000) : EQk B H0 σ (tOp rCat ta tb) (.lst (gs ++ hs)) :=
  fun H Q hp s q => ha H _ hp s fun v H1 hp1 s1 t1 => hb H1 _ hp1 (s.trans s1) fun u H2 hp2 s2 t2 => by
    obtain ⟨a, vs, rfl, na, ea, ta⟩ := lst_atS (t1.keep (KeepsB.same s2))
    obtain ⟨b, us, rfl, nb, eb, tb⟩ := lst_atS t2
    refine ⟨a, b, vs, us, rfl, rfl, ea, eb, ?_, fun c nc => ?_⟩
    · rw [ta.len, tb.len]
      exact Nat.le_trans l (by decide)
    · exact q _ _ (hp2.same (same_upd nc)) ((s1.trans s2).trans (same_upd nc)) (.lst (occ_ne hp2 nc) upd_same ((ta.app tb).keep (KeepsB.same (same_upd nc))))
/-- the same, with the list's own place told -/
theorem EQk.catN {ta tb : TE} {gs hs : List G} (ha : EQk B H0 σ ta (.lst gs)) (hb : EQk B H0 σ tb (.lst hs)) (l : gs.length + hs.length ≤ 1000) {H : Hp} {Q : VK} (hp : Occ B H) (s : Same H0 H)
    (q : ∀ c vs H2, Occ B H2 → Same H H2 → H2 c = none → ¬ B c → TsL B H2 vs (gs ++ hs) → Q (.ref c) (upd H2 c (.lst vs))) : tOp rCat ta tb σ H Q :=
  ha H _ hp s fun v H1 hp1 s1 t1 => hb H1 _ hp1 (s.trans s1) fun u H2 hp2 s2 t2 => by
    obtain ⟨a, vs, rfl, na, ea, ta⟩ := lst_atS (t1.keep (KeepsB.same s2))
    obtain ⟨b, us, rfl, nb, eb, tb⟩ := lst_atS t2
    refine ⟨a, b, vs, us, rfl, rfl, ea, eb, ?_, fun c nc => ?_⟩
    · rw [ta.len, tb.len]
      exact Nat.le_trans l (by decide)
    · exact q c _ H2 hp2 (s1.trans s2) nc (occ_ne hp2 nc) (ta.app tb)
theorem EQk.from1 {te : TE} {gs : List G} (h : EQk B H0 σ te (.lst gs)) : EQk B H0 σ (tSl (rSlL K) te (tPart (tC (.int 1))) tNoPart) (.lst (gs.drop 1)) :=
  fun H Q hp s q => h H _ hp s fun v H1 hp1 s1 t1 => by
    obtain ⟨a, vs, rfl, na, ea, ta⟩ := lst_atS t1
    refine ⟨1, rfl, a, vs, rfl, SqL.of ea, fun c nc => ?_⟩
    rw [cut_tail]
    exact q _ _ (hp1.same (same_upd nc)) (s1.trans (same_upd nc)) (.lst (occ_ne hp1 nc) upd_same ((ta.drop 1).keep (KeepsB.same (same_upd nc))))
theorem EQk.to1 {te : TE} {gs : List G} (h : EQk B H0 σ te (.lst gs)) : EQk B H0 σ (tSl (rSlL K) te tNoPart (tPart (tC (.int 1)))) (.lst (gs.take 1)) :=
  fun H Q hp s q => h H _ hp s fun v H1 hp1 s1 t1 => by
    obtain ⟨a, vs, rfl, na, ea, ta⟩ := lst_atS t1
    refine ⟨1, rfl, a, vs, rfl, SqL.of ea, fun c nc => ?_⟩
    rw [show cutV vs none (some (1 : Int)) = vs.take 1 from cut_toN 1]
    exact q _ _ (hp1.same (same_upd nc)) (s1.trans (same_upd nc)) (.lst (occ_ne hp1 nc) upd_same ((ta.take 1).keep (KeepsB.same (same_upd nc))))
theorem EQk.toEnd {te : TE} {gs : List G} (h : EQk B H0 σ te (.lst gs)) : EQk B H0 σ (tSl (rSlL K) te tNoPart (tPart (tUn (rU fun i => .int (-i)) (tC (.int 1))))) (.lst (gs.take (gs.length - 1))) :=
  fun H Q hp s q => h H _ hp s fun v H1 hp1 s1 t1 => by
    obtain ⟨a, vs, rfl, na, ea, ta⟩ := lst_atS t1
    refine ⟨1, rfl, -1, rfl, a, vs, rfl, SqL.of ea, fun c nc => ?_⟩
    have e0 : HT.sIx vs.length 0 (none : Option Int) = 0 := rfl
    have e1 : HT.sIx vs.length vs.length (some (-1 : Int)) = gs.length - 1 := by
      show (if (-1 : Int) < 0 then ((-1 : Int) + (vs.length : Int)).toNat else min (-1 : Int).toNat vs.length) = _
      rw [if_pos (by decide), ta.len]
      omega
    have e2 : cutV vs none (some (-1 : Int)) = vs.take (gs.length - 1) := by
      unfold cutV
      rw [e0, e1, List.drop_zero, Nat.sub_zero]
    rw [e2]
    exact q _ _ (hp1.same (same_upd nc)) (s1.trans (same_upd nc)) (.lst (occ_ne hp1 nc) upd_same ((ta.take _).keep (KeepsB.same (same_upd nc))))
theorem EQk.rev {te : TE} {gs : List G} (h : EQk B H0 σ te (.lst gs)) : EQk B H0 σ (tRevL K te) (.lst gs.reverse) :=
  fun H Q hp s q => h H _ hp s fun v H1 hp1 s1 t1 => by
    obtain ⟨a, vs, rfl, na, ea, ta⟩ := lst_atS t1
    exact ⟨a, vs, rfl, SqL.of ea, fun c nc => q _ _ (hp1.same (same_upd nc)) (s1.trans (same_upd nc)) (.lst (occ_ne hp1 nc) upd_same (ta.rev.keep (KeepsB.same (same_upd nc))))⟩
theorem EQk.tupOf {te : TE} {gs : List G} (h : EQk B H0 σ te (.lst gs)) : EQk B H0 σ (tCB (rTupL K) (tCons te tNil)) (.tup gs) :=
  fun H Q hp s q => h H _ hp s fun v H1 hp1 s1 t1 => by
    obtain ⟨a, vs, rfl, na, ea, ta⟩ := lst_atS t1
    exact ⟨a, vs, rfl, SqL.of ea, fun c H2 s2 nc pc => q _ H2 (hp1.same s2) (s1.trans s2) (.tup (.inl pc) (ta.keep (KeepsB.same s2)))⟩
theorem EQk.ixL {te : TE} {gs : List G} {i : Nat} {g : G} (h : EQk B H0 σ te (.lst gs)) (e : gs[i]? = some g) : EQk B H0 σ (tOp (rIxL K) te (tC (.int (i : Nat)))) g :=
  fun H Q hp s q => h H _ hp s fun v H1 hp1 s1 t1 => by
    obtain ⟨a, vs, rfl, na, ea, ta⟩ := lst_atS t1
    obtain ⟨v, ev, tv⟩ := ta.at e
    exact ⟨a, vs, _, v, rfl, rfl, SqL.of ea, atI_nat ev, q _ H1 hp1 s1 tv⟩
theorem EQk.ixT {te : TE} {gs : List G} {i : Nat} {g : G} (h : EQk B H0 σ te (.tup gs)) (e : gs[i]? = some g) : EQk B H0 σ (tOp (rIxT K) te (tC (.int (i : Nat)))) g :=
  fun H Q hp s q => h H _ hp s fun v H1 hp1 s1 t1 => by
    obtain ⟨a, vs, rfl, ea, ta⟩ := tupG_atS t1
    obtain ⟨v, ev, tv⟩ := ta.at e
    exact ⟨a, vs, _, v, rfl, rfl, ea.sq, atI_nat ev, q _ H1 hp1 s1 tv⟩
end
section
variable {B : Addr → Prop} {H0 : Hp} {σ : L2.St} {K : PySem.W.Frag}
theorem EQk.toE {te tb : TE} {gs : List G} {k : Nat} (h : EQk B H0 σ te (.lst gs)) (hb : EQk B H0 σ tb (.int (k : Nat))) : EQk B H0 σ (tSl (rSlL K) te tNoPart (tPart tb)) (.lst (gs.take k)) :=
  fun H Q hp s q => h H _ hp s fun v H1 hp1 s1 t1 => hb H1 _ hp1 (s.trans s1) fun u H2 hp2 s2 t2 => by
    obtain rfl := int_atS t2
    obtain ⟨a, vs, rfl, na, ea, ta⟩ := lst_atS (t1.keep (KeepsB.same s2))
    refine ⟨_, rfl, a, vs, rfl, SqL.of ea, fun c nc => ?_⟩
    rw [cut_toN]
    exact q _ _ (hp2.same (same_upd nc)) ((s1.trans s2).trans (same_upd nc)) (.lst (occ_ne hp2 nc) upd_same ((ta.take k).keep (KeepsB.same (same_upd nc))))
theorem EQk.fromE {te tb : TE} {gs : List G} {k : Nat} (h : EQk B H0 σ te (.lst gs)) (hb : EQk B H0 σ tb (.int (k : Nat))) : EQk B H0 σ (tSl (rSlL K) te (tPart tb) tNoPart) (.lst (gs.drop k)) :=
  fun H Q hp s q => h H _ hp s fun v H1 hp1 s1 t1 => hb H1 _ hp1 (s.trans s1) fun u H2 hp2 s2 t2 => by
    obtain rfl := int_atS t2
    obtain ⟨a, vs, rfl, na, ea, ta⟩ := lst_atS (t1.keep (KeepsB.same s2))
    refine ⟨_, rfl, a, vs, rfl, SqL.of ea, fun c nc => ?_⟩
    rw [cut_fromN]
    exact q _ _ (hp2.same (same_upd nc)) ((s1.trans s2).trans (same_upd nc)) (.lst (occ_ne hp2 nc) upd_same ((ta.drop k).keep (KeepsB.same (same_upd nc))))
theorem EQk.ixE {te tb : TE} {gs : List G} {i : Nat} {g : G} (h : EQk B H0 σ te (.lst gs)) (hb : EQk B H0 σ tb (.int (i : Nat))) (e : gs[i]? = some g) : EQk B H0 σ (tOp (rIxL K) te tb) g :=
  fun H Q hp s q => h H _ hp s fun v H1 hp1 s1 t1 => hb H1 _ hp1 (s.trans s1) fun u H2 hp2 s2 t2 => by
    obtain rfl := int_atS t2
    obtain ⟨a, vs, rfl, na, ea, ta⟩ := lst_atS (t1.keep (KeepsB.same s2))
    obtain ⟨v, ev, tv⟩ := ta.at e
    exact ⟨a, vs, _, v, rfl, rfl, SqL.of ea, atI_nat ev, q _ H2 hp2 (s1.trans s2) tv⟩
theorem EQk.add {ta tb : TE} {i j : Int} (ha : EQk B H0 σ ta (.int i)) (hb : EQk B H0 σ tb (.int j)) : EQk B H0 σ (tOp (rI0 fun i j => .int (i + j)) ta tb) (.int (i + j)) :=
  fun H Q hp s q => ha H _ hp s fun v H1 hp1 s1 t1 => hb H1 _ hp1 (s.trans s1) fun u H2 hp2 s2 t2 => by
    obtain rfl := int_atS t1
    obtain rfl := int_atS t2
    exact ⟨_, _, rfl, rfl, q _ H2 hp2 (s1.trans s2) (.int _)⟩
theorem EQk.sub {ta tb : TE} {i j : Int} (ha : EQk B H0 σ ta (.int i)) (hb : EQk B H0 σ tb (.int j)) : EQk B H0 σ (tOp (rI0 fun i j => .int (i - j)) ta tb) (.int (i - j)) :=
  fun H Q hp s q => ha H _ hp s fun v H1 hp1 s1 t1 => hb H1 _ hp1 (s.trans s1) fun u H2 hp2 s2 t2 => by
    obtain rfl := int_atS t1
    obtain rfl := int_atS t2
    exact ⟨_, _, rfl, rfl, q _ H2 hp2 (s1.trans s2) (.int _)⟩
theorem TsL.rep {H : Hp} {v : V} {g : G} (h : Ts B H v g) : ∀ k : Nat, TsL B H (List.replicate k [v]).flatten (List.replicate k g)
  | 0 => .nil
  | k + 1 => by
    rw [List.replicate_succ, List.flatten_cons, List.replicate_succ]
    exact .cons h (TsL.rep h k)
theorem EQk.rep {ta tb : TE} {g : G} {k : Nat} (ha : EQk B H0 σ ta (.lst [g])) (hb : EQk B H0 σ tb (.int (k : Nat))) (l : k ≤ 1000) : EQk B H0 σ (tOp rRep ta tb) (.lst (List.replicate k g)) :=
  fun H Q hp s q => ha H _ hp s fun v H1 hp1 s1 t1 => hb H1 _ hp1 (s.trans s1) fun u H2 hp2 s2 t2 => by
    obtain rfl := int_atS t2
    obtain ⟨a, vs, rfl, na, ea, ta⟩ := lst_atS (t1.keep (KeepsB.same s2))
    cases ta with
    | cons h t =>
      cases t
      refine ⟨a, _, _, rfl, rfl, ea, by omega, by omega, ?_, fun c nc => ?_⟩
      · rw [Int.toNat_natCast]
        show 1 * k ≤ sizeLine
        rw [sizeLine_eq]
        omega
      · rw [Int.toNat_natCast]
        exact q _ _ (hp2.same (same_upd nc)) ((s1.trans s2).trans (same_upd nc)) (.lst (occ_ne hp2 nc) upd_same ((TsL.rep h k).keep (KeepsB.same (same_upd nc))))
end
end Su
/-! ### LF: rows and tables bent -/
namespace Su
open PySem PySem.Spec PyProof.Rows L2
/-- a small thing that holds none -/
def Sm0 (g : G) : Prop := Fz g 0 40 ∧ OkE g
def Sm1 (g : G) : Prop := Fz g 1 900 ∧ OkE g ∧ FewL g
theorem sm0_int {i : Int} (h1 : -1000000 ≤ i) (h2 : i ≤ 1000000) : Sm0 (.int i) := ⟨Fz.int h1 h2, OkE.int i⟩
theorem OkE.bl (b : Bool) : OkE (.bl b) := ⟨by simp [okD], by first | rfl | simp [toD, PyData.canLay0], by simp [toD, PyData.depth]⟩
theorem OkE.non : OkE .non := ⟨by simp [okD], by first | rfl | simp [toD, PyData.canLay0], by simp [toD, PyData.depth]⟩
theorem OkE.str0 : OkE (.str "0") := ⟨by simp [okD], by decide +kernel, by simp [toD, PyData.depth]⟩
theorem sm0_bl (b : Bool) : Sm0 (.bl b) := ⟨(Fz.bool b).up (Nat.le_refl _) (by decide), OkE.bl b⟩
theorem sm0_non : Sm0 .non := ⟨Fz.none.up (Nat.le_refl _) (by decide), OkE.non⟩
theorem sm0_zero : Sm0 (.str "0") := ⟨⟨by decide +kernel, by decide +kernel, by decide +kernel, by decide +kernel⟩, OkE.str0⟩
theorem Sm0.one {g : G} (h : Sm0 g) (n : ∀ m, g ≠ .lst m) : Sm1 g := ⟨h.1.up (by decide) (by decide), h.2, fun m e => absurd e (n m)⟩
theorem sm1_lst {l : List G} (h : ∀ x ∈ l, Sm0 x) (hl : l.length ≤ 20) : Sm1 (.lst l) := by
  refine ⟨(Fz.lst (FzL.all (n := 0) (m := 40) fun x hx => (h x hx).1)).up (by decide) (by omega), OkE.lstOf fun x hx => ⟨(h x hx).2, Nat.le_trans (h x hx).1.dp (by decide)⟩, fun m e => ?_⟩
  injection e with e
  rw [← e]
  omega
theorem sm1_tup {l : List G} (h : ∀ x ∈ l, Sm0 x) (hl : l.length ≤ 20) : Sm1 (.tup l) :=
  ⟨(Fz.tup (FzL.all (n := 0) (m := 40) fun x hx => (h x hx).1)).up (by decide) (by omega), OkE.tupOf fun x hx => ⟨(h x hx).2, Nat.le_trans (h x hx).1.dp (by decide)⟩, fun m e => nomatch e⟩
theorem rowS_tup {l : List G} (h : ∀ x ∈ l, Sm1 x) (hl : l.length ≤ 3) : RowS (.tup l) := by
  refine ⟨(Fz.tup (FzL.all (n := 1) (m := 900) fun x hx => (h x hx).1)).up (by decide) (by omega), OkE.tupOf fun x hx => ⟨(h x hx).2.1, Nat.le_trans (h x hx).1.dp (by decide)⟩, fun m e x hx => ?_⟩
  injection e with e
  subst e
  exact (h x hx).2.2
theorem rowS_lst {l : List G} (h : ∀ x ∈ l, Sm1 x) (hl : l.length ≤ 3) : RowS (.lst l) :=
  ⟨(Fz.lst (FzL.all (n := 1) (m := 900) fun x hx => (h x hx).1)).up (by decide) (by omega), OkE.lstOf fun x hx => ⟨(h x hx).2.1, Nat.le_trans (h x hx).1.dp (by decide)⟩, fun m e => nomatch e⟩
theorem Sm1.row {g : G} (h : Sm1 g) (n : ∀ l, g = .tup l → ∀ x ∈ l, FewL x) : RowS g := ⟨h.1.up (by decide) (by decide), h.2.1, n⟩
theorem sm0_ints {l : List Int} (h : ∀ x ∈ l, 0 ≤ x ∧ x ≤ 1000) : ∀ g ∈ l.map G.int, Sm0 g := fun g hg => by
  obtain ⟨x, hx, rfl⟩ := List.mem_map.mp hg
  have := h x hx
  exact sm0_int (by omega) (by omega)
theorem sm0_rep {g : G} (h : Sm0 g) (k : Nat) : ∀ x ∈ List.replicate k g, Sm0 x := fun x hx => by
  rw [List.eq_of_mem_replicate hx]
  exact h
theorem Occ.kept {S : Addr → Prop} {p : Addr} {H H' : Hp} (h : Occ S H) (k : Kept p H H') (hp : PoolAt H' p) : Occ S H' := fun a ha z => by
  by_cases e : a = p
  · subst e
    obtain ⟨o, eo, _⟩ := hp
    rw [z] at eo
    cases eo
  · cases e2 : H a with
    | none => exact h a ha e2
    | some o =>
      rw [k _ _ e2 e] at z
      cases z
def spBentRow : Sp := fun vs H Q _ => ∃ (p : Addr) (S : Addr → Prop) (v : V) (o : Option Pr) (n : Nat) (s : Int), vs = [.ref p, v, .int s, .int (n : Nat)] ∧ PoolAt H p ∧ S p ∧ Occ S H ∧ Ts S H v (cellT o) ∧ (∀ q, o = some q → POk n s q) ∧ n ≤ 12 ∧ 0 ≤ s ∧ s ≤ 900 ∧
  ∀ (v' : V) (H' : Hp) (g : G), Kept p H H' → PoolAt H' p → Ts S H' v' g → RowS g → Q v' H'
theorem sc_law_bent_row : FnScope ["_law_pool_here", "_law_one", "_law_size", "_law_many", "_law_wide", "_law_aboves", "_law_belows", "_law_at", "_law_odd", "_law_way", "_law_more"] ["_law_pool_here", "_law_one", "_law_size", "_law_many"] (defScope s_law_bent_row) := ⟨rfl, rfl, rfl, by decide +kernel, rfl, by decide +kernel, by decide +kernel⟩
section
variable {P : Program} {w : World} {K : PySem.W.Frag} {mg : Str → Option Value} {base : Heap}
theorem ok_bent_row (T : At K mg "_law_bent_row" s_law_bent_row ["_law_pool_here", "_law_one", "_law_size", "_law_many"]) (B : Bt mg) (c_take : Cal P w K mg base 1 "_law_take" ["_law_pool_here", "_law_many"] spTake) : Cal P w K mg base 2 "_law_bent_row" ["_law_pool_here", "_law_one", "_law_size", "_law_many"] spBentRow := by
  refine cal_of T sc_law_bent_row (fun vs H Q E h => ?_) (fun f cdv A outer s' H vs Q E hr h => ?_)
  · obtain ⟨p, S, v, o, n, s, rfl, _⟩ := h
    rfl
  · obtain ⟨p, S, v, o, n, s, rfl, hp, hSp, oc, hv, oo, n12, s0, s1, q⟩ := h
    refine ⟨_, (pss_cons (ps_if (pt_cmpR op_isN (pv 1) pe_non (nomark _)) (pss_cons (ps_set (i := 4) sc_law_bent_row.nd rfl (Or.inl rfl) (pe_lst (pa_cons (pe_tupF (pa_cons (pe_op op_rep (pe_lst (pa_cons (pv 2) pa_nil)) (pv 3)) (pa_cons (pe_op op_rep (pe_lst (pa_cons pe_int pa_nil)) (pv 3)) pa_nil))) (pa_cons (pe_tupF (pa_cons (pe_op op_rep (pe_lst (pa_cons pe_int pa_nil)) (pv 3)) (pa_cons (pe_op op_rep (pe_lst (pa_cons (pv 2) pa_nil)) (pv 3)) pa_nil))) (pa_cons (pe_tupF (pa_cons (pe_lst pa_nil) (pa_cons (pe_lst pa_nil) pa_nil))) (pa_cons pe_int (pa_cons (pe_tupF pa_nil) (pa_cons (pe_tupF (pa_cons pe_non (pa_cons pe_non pa_nil))) pa_nil))))))))
      (pss_one (ps_ret (pe_ix ix_list (pv 4) (pe_ix ix_list (pe_lst (pa_cons pe_int (pa_cons pe_int (pa_cons pe_int (pa_cons pe_int (pa_cons pe_int (pa_cons pe_int (pa_cons pe_int pa_nil)))))))) (pe_own c_take hr (by decide) (by rfl) (pa_cons (pv 0) (pa_cons pe_int pa_nil))) (fun _ _ => rfl)) (fun _ _ => rfl))))) pss_nil)
      (pss_cons (ps_asg (pv 1) (pg_tup (by rfl) (pgs_cons (pg_name (i := 5) sc_law_bent_row.nd rfl (Or.inl rfl)) (pgs_cons (pg_name (i := 6) sc_law_bent_row.nd rfl (Or.inl rfl)) pgs_nil))))
      (pss_cons (ps_set (i := 7) sc_law_bent_row.nd rfl (Or.inl rfl) (pe_own c_take hr (by decide) (by rfl) (pa_cons (pv 0) (pa_cons (pe_op op_add (pe_callB call_len_seq (by rfl) B.len PySem.boot_len (pa_cons (pv 5) pa_nil)) pe_int) pa_nil))))
      (pss_cons (ps_set (i := 8) sc_law_bent_row.nd rfl (Or.inl rfl) (pe_ix ix_list (pe_lst (pa_cons (pe_op op_add (pv 2) pe_int) (pa_cons (pe_un un_neg pe_int) (pa_cons pe_bl (pa_cons pe_non (pa_cons pe_str (pa_cons (pv 2) (pa_cons pe_int (pa_cons pe_int pa_nil))))))))) (pe_own c_take hr (by decide) (by rfl) (pa_cons (pv 0) (pa_cons pe_int pa_nil))) (fun _ _ => rfl)))
      (pss_cons (ps_set (i := 9) sc_law_bent_row.nd rfl (Or.inl rfl) (pe_own c_take hr (by decide) (by rfl) (pa_cons (pv 0) (pa_cons pe_int pa_nil))))
      (pss_cons (ps_if (pt_cmpR op_lt (pv 9) pe_int (nomark _)) (pss_one (ps_ret (pe_tupF (pa_cons (pe_op op_cat (pe_op op_cat (pe_slice sl_list (pv 5) po_none (po_some (pv 7))) (pe_lst (pa_cons (pv 8) pa_nil))) (pe_slice sl_list (pv 5) (po_some (pe_op op_add (pv 7) pe_int)) po_none)) (pa_cons (pv 6) pa_nil))))) pss_nil)
      (pss_cons (ps_if (pt_cmpR op_lt (pv 9) pe_int (nomark _)) (pss_one (ps_ret (pe_tupF (pa_cons (pv 5) (pa_cons (pe_op op_cat (pe_op op_cat (pe_slice sl_list (pv 6) po_none (po_some (pv 7))) (pe_lst (pa_cons (pv 8) pa_nil))) (pe_slice sl_list (pv 6) (po_some (pe_op op_add (pv 7) pe_int)) po_none)) pa_nil))))) pss_nil)
      (pss_cons (ps_set (i := 10) sc_law_bent_row.nd rfl (Or.inl rfl) (pe_lst (pa_cons (pe_tupF (pa_cons (pv 6) (pa_cons (pv 5) pa_nil))) (pa_cons (pe_lst (pa_cons (pv 5) (pa_cons (pv 6) pa_nil))) (pa_cons (pe_tupF (pa_cons (pv 5) (pa_cons (pv 6) (pa_cons (pe_lst pa_nil) pa_nil)))) (pa_cons (pe_tupF (pa_cons (pe_callTy call_tupleF (by rfl) B.tuple (by decide +kernel) (pa_cons (pv 5) pa_nil)) (pa_cons (pv 6) pa_nil))) pa_nil))))))
      (pss_one (ps_ret (pe_ix ix_list (pe_op op_cat (pv 10) (pe_lst (pa_cons pe_non (pa_cons (pe_tupF (pa_cons (pe_op op_cat (pv 5) (pe_lst (pa_cons pe_int pa_nil))) (pa_cons (pe_op op_cat (pv 6) (pe_lst (pa_cons pe_int pa_nil))) pa_nil))) pa_nil)))) (pe_op op_sub (pv 9) pe_int) (fun _ _ => rfl)))))))))))), ?_⟩
    cases o with
    | none =>
      cases hv
      refine ⟨_, rfl, rfl, _, rfl, iteT ?_⟩
      have vs2 : EQk S H [some (.ref p), some .non, some (.int s), some (.int (n : Nat)), none, none, none, none, none, none, none] (tVar 2) (.int s) := EQk.var rfl (.int s)
      have vn : EQk S H [some (.ref p), some .non, some (.int s), some (.int (n : Nat)), none, none, none, none, none, none, none] (tVar 3) (.int (n : Nat)) := EQk.var rfl (.int _)
      have n1000 : n ≤ 1000 := by omega
      have rs := EQk.rep (EQk.lst (EsQ.cons vs2 EsQ.nil) (Nat.le_of_ble_eq_true rfl)) vn n1000
      have rz := EQk.rep (EQk.lst (EsQ.cons (EQk.int 0) EsQ.nil) (Nat.le_of_ble_eq_true rfl)) vn n1000
      have e := EQk.lst (EsQ.cons (EQk.tup (EsQ.cons rs (EsQ.cons rz EsQ.nil)) (Nat.le_of_ble_eq_true rfl)) (EsQ.cons (EQk.tup (EsQ.cons rz (EsQ.cons rs EsQ.nil)) (Nat.le_of_ble_eq_true rfl)) (EsQ.cons (EQk.tup (EsQ.cons (EQk.lst EsQ.nil (Nat.zero_le _)) (EsQ.cons (EQk.lst EsQ.nil (Nat.zero_le _)) EsQ.nil)) (Nat.le_of_ble_eq_true rfl)) (EsQ.cons (EQk.int 5) (EsQ.cons (EQk.tup EsQ.nil (Nat.zero_le _)) (EsQ.cons (EQk.tup (EsQ.cons EQk.non (EsQ.cons EQk.non EsQ.nil)) (Nat.le_of_ble_eq_true rfl)) EsQ.nil)))))) (Nat.le_of_ble_eq_true rfl)
      dsimp only [tSeq, tAsg]
      refine e H _ oc (Same.refl H) (fun v1 H1 oc1 s1 t1 => ?_)
      have hp1 := hp.same s1
      obtain ⟨Wd, ws, rfl, nW, eW, tW⟩ := lst_atS t1
      refine ⟨_, rfl, (by show 7 ≤ sizeLine; decide), fun c nc => ?_⟩
      have hp2 := hp1.same (same_upd (o := .lst [V.int 0, V.int 0, V.int 1, V.int 2, V.int 3, V.int 4, V.int 5]) nc)
      refine ⟨_, rfl, p, 7, rfl, hp2, by decide, by decide, fun r o r0 r1 po => ?_⟩
      have ecp : c ≠ p := pool_ne hp1 nc
      have k2 : Kept p H1 (upd (upd H1 c (.lst [V.int 0, V.int 0, V.int 1, V.int 2, V.int 3, V.int 4, V.int 5])) p o) := (Kept.same (same_upd nc)).trans (Kept.upd p _ o)
      have hp3 : PoolAt (upd (upd H1 c (.lst [V.int 0, V.int 0, V.int 1, V.int 2, V.int 3, V.int 4, V.int 5])) p o) p := ⟨o, upd_same, po⟩
      have hc3 : (upd (upd H1 c (.lst [V.int 0, V.int 0, V.int 1, V.int 2, V.int 3, V.int 4, V.int 5])) p o) c = some (.lst [V.int 0, V.int 0, V.int 1, V.int 2, V.int 3, V.int 4, V.int 5]) := by rw [upd_ne ecp, upd_same]
      have eW3 := k2 _ _ eW (fun z => nW (z ▸ hSp))
      have tW3 := tW.keep (KeepsB.kept k2 hp1 hSp)
      generalize upd (upd H1 c (.lst [V.int 0, V.int 0, V.int 1, V.int 2, V.int 3, V.int 4, V.int 5])) p o = H3 at k2 hp3 hc3 eW3 tW3 ⊢
      obtain ⟨j, hj, j6⟩ : ∃ j : Nat, atI [V.int 0, V.int 0, V.int 1, V.int 2, V.int 3, V.int 4, V.int 5] r = some (.int (j : Nat)) ∧ j < 6 := by
        obtain h | h | h | h | h | h | h : r = 0 ∨ r = 1 ∨ r = 2 ∨ r = 3 ∨ r = 4 ∨ r = 5 ∨ r = 6 := by omega
        · subst h; exact ⟨0, rfl, by decide⟩
        · subst h; exact ⟨0, rfl, by decide⟩
        · subst h; exact ⟨1, rfl, by decide⟩
        · subst h; exact ⟨2, rfl, by decide⟩
        · subst h; exact ⟨3, rfl, by decide⟩
        · subst h; exact ⟨4, rfl, by decide⟩
        · subst h; exact ⟨5, rfl, by decide⟩
      refine ⟨c, _, _, _, rfl, rfl, SqL.of hc3, hj, ?_⟩
      have ints1 : ∀ x ∈ List.replicate n (G.int s), Sm0 x := sm0_rep (sm0_int (by omega) (by omega)) n
      have ints0 : ∀ x ∈ List.replicate n (G.int 0), Sm0 x := sm0_rep (sm0_int (by decide) (by decide)) n
      have l1 : Sm1 (.lst (List.replicate n (G.int s))) := sm1_lst ints1 (by rw [List.length_replicate]; omega)
      have l0 : Sm1 (.lst (List.replicate n (G.int 0))) := sm1_lst ints0 (by rw [List.length_replicate]; omega)
      have le : Sm1 (.lst []) := sm1_lst (fun x hx => (List.not_mem_nil hx).elim) (by decide)
      have fin : ∀ g v, RowS g → Ts S H3 v g → Q v H3 := fun g v rg tg => q v H3 g ((Kept.same s1).trans k2) hp3 tg rg
      have two : ∀ x y, Sm1 x → Sm1 y → RowS (.tup [x, y]) := fun x y hx hy => rowS_tup (fun z hz => by
        simp only [List.mem_cons, List.not_mem_nil, or_false] at hz
        rcases hz with rfl | rfl
        · exact hx
        · exact hy) (Nat.le_of_ble_eq_true rfl)
      have sn : Sm1 .non := sm0_non.one (fun m h => by cases h)
      obtain ⟨vj, evj, tvj⟩ : ∃ vj, ws[j]? = some vj ∧ ∃ g, RowS g ∧ Ts S H3 vj g := by
        obtain h | h | h | h | h | h : j = 0 ∨ j = 1 ∨ j = 2 ∨ j = 3 ∨ j = 4 ∨ j = 5 := by omega
        · subst h; obtain ⟨x, ex, tx⟩ := tW3.at (i := 0) rfl; exact ⟨x, ex, _, two _ _ l1 l0, tx⟩
        · subst h; obtain ⟨x, ex, tx⟩ := tW3.at (i := 1) rfl; exact ⟨x, ex, _, two _ _ l0 l1, tx⟩
        · subst h; obtain ⟨x, ex, tx⟩ := tW3.at (i := 2) rfl; exact ⟨x, ex, _, two _ _ le le, tx⟩
        · subst h; obtain ⟨x, ex, tx⟩ := tW3.at (i := 3) rfl; exact ⟨x, ex, _, ((sm0_int (i := 5) (by decide) (by decide)).one (fun m h => by cases h)).row (fun l h => by cases h), tx⟩
        · subst h; obtain ⟨x, ex, tx⟩ := tW3.at (i := 4) rfl; exact ⟨x, ex, _, rowS_tup (fun z hz => (List.not_mem_nil hz).elim) (by decide), tx⟩
        · subst h; obtain ⟨x, ex, tx⟩ := tW3.at (i := 5) rfl; exact ⟨x, ex, _, two _ _ sn sn, tx⟩
      obtain ⟨g, rg, tg⟩ := tvj
      exact ⟨Wd, ws, _, vj, rfl, rfl, SqL.of eW3, atI_nat evj, fin g vj rg tg⟩
    | some q0 =>
      have oq := oo q0 rfl
      obtain ⟨a0, vs0, rfl, e0, t0⟩ := tupG_atS hv
      cases t0 with
      | @cons v5 _ _ _ t5 t0 =>
        cases t0 with
        | @cons v6 _ _ _ t6 t0 =>
          cases t0
          obtain ⟨A1, va, rfl, nA, eA, tA⟩ := lst_atS t5
          obtain ⟨B1, vb, rfl, nB, eB, tB⟩ := lst_atS t6
          have la : va.length = n := by rw [tA.len, List.length_map, oq.la]
          refine ⟨_, rfl, rfl, _, rfl, iteF ?_⟩
          refine ⟨_, rfl, a0, _, rfl, e0.sq, rfl, _, _, rfl, _, _, rfl, rfl, ?_⟩
          refine ⟨_, rfl, _, rfl, A1, _, rfl, .inl (SqL.of eA), _, _, rfl, rfl, p, _, rfl, hp, by omega, by omega, fun k1 o1 k10 k11 po1 => ?_⟩
          have hp1 : PoolAt (upd H p o1) p := ⟨o1, upd_same, po1⟩
          have kk1 : Kept p H (upd H p o1) := Kept.upd p H o1
          show tSeq _ _ _ _ (upd H p o1)
          have oc1 : Occ S (upd H p o1) := oc.upd p o1
          generalize upd H p o1 = H1 at hp1 kk1 oc1 ⊢
          have hd : Int := 0
          let σ1 : L2.St := [some (.ref p), some (.ref a0), some (.int s), some (.int (n : Nat)), none, some (.ref A1), some (.ref B1), some (.int k1), none, none, none]
          have vs1 : EQk S H1 σ1 (tVar 2) (.int s) := EQk.var rfl (.int s)
          have e2 := EQk.lst (EsQ.cons (EQk.add vs1 (EQk.int 1)) (EsQ.cons (EQk.neg 1) (EsQ.cons (EQk.bl true) (EsQ.cons EQk.non (EsQ.cons (EQk.str "0") (EsQ.cons vs1 (EsQ.cons (EQk.int 0) (EsQ.cons (EQk.int 1) EsQ.nil)))))))) (Nat.le_of_ble_eq_true rfl)
          dsimp only [tSeq, tAsg, tOp]
          refine e2 H1 _ oc1 (Same.refl H1) (fun vL H2 oc2 s2 t2 => ?_)
          have hp2 := hp1.same s2
          obtain ⟨O, os, rfl, nO, eO, tO⟩ := lst_atS t2
          refine ⟨_, rfl, p, 8, rfl, hp2, by decide, by decide, fun r o r0 r1 po => ?_⟩
          have hp3 : PoolAt (upd H2 p o) p := ⟨o, upd_same, po⟩
          have kk3 : Kept p H2 (upd H2 p o) := Kept.upd p H2 o
          have eO3 := kk3 _ _ eO (fun z => nO (z ▸ hSp))
          have tO3 := tO.keep (KeepsB.kept kk3 hp2 hSp)
          have oc3 : Occ S (upd H2 p o) := oc2.upd p o
          generalize upd H2 p o = H3 at hp3 kk3 eO3 tO3 oc3 ⊢
          obtain ⟨v8, g8, ev8, t8, s8⟩ : ∃ v8 g8, atI os r = some v8 ∧ Ts S H3 v8 g8 ∧ Sm0 g8 ∧ ∀ m, g8 ≠ .lst m := by
            obtain h | h | h | h | h | h | h | h : r = (0 : Nat) ∨ r = (1 : Nat) ∨ r = (2 : Nat) ∨ r = (3 : Nat) ∨ r = (4 : Nat) ∨ r = (5 : Nat) ∨ r = (6 : Nat) ∨ r = (7 : Nat) := by omega
            · subst h; obtain ⟨x, ex, tx⟩ := tO3.at (i := 0) rfl; exact ⟨x, _, atI_nat ex, tx, sm0_int (by omega) (by omega), fun m h => by cases h⟩
            · subst h; obtain ⟨x, ex, tx⟩ := tO3.at (i := 1) rfl; exact ⟨x, _, atI_nat ex, tx, sm0_int (by omega) (by omega), fun m h => by cases h⟩
            · subst h; obtain ⟨x, ex, tx⟩ := tO3.at (i := 2) rfl; exact ⟨x, _, atI_nat ex, tx, sm0_bl true, fun m h => by cases h⟩
            · subst h; obtain ⟨x, ex, tx⟩ := tO3.at (i := 3) rfl; exact ⟨x, _, atI_nat ex, tx, sm0_non, fun m h => by cases h⟩
            · subst h; obtain ⟨x, ex, tx⟩ := tO3.at (i := 4) rfl; exact ⟨x, _, atI_nat ex, tx, sm0_zero, fun m h => by cases h⟩
            · subst h; obtain ⟨x, ex, tx⟩ := tO3.at (i := 5) rfl; exact ⟨x, _, atI_nat ex, tx, sm0_int (by omega) (by omega), fun m h => by cases h⟩
            · subst h; obtain ⟨x, ex, tx⟩ := tO3.at (i := 6) rfl; exact ⟨x, _, atI_nat ex, tx, sm0_int (by omega) (by omega), fun m h => by cases h⟩
            · subst h; obtain ⟨x, ex, tx⟩ := tO3.at (i := 7) rfl; exact ⟨x, _, atI_nat ex, tx, sm0_int (by omega) (by omega), fun m h => by cases h⟩
          refine ⟨O, os, _, v8, rfl, rfl, SqL.of eO3, ev8, ?_⟩
          dsimp only [gName]
          refine ⟨_, rfl, p, 12, rfl, hp3, by decide, by decide, fun wy o4 w0 w1 po4 => ?_⟩
          have hp4 : PoolAt (upd H3 p o4) p := ⟨o4, upd_same, po4⟩
          have kk4 : Kept p H3 (upd H3 p o4) := Kept.upd p H3 o4
          have t84 := t8.keep (KeepsB.kept kk4 hp3 hSp)
          have k14 : Kept p H (upd H3 p o4) := ((kk1.trans (Kept.same s2)).trans kk3).trans kk4
          have t54 := t5.keep (KeepsB.kept k14 hp hSp)
          have t64 := t6.keep (KeepsB.kept k14 hp hSp)
          have oc4 : Occ S (upd H3 p o4) := oc3.upd p o4
          generalize upd H3 p o4 = H4 at hp4 kk4 t84 k14 t54 t64 oc4 ⊢
          have fin : ∀ v' H', Same H4 H' → Occ S H' → ∀ g, Ts S H' v' g → RowS g → Q v' H' := fun v' H' s' _ g tg rg => q v' H' g (k14.trans (Kept.same s')) (hp4.same s') tg rg
          obtain ⟨kn, rfl⟩ : ∃ kn : Nat, k1 = (kn : Int) := ⟨k1.toNat, by omega⟩
          have sA : ∀ x ∈ q0.1.map G.int, Sm0 x := sm0_ints fun x hx => by have := oq.a x hx; omega
          have sB : ∀ x ∈ q0.2.map G.int, Sm0 x := sm0_ints fun x hx => by have := oq.b x hx; omega
          have lA : (q0.1.map G.int).length = n := by rw [List.length_map, oq.la]
          have lB : (q0.2.map G.int).length = n := by rw [List.length_map, oq.lb]
          generalize q0.1.map G.int = GA at t54 sA lA tA
          generalize q0.2.map G.int = GB at t64 sB lB tB
          have oA : Sm1 (.lst GA) := sm1_lst sA (by omega)
          have oB : Sm1 (.lst GB) := sm1_lst sB (by omega)
          have two : ∀ x y, Sm1 x → Sm1 y → RowS (.tup [x, y]) := fun x y hx hy => rowS_tup (fun z hz => by
            simp only [List.mem_cons, List.not_mem_nil, or_false] at hz
            rcases hz with rfl | rfl
            · exact hx
            · exact hy) (Nat.le_of_ble_eq_true rfl)
          have bent : ∀ L : List G, (∀ x ∈ L, Sm0 x) → L.length = n → Sm1 (.lst (L.take kn ++ [g8] ++ L.drop (kn + 1))) := fun L hL ll => sm1_lst (fun x hx => by
            rcases List.mem_append.mp hx with h | h
            · rcases List.mem_append.mp h with h | h
              · exact hL x (List.mem_of_mem_take h)
              · rw [List.mem_singleton.mp h]
                exact s8.1
            · exact hL x (List.mem_of_mem_drop h)) (by
              rw [List.length_append, List.length_append, List.length_take, List.length_drop, List.length_singleton]
              omega)
          let σ4 : L2.St := [some (.ref p), some (.ref a0), some (.int s), some (.int (n : Nat)), none, some (.ref A1), some (.ref B1), some (.int (kn : Nat)), some v8, some (.int wy), none]
          have vA : EQk S H4 σ4 (tVar 5) (.lst GA) := EQk.var rfl t54
          have vB : EQk S H4 σ4 (tVar 6) (.lst GB) := EQk.var rfl t64
          have vk : EQk S H4 σ4 (tVar 7) (.int (kn : Nat)) := EQk.var rfl (.int _)
          have vk1 : EQk S H4 σ4 (tOp (rI0 fun i j => .int (i + j)) (tVar 7) (tC (.int 1))) (.int ((kn + 1 : Nat) : Int)) := EQk.add vk (EQk.int 1)
          have v8e : EQk S H4 σ4 (tVar 8) g8 := EQk.var rfl t84
          have cutE : ∀ {te : TE} {L : List G}, EQk S H4 σ4 te (.lst L) → L.length = n → EQk S H4 σ4 (tOp rCat (tOp rCat (tSl (rSlL K) te tNoPart (tPart (tVar 7))) (tLst (tCons (tVar 8) tNil))) (tSl (rSlL K) te (tPart (tOp (rI0 fun i j => .int (i + j)) (tVar 7) (tC (.int 1)))) tNoPart)) (.lst (L.take kn ++ [g8] ++ L.drop (kn + 1))) := fun {te L} he ll =>
            EQk.cat (EQk.cat (EQk.toE he vk) (EQk.lst (EsQ.cons v8e EsQ.nil) (Nat.le_of_ble_eq_true rfl)) (by rw [List.length_take, List.length_singleton]; omega)) (EQk.fromE he vk1) (by rw [List.length_append, List.length_take, List.length_drop, List.length_singleton]; omega)
          refine ⟨_, rfl, _, _, rfl, rfl, _, rfl, iteB (fun z1 => ?_) (fun z1 => ?_)⟩
          · have e := EQk.tup (EsQ.cons (cutE vA lA) (EsQ.cons vB EsQ.nil)) (Nat.le_of_ble_eq_true rfl)
            exact e H4 _ oc4 (Same.refl H4) (fun v' H' hp' s' tg => fin v' H' s' hp' _ tg (two _ _ (bent GA sA lA) oB))
          refine ⟨_, rfl, _, _, rfl, rfl, _, rfl, iteB (fun z2 => ?_) (fun z2 => ?_)⟩
          · have e := EQk.tup (EsQ.cons vA (EsQ.cons (cutE vB lB) EsQ.nil)) (Nat.le_of_ble_eq_true rfl)
            exact e H4 _ oc4 (Same.refl H4) (fun v' H' hp' s' tg => fin v' H' s' hp' _ tg (two _ _ oA (bent GB sB lB)))
          have e5 := EQk.lst (EsQ.cons (EQk.tup (EsQ.cons vB (EsQ.cons vA EsQ.nil)) (Nat.le_of_ble_eq_true rfl)) (EsQ.cons (EQk.lst (EsQ.cons vA (EsQ.cons vB EsQ.nil)) (Nat.le_of_ble_eq_true rfl)) (EsQ.cons (EQk.tup (EsQ.cons vA (EsQ.cons vB (EsQ.cons (EQk.lst EsQ.nil (Nat.zero_le _)) EsQ.nil))) (Nat.le_of_ble_eq_true rfl)) (EsQ.cons (EQk.tup (EsQ.cons (EQk.tupOf (K := K) vA) (EsQ.cons vB EsQ.nil)) (Nat.le_of_ble_eq_true rfl)) EsQ.nil)))) (Nat.le_of_ble_eq_true rfl)
          dsimp only [tNext, tSeq, tAsg]
          refine e5 H4 _ oc4 (Same.refl H4) (fun v10 H5 oc5 s5 t10 => ?_)
          let σ5 : L2.St := [some (.ref p), some (.ref a0), some (.int s), some (.int (n : Nat)), none, some (.ref A1), some (.ref B1), some (.int (kn : Nat)), some v8, some (.int wy), some v10]
          have vA5 : EQk S H5 σ5 (tVar 5) (.lst GA) := EQk.var rfl (t54.keep (KeepsB.same s5))
          have vB5 : EQk S H5 σ5 (tVar 6) (.lst GB) := EQk.var rfl (t64.keep (KeepsB.same s5))
          have vM : EQk S H5 σ5 (tVar 10) _ := EQk.var rfl t10
          obtain ⟨wn, rfl⟩ : ∃ wn : Nat, wy = ((wn + 6 : Nat) : Int) := ⟨wy.toNat - 6, by have := of_decide_eq_false z2; omega⟩
          have w6 : wn < 6 := by omega
          have vw : EQk S H5 σ5 (tOp (rI0 fun i j => .int (i - j)) (tVar 9) (tC (.int 6))) (.int (wn : Nat)) := by
            have h := EQk.sub (B := S) (H0 := H5) (σ := σ5) (EQk.var (i := 9) rfl (.int ((wn + 6 : Nat) : Int))) (EQk.int 6)
            rwa [show ((wn + 6 : Nat) : Int) - 6 = (wn : Int) by omega] at h
          have cat0 : ∀ {te : TE} {L : List G}, EQk S H5 σ5 te (.lst L) → L.length = n → EQk S H5 σ5 (tOp rCat te (tLst (tCons (tC (.int 0)) tNil))) (.lst (L ++ [.int 0])) := fun {te L} he ll => EQk.cat he (EQk.lst (EsQ.cons (EQk.int 0) EsQ.nil) (Nat.le_of_ble_eq_true rfl)) (by rw [List.length_singleton]; omega)
          have e6 := EQk.cat vM (EQk.lst (EsQ.cons EQk.non (EsQ.cons (EQk.tup (EsQ.cons (cat0 vA5 lA) (EsQ.cons (cat0 vB5 lB) EsQ.nil)) (Nat.le_of_ble_eq_true rfl)) EsQ.nil)) (Nat.le_of_ble_eq_true rfl)) (Nat.le_of_ble_eq_true rfl)
          have s0' : ∀ L : List G, (∀ x ∈ L, Sm0 x) → L.length = n → Sm1 (.lst (L ++ [.int 0])) := fun L hL ll => sm1_lst (fun x hx => by
            rcases List.mem_append.mp hx with h | h
            · exact hL x h
            · rw [List.mem_singleton.mp h]
              exact sm0_int (by decide) (by decide)) (by rw [List.length_append, List.length_singleton]; omega)
          obtain ⟨g, eg, rg⟩ : ∃ g, ([G.tup [.lst GB, .lst GA], .lst [.lst GA, .lst GB], .tup [.lst GA, .lst GB, .lst []], .tup [.tup GA, .lst GB]] ++ [.non, .tup [.lst (GA ++ [.int 0]), .lst (GB ++ [.int 0])]])[wn]? = some g ∧ RowS g := by
            obtain h | h | h | h | h | h : wn = 0 ∨ wn = 1 ∨ wn = 2 ∨ wn = 3 ∨ wn = 4 ∨ wn = 5 := by omega
            · subst h; exact ⟨_, rfl, two _ _ oB oA⟩
            · subst h; exact ⟨_, rfl, rowS_lst (fun z hz => by
                simp only [List.mem_cons, List.not_mem_nil, or_false] at hz
                rcases hz with rfl | rfl
                · exact oA
                · exact oB) (Nat.le_of_ble_eq_true rfl)⟩
            · subst h; exact ⟨_, rfl, rowS_tup (fun z hz => by
                simp only [List.mem_cons, List.not_mem_nil, or_false] at hz
                rcases hz with rfl | rfl | rfl
                · exact oA
                · exact oB
                · exact sm1_lst (fun x hx => (List.not_mem_nil hx).elim) (by decide)) (Nat.le_of_ble_eq_true rfl)⟩
            · subst h; exact ⟨_, rfl, two _ _ (sm1_tup sA (by omega)) oB⟩
            · subst h; exact ⟨_, rfl, (sm0_non.one (fun m h => by cases h)).row (fun l h => by cases h)⟩
            · subst h; exact ⟨_, rfl, two _ _ (s0' GA sA lA) (s0' GB sB lB)⟩
          have e7 := EQk.ixE (K := K) e6 vw eg
          dsimp only [gName, tRet]
          exact e7 H5 _ oc5 (Same.refl H5) (fun v' H' hp' s' tg => fin v' H' (s5.trans s') hp' _ tg rg)
end
end Su
/-! ### LG: tables bent -/
namespace Su
open PySem PySem.Spec PyProof.Rows L2
def spBent : Sp := fun vs H Q _ => ∃ (p : Addr) (S : Addr → Prop) (v : V) (X : Tb) (q0 : Pr) (n : Nat) (s : Int), vs = [.ref p, v, .int s] ∧ PoolAt H p ∧ S p ∧ Occ S H ∧ Ts S H v (.lst (tbT X)) ∧ OkTb n s X ∧ 1 ≤ X.length ∧ X.length ≤ 80 ∧ X[0]? = some (some q0) ∧ n ≤ 12 ∧ 0 ≤ s ∧ s ≤ 900 ∧
  ∀ (v' : V) (H' : Hp) (l : List G), Kept p H H' → PoolAt H' p → Ts S H' v' (.lst l) → l.length ≤ X.length + 1 → (∀ x ∈ l, RowS x) → Q v' H'
theorem sc_law_bent : FnScope ["_law_pool_here", "_law_table", "_law_size", "_law_at", "_law_way"] ["_law_pool_here", "_law_table", "_law_size"] (defScope s_law_bent) := ⟨rfl, rfl, rfl, by decide +kernel, rfl, by decide +kernel, by decide +kernel⟩
section
variable {P : Program} {w : World} {K : PySem.W.Frag} {mg : Str → Option Value} {base : Heap}
theorem ok_bent (T : At K mg "_law_bent" s_law_bent ["_law_pool_here", "_law_table", "_law_size"]) (B : Bt mg) (c_take : Cal P w K mg base 1 "_law_take" ["_law_pool_here", "_law_many"] spTake) (c_bent_row : Cal P w K mg base 2 "_law_bent_row" ["_law_pool_here", "_law_one", "_law_size", "_law_many"] spBentRow) : Cal P w K mg base 3 "_law_bent" ["_law_pool_here", "_law_table", "_law_size"] spBent := by
  refine cal_of T sc_law_bent (fun vs H Q E h => ?_) (fun f cdv A outer s' H vs Q E hr h => ?_)
  · obtain ⟨p, S, v, X, q0, n, s, rfl, _⟩ := h
    rfl
  · obtain ⟨p, S, v, X, q0, n, s, rfl, hp, hSp, oc, hv, okX, x1, x80, e0, n12, s0, s1, q⟩ := h
    refine ⟨_, (pss_cons (ps_set (i := 3) sc_law_bent.nd rfl (Or.inl rfl) (pe_own c_take hr (by decide) (by rfl) (pa_cons (pv 0) (pa_cons (pe_callB call_len_seq (by rfl) B.len PySem.boot_len (pa_cons (pv 1) pa_nil)) pa_nil))))
      (pss_cons (ps_set (i := 4) sc_law_bent.nd rfl (Or.inl rfl) (pe_own c_take hr (by decide) (by rfl) (pa_cons (pv 0) (pa_cons pe_int pa_nil))))
      (pss_cons (ps_if (pt_cmpR op_lt (pv 4) pe_int (nomark _)) (pss_one (ps_ret (pe_op op_cat (pe_op op_cat (pe_slice sl_list (pv 1) po_none (po_some (pv 3))) (pe_lst (pa_cons (pe_own c_bent_row hr (by decide) (by rfl) (pa_cons (pv 0) (pa_cons (pe_ix ix_list (pv 1) (pv 3) (fun _ _ => rfl)) (pa_cons (pv 2) (pa_cons (pe_callB call_len_seq (by rfl) B.len PySem.boot_len (pa_cons (pe_ix ix_tup (pe_ix ix_list (pv 1) pe_int (fun _ _ => rfl)) pe_int (fun _ _ => rfl)) pa_nil)) pa_nil))))) pa_nil))) (pe_slice sl_list (pv 1) (po_some (pe_op op_add (pv 3) pe_int)) po_none)))) pss_nil)
      (pss_one (ps_ret (pe_ix ix_list (pe_lst (pa_cons (pe_slice sl_list (pv 1) po_none (po_some (pe_un un_neg pe_int))) (pa_cons (pe_op op_cat (pv 1) (pe_slice sl_list (pv 1) po_none (po_some pe_int))) (pa_cons (pe_op op_cat (pe_op op_cat (pe_slice sl_list (pv 1) po_none (po_some (pv 3))) (pe_slice sl_list (pv 1) po_none (po_some pe_int))) (pe_slice sl_list (pv 1) (po_some (pe_op op_add (pv 3) pe_int)) po_none)) pa_nil)))) (pe_op op_sub (pv 4) pe_int) (fun _ _ => rfl))))))), ?_⟩
    obtain ⟨Ta, vs0, rfl, nT, eT, tT⟩ := lst_atS hv
    have tl := tT.len
    have xl : (tbT X).length = X.length := List.length_map ..
    refine ⟨_, rfl, _, rfl, Ta, _, rfl, .inl (SqL.of eT), p, _, rfl, hp, by omega, by omega, fun k1 o1 k10 k11 po1 => ?_⟩
    have hp1 : PoolAt (upd H p o1) p := ⟨o1, upd_same, po1⟩
    have kk1 : Kept p H (upd H p o1) := Kept.upd p H o1
    show tSeq _ _ _ _ (upd H p o1)
    have oc1 : Occ S (upd H p o1) := oc.upd p o1
    generalize upd H p o1 = H1 at hp1 kk1 oc1 ⊢
    refine ⟨_, rfl, p, 8, rfl, hp1, by decide, by decide, fun wy o4 w0 w1 po4 => ?_⟩
    have hp4 : PoolAt (upd H1 p o4) p := ⟨o4, upd_same, po4⟩
    have k14 : Kept p H (upd H1 p o4) := kk1.trans (Kept.upd p H1 o4)
    have hv4 := hv.keep (KeepsB.kept k14 hp hSp)
    have tT4 := tT.keep (KeepsB.kept k14 hp hSp)
    have eT4 := k14 _ _ eT (fun z => nT (z ▸ hSp))
    show tSeq _ _ _ _ (upd H1 p o4)
    have oc4 : Occ S (upd H1 p o4) := oc1.upd p o4
    have oc4 : Occ S (upd H1 p o4) := oc.kept k14 hp4
    generalize upd H1 p o4 = H4 at hp4 k14 oc4 hv4 tT4 eT4 oc4 ⊢
    obtain ⟨kn, rfl⟩ : ∃ kn : Nat, k1 = (kn : Int) := ⟨k1.toNat, by omega⟩
    let σ4 : L2.St := [some (.ref p), some (.ref Ta), some (.int s), some (.int (kn : Nat)), some (.int wy)]
    have rX : ∀ x ∈ tbT X, RowS x := fun x hx => by
      obtain ⟨o, ho, rfl⟩ := List.mem_map.mp hx
      exact rowS_cell (n := n) (s := s) (fun q e => okX o ho q e) n12 (by omega)
    have vT : EQk S H4 σ4 (tVar 1) (.lst (tbT X)) := EQk.var rfl hv4
    have vk : EQk S H4 σ4 (tVar 3) (.int (kn : Nat)) := EQk.var rfl (.int _)
    have vk1 : EQk S H4 σ4 (tOp (rI0 fun i j => .int (i + j)) (tVar 3) (tC (.int 1))) (.int ((kn + 1 : Nat) : Int)) := EQk.add vk (EQk.int 1)
    have knl : kn < X.length := by
      rw [tl, xl] at k11
      omega
    refine ⟨_, rfl, _, _, rfl, rfl, _, rfl, iteB (fun z1 => ?_) (fun z1 => ?_)⟩
    · have e1 := EQk.toE (K := K) vT vk
      dsimp only [tRet, tOp]
      refine e1 H4 _ oc4 (Same.refl H4) (fun v1 H5 oc5 s5 t1 => ?_)
      have hp5 := hp4.same s5
      obtain ⟨L1, l1, rfl, nL1, eL1, tL1⟩ := lst_atS t1
      have tT5 := tT4.keep (KeepsB.same s5)
      have eT5 := s5 _ _ eT4
      obtain ⟨ok', eok'⟩ : ∃ o, X[kn]? = some o := ⟨X[kn], List.getElem?_eq_getElem knl⟩
      obtain ⟨vk', evk, tgk⟩ := tT5.at (i := kn) (g := cellT ok') (by unfold tbT; rw [List.getElem?_map, eok']; rfl)
      obtain ⟨v0, ev0, tg0⟩ := tT5.at (i := 0) (g := cellT (some q0)) (by unfold tbT; rw [List.getElem?_map, e0]; rfl)
      obtain ⟨a0, w0', rfl, et0, tt0⟩ := tupG_atS tg0
      have oq0 := okX _ (List.mem_of_getElem? e0) q0 rfl
      cases tt0 with
      | @cons x5 _ _ _ t5 tt0 =>
        obtain ⟨A0, va, rfl, nA0, eA0, tA0⟩ := lst_atS t5
        have la : va.length = n := by rw [tA0.len, List.length_map, oq0.la]
        refine ⟨_, rfl, _, rfl, _, rfl, Ta, _, _, _, rfl, rfl, SqL.of eT5, atI_nat evk, _, rfl, _, rfl, Ta, _, _, _, rfl, rfl, SqL.of eT5, atI_nat (j := 0) ev0, a0, _, _, _, rfl, rfl, et0.sq, atI_nat (j := 0) rfl, A0, _, rfl, .inl (SqL.of eA0), p, S, vk', ok', n, s, (by rw [la]; rfl), hp5, hSp, oc5, tgk, fun q e => okX _ (List.mem_of_getElem? eok') q e, n12, s0, s1, fun v6 H6 g6 k6 hp6 t6 r6 => ?_⟩
        refine ⟨(by show 1 ≤ sizeLine; decide), fun c nc => ?_⟩
        have u1 : Same H6 (upd H6 c (.lst [v6])) := same_upd nc
        have k56 : KeepsB S H5 H6 := KeepsB.kept k6 hp5 hSp
        have eL1' := u1 _ _ (k6 _ _ eL1 (fun z => nL1 (z ▸ hSp)))
        have tL1' := (tL1.keep k56).keep (KeepsB.same u1)
        have llen : l1.length = kn := by
          rw [tL1.len, List.length_take, xl]
          omega
        refine ⟨L1, c, l1, [v6], rfl, rfl, eL1', upd_same, ?_, fun d nd => ?_⟩
        · rw [llen]
          exact Nat.le_of_lt (sz1000 (by show kn + 1 ≤ 1000; omega))
        have u2 : Same (upd H6 c (.lst [v6])) (upd (upd H6 c (.lst [v6])) d (.lst (l1 ++ [v6]))) := same_upd nd
        have hp7 := (hp6.same u1).same u2
        have ed : (upd (upd H6 c (.lst [v6])) d (.lst (l1 ++ [v6]))) d = some (.lst (l1 ++ [v6])) := upd_same
        have tL7 := (tL1'.keep (KeepsB.same (B := S) u2)).app (.cons ((t6.keep (KeepsB.same u1)).keep (KeepsB.same u2)) .nil)
        have oc6 : Occ S H6 := oc5.kept k6 hp6
        have oc7 := (oc6.same u1).same u2
        have k57 : Kept p H5 (upd (upd H6 c (.lst [v6])) d (.lst (l1 ++ [v6]))) := k6.trans (Kept.same (u1.trans u2))
        have hv7 := ((hv4.keep (KeepsB.same s5)).keep (KeepsB.kept k57 hp5 hSp))
        have oc7 : Occ S (upd (upd H6 c (.lst [v6])) d (.lst (l1 ++ [v6]))) := (oc6.same u1).same u2
        generalize upd (upd H6 c (.lst [v6])) d (.lst (l1 ++ [v6])) = H7 at hp7 ed tL7 k57 hv7 oc7 ⊢
        have vT7 : EQk S H7 σ4 (tVar 1) (.lst (tbT X)) := EQk.var rfl hv7
        have vk7 : EQk S H7 σ4 (tOp (rI0 fun i j => .int (i + j)) (tVar 3) (tC (.int 1))) (.int ((kn + 1 : Nat) : Int)) := EQk.add (EQk.var rfl (.int ((kn : Nat) : Int))) (EQk.int 1)
        have e3 := EQk.fromE (K := K) vT7 vk7
        refine e3 H7 _ oc7 (Same.refl H7) (fun v8 H8 oc8 s8 t8 => ?_)
        have hp8 := hp7.same s8
        obtain ⟨L8, l8, rfl, nL8, eL8, tL8⟩ := lst_atS t8
        have len8 : l8.length ≤ X.length := by
          rw [tL8.len, List.length_drop, xl]
          omega
        refine ⟨d, L8, l1 ++ [v6], l8, rfl, rfl, s8 _ _ ed, eL8, ?_, fun r nr => ?_⟩
        · rw [List.length_append, llen]
          exact Nat.le_of_lt (sz1000 (by show kn + 1 + l8.length ≤ 1000; omega))
        have u9 : Same H8 (upd H8 r (.lst (l1 ++ [v6] ++ l8))) := same_upd nr
        refine q (.ref r) _ ((tbT X).take kn ++ [g6] ++ (tbT X).drop (kn + 1)) (((k14.trans (Kept.same s5)).trans k57).trans (Kept.same (s8.trans u9))) (hp8.same u9) (.lst (occ_ne oc8 nr) upd_same (((tL7.keep (KeepsB.same s8)).app tL8).keep (KeepsB.same u9))) ?_ (fun x hx => ?_)
        · rw [List.length_append, List.length_append, List.length_take, List.length_drop, xl, List.length_singleton]
          omega
        · rcases List.mem_append.mp hx with h | h
          · rcases List.mem_append.mp h with h | h
            · exact rX x (List.mem_of_mem_take h)
            · rw [List.mem_singleton.mp h]
              exact r6
          · exact rX x (List.mem_of_mem_drop h)
    · have lk : ((tbT X).take kn).length ≤ 80 := by rw [List.length_take, xl]; omega
      have lt1 : ((tbT X).take 1).length ≤ 1 := by rw [List.length_take]; omega
      have ldr : ((tbT X).drop (kn + 1)).length ≤ 80 := by rw [List.length_drop, xl]; omega
      have e3 := EQk.lst (EsQ.cons (EQk.toEnd (K := K) vT) (EsQ.cons (EQk.cat vT (EQk.to1 (K := K) vT) (by omega)) (EsQ.cons (EQk.cat (EQk.cat (EQk.toE (K := K) vT vk) (EQk.to1 (K := K) vT) (by omega)) (EQk.fromE (K := K) vT vk1) (by rw [List.length_append]; omega)) EsQ.nil))) (Nat.le_of_ble_eq_true rfl)
      obtain ⟨wn, rfl⟩ : ∃ wn : Nat, wy = ((wn + 5 : Nat) : Int) := ⟨wy.toNat - 5, by have := of_decide_eq_false z1; omega⟩
      have w3 : wn < 3 := by omega
      have vw : EQk S H4 σ4 (tOp (rI0 fun i j => .int (i - j)) (tVar 4) (tC (.int 5))) (.int (wn : Nat)) := by
        have h := EQk.sub (B := S) (H0 := H4) (σ := σ4) (EQk.var (i := 4) rfl (.int ((wn + 5 : Nat) : Int))) (EQk.int 5)
        rwa [show ((wn + 5 : Nat) : Int) - 5 = (wn : Int) by omega] at h
      obtain ⟨l, eg, ll, rl⟩ : ∃ l, ([G.lst ((tbT X).take ((tbT X).length - 1)), .lst (tbT X ++ (tbT X).take 1), .lst ((tbT X).take kn ++ (tbT X).take 1 ++ (tbT X).drop (kn + 1))])[wn]? = some (.lst l) ∧ l.length ≤ X.length + 1 ∧ ∀ x ∈ l, RowS x := by
        obtain h | h | h : wn = 0 ∨ wn = 1 ∨ wn = 2 := by omega
        · subst h; exact ⟨_, rfl, by rw [List.length_take, xl]; omega, fun x hx => rX x (List.mem_of_mem_take hx)⟩
        · subst h; exact ⟨_, rfl, by rw [List.length_append, xl]; omega, fun x hx => by
            rcases List.mem_append.mp hx with h | h
            · exact rX x h
            · exact rX x (List.mem_of_mem_take h)⟩
        · subst h; exact ⟨_, rfl, by rw [List.length_append, List.length_append, List.length_take, List.length_take, List.length_drop, xl]; omega, fun x hx => by
            rcases List.mem_append.mp hx with h | h
            · rcases List.mem_append.mp h with h | h
              · exact rX x (List.mem_of_mem_take h)
              · exact rX x (List.mem_of_mem_take h)
            · exact rX x (List.mem_of_mem_drop h)⟩
      have e7 := EQk.ixE (K := K) e3 vw eg
      dsimp only [tNext, tRet]
      exact e7 H4 _ oc4 (Same.refl H4) (fun v' H' oc' s' tg => q v' H' l (k14.trans (Kept.same s')) (hp4.same s') tg ll rl)
end
end Su
/-! ### LH: the law -/
namespace Su
open PySem PySem.Spec PyProof.Rows L2
def rowT (r : Rw) : G := .tup [.tup (r.1.map G.int), .tup (r.2.map G.int)]
theorem tg_row {p : Addr} {H : Hp} {v : V} {r : Rw} (h : RowAt H v r) : Tg p H v (rowT r) := by
  obtain ⟨a, b, c, rfl, h1, h2, h3⟩ := h
  exact .tup h1 (.cons (.tup h2 (TgL.ints _)) (.cons (.tup h3 (TgL.ints _)) .nil))
theorem tg_rows {p : Addr} {H : Hp} : ∀ {vs : List V} {rs : List Rw}, RowsAt H vs rs → TgL p H vs (rs.map rowT)
  | [], [], _ => .nil
  | _ :: _, _ :: _, h => .cons (tg_row h.1) (tg_rows h.2)
  | [], _ :: _, h => h.elim
  | _ :: _, [], h => h.elim
theorem tg_web {p a : Addr} {H : Hp} {rs : List Rw} (h : WebAt H a rs) (n : a ≠ p) : Tg p H (.ref a) (.lst (rs.map rowT)) := by
  obtain ⟨ws, e, r⟩ := h
  exact .lst n e (tg_rows r)
theorem fz_tints {ns : List Int} (h : ∀ i ∈ ns, -1000000 ≤ i ∧ i ≤ 1000000) : Fz (.tup (ns.map G.int)) 1 (41 * ns.length) := by
  have := Fz.tup (FzL.all (n := 0) (m := 40) (gs := ns.map G.int) fun g hg => by
    obtain ⟨i, hi, rfl⟩ := List.mem_map.mp hg
    exact Fz.int (h i hi).1 (h i hi).2)
  rw [List.length_map] at this
  exact this
theorem fz_row {n : Nat} {r : Rw} (ok : RowOk n r) (hn : n ≤ 80) : Fz (rowT r) 2 3600 := by
  have h1 := ok.few
  have h2 := ris_len ok.tos
  have f1 := fz_tints (ns := r.1) fun i hi => by
    have := ok.rooms.lo i hi
    have := ok.rooms.hi i hi
    omega
  have f2 := fz_tints (ns := r.2) fun i hi => by
    have := ok.tos.lo i hi
    have := ok.tos.hi i hi
    omega
  exact (Fz.tup (FzL.cons f1 (FzL.cons f2 FzL.nil))).up (by decide) (by omega)
theorem fz_web {rs : List Rw} (ok : WebOk rs) (h : rs.length ≤ 7) : Fz (.lst (rs.map rowT)) 3 26000 := by
  refine (Fz.lst (FzL.all (n := 2) (m := 3600) (gs := rs.map rowT) fun g hg => ?_)).up (by decide) (by rw [List.length_map]; omega)
  obtain ⟨r, hr, rfl⟩ := List.mem_map.mp hg
  exact fz_row (ok.row r hr) ok.few
theorem okd_web (rs : List Rw) : okD (.lst (rs.map rowT)) = true := by
  have oi : ∀ ns : List Int, okDs (ns.map G.int) = true := fun ns => by
    rw [okDs_all, List.all_eq_true]
    intro g hg
    obtain ⟨i, _, rfl⟩ := List.mem_map.mp hg
    rfl
  show okDs _ = true
  rw [okDs_all, List.all_eq_true]
  intro g hg
  obtain ⟨r, _, rfl⟩ := List.mem_map.mp hg
  show okDs [.tup (r.1.map G.int), .tup (r.2.map G.int)] = true
  simp only [okDs, okD, oi, Bool.and_self]
/-- a thing that the law hands in -/
structure Thg (g : G) : Prop where
  tf : TabF g
  fz : Fz g 6 150000
  fl : Flat g
theorem pair_shw {rs : List Rw} {g : G} (ok : WebOk rs) (h : rs.length ≤ 7) (t : Thg g) : Shw (.lst [.lst (rs.map rowT), g]) := by
  refine ⟨(Fz.lst (FzL.cons ((fz_web ok h).up (n' := 6) (by decide) (Nat.le_refl _)) (FzL.cons t.fz FzL.nil))).up (by decide) (by decide), .inr ⟨_, rfl, fun x hx => ?_⟩⟩
  rcases List.mem_cons.mp hx with rfl | hx
  · exact .inl (okd_web rs)
  · rw [List.mem_singleton.mp hx]
    exact t.fl
theorem thg_lst {l : List G} (h : ∀ x ∈ l, RowS x) (hl : l.length ≤ 10) : Thg (.lst l) := by
  refine ⟨⟨fun m e => ?_, fun m e x hx => ?_⟩, (Fz.lst (FzL.all (n := 2) (m := 3000) fun x hx => (h x hx).fz)).up (by decide) (by omega), .inl ?_⟩
  · injection e with e
    rw [← e]
    omega
  · injection e with e
    rw [← e] at hx
    exact h x hx
  · show okDs l = true
    rw [okDs_all, List.all_eq_true]
    exact fun x hx => (h x hx).ok.ok
theorem tabF_no {g : G} (h : ∀ m, g ≠ .lst m) : TabF g := ⟨fun m e => absurd e (h m), fun m e => absurd e (h m)⟩
theorem thg_tup {l : List G} (h : ∀ x ∈ l, RowS x) (hl : l.length ≤ 10) : Thg (.tup l) := by
  refine ⟨tabF_no (fun m e => by cases e), (Fz.tup (FzL.all (n := 2) (m := 3000) fun x hx => (h x hx).fz)).up (by decide) (by omega), .inl ?_⟩
  show okDs l = true
  rw [okDs_all, List.all_eq_true]
  exact fun x hx => (h x hx).ok.ok
theorem thg_non : Thg .non := ⟨tabF_no (fun m e => by cases e), Fz.none.up (by decide) (by decide), .inl rfl⟩
theorem thg_dct : Thg .dct := ⟨tabF_no (fun m e => by cases e), Fz.dct.up (by decide) (by decide), .inr rfl⟩
theorem thg_ages : Thg (.str "ages") := ⟨tabF_no (fun m e => by cases e), ⟨by decide +kernel, by decide +kernel, by decide +kernel, by decide +kernel⟩, .inl rfl⟩
theorem rowS_tb {n : Nat} {s : Int} {X : Tb} (h : OkTb n s X) (n12 : n ≤ 12) (s1 : s ≤ 1000) : ∀ x ∈ tbT X, RowS x := fun x hx => by
  obtain ⟨o, ho, rfl⟩ := List.mem_map.mp hx
  exact rowS_cell (fun q e => h o ho q e) n12 s1
/-! a least table holds -/
theorem rep_top : ∀ (n : Nat) {s : Int} {b : List Int}, LeL (List.replicate n s) b → (∀ x ∈ b, x ≤ s) → b = List.replicate n s
  | 0, _, [], _, _ => rfl
  | n + 1, s, y :: b, h, k => by
    rw [List.replicate_succ] at h ⊢
    have h1 := h.1
    have h2 := k y List.mem_cons_self
    rw [rep_top n h.2 fun x hx => k x (List.mem_cons_of_mem _ hx)]
    congr 1
    omega
  | 0, _, _ :: _, h, _ => h.elim
  | _ + 1, _, [], h, _ => by
    rw [List.replicate_succ] at h
    exact h.elim
theorem rep_bot : ∀ (n : Nat) {b : List Int}, LeL b (List.replicate n 0) → (∀ x ∈ b, 0 ≤ x) → b = List.replicate n 0
  | 0, [], _, _ => rfl
  | n + 1, y :: b, h, k => by
    rw [List.replicate_succ] at h ⊢
    have h1 := h.1
    have h2 := k y List.mem_cons_self
    rw [rep_bot n h.2 fun x hx => k x (List.mem_cons_of_mem _ hx)]
    congr 1
    omega
  | 0, _ :: _, h, _ => h.elim
  | _ + 1, [], h, _ => by
    rw [List.replicate_succ] at h
    exact h.elim
theorem first_top {n : Nat} {s : Int} {q : Pr} (h : PLe (firstP n s) q) (k : POk n s q) : q = firstP n s :=
  Prod.ext (rep_top n h.1 fun x hx => (k.a x hx).2) (rep_bot n h.2 fun x hx => (k.b x hx).1)
theorem okTb_of {n : Nat} {s : Int} {rs : List Rw} {X : Tb} (h : TOk n s rs X) : OkTb n s X := fun o ho q e => by
  obtain ⟨i, hi, ei⟩ := List.mem_iff_getElem.mp ho
  exact h.ok i q (by rw [List.getElem?_eq_getElem hi, ei, e])
theorem letsB_least {ms : List Int} {s : Int} {rs : List Rw} {X : Tb} (hs : 0 ≤ s) (h : Least ms s rs X) : letsB ms s rs (.lst (tbT X)) = true ∧ X[0]? = some (some (firstP ms.length s)) := by
  have ok := okTb_of h.clo.tok
  obtain ⟨q, eq, lq⟩ := h.clo.zero
  have e0 : X[0]? = some (some (firstP ms.length s)) := by rw [eq, first_top lq (h.clo.tok.ok 0 q eq)]
  refine ⟨?_, e0⟩
  unfold letsB
  have t1 : tabG ms.length s rs.length (.lst (tbT X)) = true := by
    show (decide ((tbT X).length = rs.length) && ((tbT X).map (celG ms.length s)).all id) = true
    rw [Bool.and_eq_true, decide_eq_true_eq]
    refine ⟨by unfold tbT; rw [List.length_map]; exact h.clo.tok.len, ?_⟩
    rw [List.all_map, List.all_eq_true]
    intro g hg
    obtain ⟨o, ho, rfl⟩ := List.mem_map.mp hg
    exact cellT_ok fun q e => ok o ho q e
  have t2 : tbO (.lst (tbT X)) = X := tbT_O X
  rw [t1, t2, e0, decide_eq_true rfl, Bool.true_and, Bool.true_and]
  unfold holdB
  rw [List.all_eq_true]
  intro i hi
  have il := List.mem_range.mp hi
  have er : rs[i]? = some rs[i] := List.getElem?_eq_getElem il
  have erd : rs.getD i ([], []) = rs[i] := by rw [List.getD_eq_getElem?_getD, er]; rfl
  rw [erd]
  cases hx : X.getD i none with
  | none => rfl
  | some p =>
    have ep : X[i]? = some (some p) := by
      rw [List.getD_eq_getElem?_getD] at hx
      cases hz : X[i]? with
      | none =>
        rw [hz] at hx
        cases hx
      | some o =>
        rw [hz] at hx
        have hx' : o = some p := hx
        rw [hx']
    show rs[i].2.all (holdT X (comeP ms s rs[i] p)) = true
    rw [List.all_eq_true]
    intro t ht
    obtain ⟨q2, e2, l2⟩ := h.clo.keep i _ er p ep t ht
    have okq := h.clo.tok.ok _ _ e2
    have okc : POk ms.length s (comeP ms s rs[i] p) := rowP_ok hs (h.clo.tok.ok _ _ ep) _
    unfold holdT
    rw [e2]
    show decide (joinP q2 (comeP ms s rs[i] p) = q2) = true
    exact decide_eq_true ((joinP_lub (PLe.refl _) l2).anti (joinP_l okq okc))
theorem TAt.cells {H0 H : Hp} {L p : Addr} {X : Tb} {ad : Nat → Addr × Addr} {own : Addr → Nat × Bool} (h : TAt H0 H L X ad own) (hp : PoolAt H0 p) : ∃ vs, H L = some (.lst vs) ∧ CellsY p L H vs X := by
  obtain ⟨vs, e, l, c⟩ := h.ex
  refine ⟨vs, e, l, fun i v o ev eo => ?_⟩
  rcases c i v ev with ⟨z1, z2⟩ | ⟨q, t, z1, z2, z3, z4, z5⟩
  · rw [eo] at z1
    injection z1 with z1
    subst z1
    exact z2
  · rw [eo] at z1
    injection z1 with z1
    subst z1
    have n := h.new i q eo
    exact ⟨t, _, _, z2, .inl z3, z4, z5, ⟨pool_ne hp n.1, n.2.2.1⟩, pool_ne hp n.2.1, n.2.2.2.1⟩
theorem TAt.tg {H0 H : Hp} {L p : Addr} {X : Tb} {ad : Nat → Addr × Addr} {own : Addr → Nat × Bool} (h : TAt H0 H L X ad own) (hp : PoolAt H0 p) (nL : H0 L = none) : Tg p H (.ref L) (.lst (tbT X)) := by
  obtain ⟨vs, e, c⟩ := h.cells hp
  exact .lst (pool_ne hp nL) e c.tg
theorem WebAt.kept {p a : Addr} {H H' : Hp} {rs : List Rw} (h : WebAt H a rs) (k : Kept p H H') (hp : PoolAt H p) (n : a ≠ p) : WebAt H' a rs := by
  obtain ⟨ws, e, r⟩ := h
  exact ⟨ws, k _ _ e n, r.keep (K2.of k hp)⟩
theorem bl_self (b : Bool) : (!decide (V.bl b = V.bl b)) = false := by rw [decide_eq_true rfl]; rfl
theorem str_self (b : Str) : (!decide (V.str b = V.str b)) = false := by rw [decide_eq_true rfl]; rfl
def rLenS (K : PySem.W.Frag) : List V → Hp → VK → Prop := fun xs H Q => ∃ p ys, xs = [V.ref p] ∧ (SqL K H p ys ∨ SqT K H p ys) ∧ Q (.int ys.length) H
def spLaw (K : PySem.W.Frag) : Sp := fun vs H Q _ => ∃ (a : Addr) (ns : List Int), vs = [.ref a] ∧ SqL K H a (ns.map V.int) ∧ ns.length ≤ 63 ∧ ∀ H', Q (.bl true) H'
structure Calls (P : Program) (w : World) (K : PySem.W.Frag) (mg : Str → Option Value) (base : Heap) : Prop where
  pool : Cal P w K mg base 1 "_law_pool" ["_law_script", "_law_k"] (spPool K)
  take : Cal P w K mg base 1 "_law_take" ["_law_pool_here", "_law_many"] spTake
  web : Cal P w K mg base 3 "_law_web" ["_law_pool_here", "_law_most_rows", "_law_most_rooms"] spLWeb
  ages : CalD P w K mg base 6 "ages" ["web", "size"] [.int 4] spAges
  lets : CalD P w K mg base 6 "lets_ages" ["web", "thing", "size"] [.int 4] (spLets w)
  wider : Cal P w K mg base 2 "_law_wider" ["_law_pool_here", "_law_told", "_law_size"] spWider
  bent : Cal P w K mg base 3 "_law_bent" ["_law_pool_here", "_law_table", "_law_size"] spBent
  due : Cal P w K mg base 3 "_law_due" ["_law_web_here", "_law_size", "_law_thing"] spLDue37
theorem sc_law : FnScope ["_law_script", "_law_k", "_law_pool_here", "_law_web_here", "_law_size", "_law_told", "_law_table", "_law_things", "_law_thing", "_law_kept", "_law_found", "_law_turn"] ["_law_script"] (defScope s_law) := ⟨rfl, rfl, rfl, by decide +kernel, rfl, by decide +kernel, by decide +kernel⟩
section
variable {P : Program} {w : World} {K : PySem.W.Frag} {mg : Str → Option Value} {base : Heap}
theorem ok_law {f : Addr} {fd : FuncData} (F : Fun K "law" "law" s_law f fd) (B : Bt mg) (C : Calls P w K mg base) : FnG P w K mg base CX0 8 f fd ["_law_script"] (spLaw K) := by
  obtain ⟨c_pool, c_take, c_web, c_ages, c_lets_ages, c_wider, c_bent, c_due⟩ := C
  refine fnG_fun F sc_law (fun vs H Q E h => ?_) (fun cdv A outer s H vs Q E hg hr h => ?_)
  · obtain ⟨a, ns, rfl, _⟩ := h
    rfl
  · obtain ⟨a, ns, rfl, hS, hlen, q⟩ := h
    refine ⟨_, (pss_cons (ps_for PassesOwn.never rfl (pi_range1 (by rfl) B.range (pa_cons (pe_callB (call_max2 rfl) (by rfl) B.max (by decide +kernel) (pa_cons pe_int (pa_cons (pe_callB (call_min2 rfl) (by rfl) B.min (by decide +kernel) (pa_cons (pe_callB call_len_seq (by rfl) B.len PySem.boot_len (pa_cons (pv 0) pa_nil)) (pa_cons pe_int pa_nil))) pa_nil))) pa_nil)) (pg_name (i := 1) sc_law.nd rfl (Or.inl rfl)) (pss_cons (ps_set (i := 2) sc_law.nd rfl (Or.inr rfl) (pe_own c_pool hr (by decide) (by rfl) (pa_cons (pv 0) (pa_cons (pv 1) pa_nil))))
      (pss_cons (ps_set (i := 3) sc_law.nd rfl (Or.inl rfl) (pe_own c_web hr (by decide) (by rfl) (pa_cons (pv 2) (pa_cons pe_int (pa_cons pe_int pa_nil)))))
      (pss_cons (ps_set (i := 4) sc_law.nd rfl (Or.inr rfl) (pe_op op_add pe_int (pe_own c_take hr (by decide) (by rfl) (pa_cons (pv 2) (pa_cons pe_int pa_nil)))))
      (pss_cons (ps_set (i := 5) sc_law.nd rfl (Or.inl rfl) (pe_ownD 1 c_ages hr (by decide) (by rfl) (by decide) (pa_cons (pv 3) (pa_cons (pv 4) pa_nil))))
      (pss_cons (ps_if (pt_cmpR op_isnot_bl (pe_ownD 1 c_lets_ages hr (by decide) (by rfl) (by decide) (pa_cons (pv 3) (pa_cons (pv 5) (pa_cons (pv 4) pa_nil)))) pe_bl (nomark _)) (pss_one (ps_ret pe_bl)) pss_nil)
      (pss_cons (ps_for PassesOwn.never rfl (pi_list (pe_lst (pa_cons (pv 5) (pa_cons (pe_own c_wider hr (by decide) (by rfl) (pa_cons (pv 2) (pa_cons (pv 5) (pa_cons (pv 4) pa_nil)))) (pa_cons (pe_own c_wider hr (by decide) (by rfl) (pa_cons (pv 2) (pa_cons (pv 5) (pa_cons (pv 4) pa_nil)))) pa_nil))))) (pg_name (i := 6) sc_law.nd rfl (Or.inr rfl)) (pss_cons (ps_set (i := 7) sc_law.nd rfl (Or.inl rfl) (pe_op op_cat (pe_lst (pa_cons (pv 6) pa_nil)) (pe_lc (own := [("_law_turn", 11)]) (g := (gName 11)) (tt := tYes) (te := (tCall spBent [] E0 (tCons (tVar 2) (tCons (tVar 6) (tCons (tVar 4) tNil))))) (by rfl) sc_law.nd (pi_range1 (by rfl) B.range (pa_cons pe_int pa_nil)) (blkOk_by (own := [("_law_turn", 11)]) (N := ["_law_script", "_law_k", "_law_pool_here", "_law_web_here", "_law_size", "_law_told", "_law_table", "_law_things", "_law_thing", "_law_kept", "_law_found", "_law_turn"]) (sc := defScope s_law) (by decide +kernel)) (fun _ _ _ _ _ => (pg_name (i := 11) sc_law.nd rfl (Or.inl rfl))) (fun _ _ _ _ _ => pts_nil) (fun _ _ _ _ _ => (pe_own c_bent hr (by decide) (by rfl) (pa_cons (pv 2) (pa_cons (pv 6) (pa_cons (pv 4) pa_nil))))))))
      (pss_cons (ps_set (i := 7) sc_law.nd rfl (Or.inl rfl) (pe_op op_cat (pv 7) (pe_lst (pa_cons (pe_op op_rep (pe_lst (pa_cons pe_non pa_nil)) (pe_callB call_len_seq (by rfl) B.len PySem.boot_len (pa_cons (pv 3) pa_nil))) (pa_cons (pe_op op_rep (pe_lst (pa_cons (pe_ix ix_list (pv 6) pe_int (fun _ _ => rfl)) pa_nil)) (pe_callB call_len_seq (by rfl) B.len PySem.boot_len (pa_cons (pv 3) pa_nil))) pa_nil)))))
      (pss_one (ps_for PassesOwn.never rfl (pi_list (pe_op op_cat (pv 7) (pe_lst (pa_cons pe_non (pa_cons (pe_tupF pa_nil) (pa_cons pe_dnewK (pa_cons (pe_callTy call_tupleF (by rfl) B.tuple (by decide +kernel) (pa_cons (pv 6) pa_nil)) (pa_cons pe_str pa_nil)))))))) (pg_name (i := 8) sc_law.nd rfl (Or.inl rfl)) (pss_cons (ps_set (i := 9) sc_law.nd rfl (Or.inl rfl) (pe_callB (call_reprG hg hr.units) (by rfl) B.repr (by decide +kernel) (pa_cons (pe_lst (pa_cons (pv 3) (pa_cons (pv 8) pa_nil))) pa_nil)))
      (pss_cons (ps_set (i := 10) sc_law.nd rfl (Or.inl rfl) (pe_ownD 1 c_lets_ages hr (by decide) (by rfl) (by decide) (pa_cons (pv 3) (pa_cons (pv 8) (pa_cons (pv 4) pa_nil)))))
      (pss_cons (ps_if (PW.pt (pw_or (pt_not (pt_val (pe_callB call_isi (by rfl) B.isinstance (by decide +kernel) (pa_cons (pv 10) (pa_cons (pe_bltn (v := .ty "bool") (u := .type "bool") (by rfl) B.bool (by decide +kernel) rfl) pa_nil))))) (pw_or1 (pt_cmpR op_ne (pv 10) (pe_own c_due hr (by decide) (by rfl) (pa_cons (pv 3) (pa_cons (pv 4) (pa_cons (pv 8) pa_nil)))) (nomark _))))) (pss_one (ps_ret pe_bl)) pss_nil)
      (pss_one (ps_if (pt_cmpR op_ne (pe_callB (call_reprG hg hr.units) (by rfl) B.repr (by decide +kernel) (pa_cons (pe_lst (pa_cons (pv 3) (pa_cons (pv 8) pa_nil))) pa_nil)) (pv 9) (nomark _)) (pss_one (ps_ret pe_bl)) pss_nil))))))))))
      (pss_one (ps_if (pt_cmpR op_isnot_bl (pe_ownD 0 c_lets_ages hr (by decide) (by rfl) (by decide) (pa_cons (pv 3) (pa_cons (pe_ownD 0 c_ages hr (by decide) (by rfl) (by decide) (pa_cons (pv 3) pa_nil)) pa_nil))) pe_bl (nomark _)) (pss_one (ps_ret pe_bl)) pss_nil)))))))))
      (pss_one (ps_ret pe_bl))), ?_⟩
    obtain ⟨m, hm, hm2⟩ : ∃ m : Nat, (if (if (4 : Int) < ((ns.map V.int).length : Int) then 4 else ((ns.map V.int).length : Int)) > 1 then (if (4 : Int) < ((ns.map V.int).length : Int) then 4 else ((ns.map V.int).length : Int)) else 1) = (m : Int) ∧ m ≤ 4 := by
      rw [List.length_map]
      refine ⟨(if (if (4 : Int) < (ns.length : Int) then 4 else (ns.length : Int)) > 1 then (if (4 : Int) < (ns.length : Int) then 4 else (ns.length : Int)) else 1).toNat, ?_, ?_⟩
      all_goals
        by_cases e1 : (4 : Int) < (ns.length : Int)
        · simp only [e1, if_true]
          decide
        · simp only [e1, if_false]
          split <;> omega
    refine ⟨_, rfl, a, _, rfl, .inl hS, _, _, rfl, _, _, rfl, ?_⟩
    refine ⟨(m : Int), congrArg (fun z => [V.int z]) hm, by omega, by omega, ?_⟩
    rw [show ((m : Int)).toNat = m by omega]
    refine for_range (lo := 0) (n := m) (fun i σ H2 => ∃ y1 y2 y3 y4 y5 y6 y7 y8 y9 y10 y11 : Option V, σ = [some (.ref a), y1, y2, y3, y4, y5, y6, y7, y8, y9, y10, y11] ∧ SqL K H2 a (ns.map V.int)) ?_ ?_ ?_
    · exact ⟨none, none, none, none, none, none, none, none, none, none, none, rfl, hS⟩
    · rintro i σ Hs hi ⟨y1, y2, y3, y4, y5, y6, y7, y8, y9, y10, y11, rfl, hSs⟩
      refine ⟨_, rfl, _, rfl, a, ns, _, rfl, hSs, by omega, by omega, fun p H1 s1 np hp1 => ?_⟩
      have back : ∀ {Hn : Hp}, Kept p H1 Hn → SqL K Hn a (ns.map V.int) := fun {Hn} k => Same.seq (fun b o e => k b o (s1 b o e) (ne_of_none e np)) hSs
      refine ⟨_, rfl, p, 7, 4, rfl, hp1, by decide, by decide, by decide, by decide, fun W H2 rs nW k2 hp2 hW ok hl7 hS4 => ?_⟩
      have eWp : W ≠ p := pool_ne hp1 nW
      have l7 : rs.length ≤ 7 := by omega
      refine ⟨_, rfl, p, 8, rfl, hp2, by decide, by decide, fun r1 o1 r10 r11 po1 => ?_⟩
      have hp3 : PoolAt (upd H2 p o1) p := ⟨o1, upd_same, po1⟩
      have k13 : Kept p H1 (upd H2 p o1) := k2.trans (Kept.upd p H2 o1)
      have hW3 := hW.kept (Kept.upd p H2 o1) hp2 eWp
      refine ⟨_, _, rfl, rfl, ?_⟩
      have z1 : 1 ≤ 1 + r1 := by omega
      have z8 : 1 + r1 ≤ 8 := by omega
      generalize upd H2 p o1 = H3 at hp3 k13 hW3 ⊢
      refine ⟨_, rfl, _, rfl, W, rs, 1 + r1, rfl, hW3, ok, z1, z8, fun ms X L ad own H4 pw mem le s4 nL hT => ?_⟩
      have hp4 := hp3.same s4
      have hW4 := hW3.same s4
      have tgL4 := hT.tg hp3 nL
      obtain ⟨A, hA, hin⟩ := ok.all
      have m12 : ms.length ≤ 12 := by
        have := nodup_few (S := A) (pw.imp fun h => Int.ne_of_lt h) fun k hk => hin k ((mem k).mp hk)
        omega
      have okX := okTb_of le.clo.tok
      have lX := le.clo.tok.len
      obtain ⟨lets1, e0⟩ := letsB_least (by omega) le
      refine ⟨_, rfl, _, rfl, _, rfl, p, W, .ref L, .lst (tbT X), rs, 1 + r1, rfl, hW4, ok, tgL4, z1, z8, fun ms2 H5 pw2 mem2 s5 => ?_⟩
      have em : ms2 = ms := sorted_one pw2 pw fun k => (mem2 k).trans (mem k).symm
      subst em
      rw [lets1]
      have x1 : 1 ≤ X.length := (List.getElem?_eq_some_iff.mp e0).1
      have hp5 := hp4.same s5
      have k15 := (k13.trans (Kept.same s4)).trans (Kept.same s5)
      refine ⟨_, true, rfl, rfl, _, rfl, iteF ?_⟩
      refine ⟨_, rfl, _, rfl, _, rfl, _, rfl, p, .ref L, X, ms2.length, 1 + r1, rfl, hp5, tgL4.keep (Keeps.same s5), okX, x1, by omega, m12, by omega, by omega, fun v1 H6 X1 k6 hp6 t6 ok6 l6 z6 => ?_⟩
      refine ⟨_, rfl, _, rfl, _, rfl, p, .ref L, X, ms2.length, 1 + r1, rfl, hp6, (tgL4.keep (Keeps.same s5)).keep (Keeps.of k6 hp5), okX, x1, by omega, m12, by omega, by omega, fun v2 H7 X2 k7 hp7 t7 ok7 l7' z7 => ?_⟩
      refine ⟨(by show 3 ≤ sizeLine; decide), fun c nc => ?_⟩
      have hp8 := hp7.same (same_upd (o := .lst [V.ref L, v1, v2]) nc)
      have u8 : Same H7 (upd H7 c (.lst [V.ref L, v1, v2])) := same_upd nc
      have k57 : Kept p H5 (upd H7 c (.lst [V.ref L, v1, v2])) := (k6.trans k7).trans (Kept.same u8)
      have hW8 := (hW4.same s5).kept k57 hp5 eWp
      have tgL8 := (tgL4.keep (Keeps.same s5)).keep (Keeps.of k57 hp5)
      have t68 := (t6.keep (Keeps.of k7 hp6)).keep (Keeps.same u8)
      have t78 := t7.keep (Keeps.same u8)
      have k18 := k15.trans k57
      have ecp : c ≠ p := pool_ne hp7 nc
      have hc8 : (upd H7 c (.lst [V.ref L, v1, v2])) c = some (.lst [V.ref L, v1, v2]) := upd_same
      refine ⟨c, rfl, ⟨_, SqL.of hc8⟩, ?_⟩
      generalize upd H7 c (.lst [V.ref L, v1, v2]) = H8 at hp8 hW8 tgL8 t68 t78 k18 hc8 ⊢
      refine for_list (K := K) (a := c) (xs := [V.ref L, v1, v2]) (fun j σ H9 => ∃ y6 y7 y8 y9 y10 y11 : Option V, σ = [some (.ref a), some (.int (0 + (i : Int))), some (.ref p), some (.ref W), some (.int (1 + r1)), some (.ref L), y6, y7, y8, y9, y10, y11] ∧ PoolAt H9 p ∧ Kept p H8 H9) ?_ ?_ ?_ ?_
      · exact ⟨_, _, _, _, _, _, rfl, hp8, Kept.same (Same.refl _)⟩
      · rintro j σ H9 _ ⟨_, _, _, _, _, _, _, _, k9⟩
        exact SqL.of (k9 _ _ hc8 ecp)
      · rintro j vt σ H9 hv ⟨y6, y7, y8, y9, y10, y11, rfl, hp9, k9⟩
        obtain ⟨Y, tgv, okY, lY, e0Y⟩ : ∃ Y : Tb, Tg p H8 vt (.lst (tbT Y)) ∧ OkTb ms2.length (1 + r1) Y ∧ Y.length = X.length ∧ Y[0]? = X[0]? := by
          have := List.mem_of_getElem? hv
          simp only [List.mem_cons, List.not_mem_nil, or_false] at this
          rcases this with rfl | rfl | rfl
          · exact ⟨X, tgL8, okX, rfl, rfl⟩
          · exact ⟨X1, t68, ok6, l6, z6⟩
          · exact ⟨X2, t78, ok7, l7', z7⟩
        have tg9 := tgv.keep (Keeps.of k9 hp8)
        have hW9 := hW8.kept k9 hp8 eWp
        have y0 : Y[0]? = some (some (firstP ms2.length (1 + r1))) := e0Y.trans e0
        refine ⟨_, rfl, (by show 1 ≤ sizeLine; decide), fun c0 n0 => ?_⟩
        have u1 : Same H9 (upd H9 c0 (.lst [vt])) := same_upd n0
        have hpA := hp9.same u1
        have ec0p : c0 ≠ p := pool_ne hp9 n0
        refine ⟨8, rfl, by decide, by decide, fun D nD => ?_⟩
        have eDp : D ≠ p := pool_ne hpA nD
        have ec0D : c0 ≠ D := ne_of_none upd_same nD
        have hc0 : (upd H9 c0 (.lst [vt])) c0 = some (.lst [vt]) := upd_same
        have tgA := tg9.keep (Keeps.same u1)
        have hWA := hW9.same u1
        generalize upd H9 c0 (.lst [vt]) = HA at u1 hpA nD hc0 tgA hWA ⊢
        show ∃ W : Nat → Nat → Hp → Prop, _
        refine lc_range (lo := 0) (n := 8) (fun j H3 => ∃ ws gs, H3 D = some (.lst ws) ∧ TsL (fun b => b = p ∨ b = D) H3 ws gs ∧ gs.length = j ∧ (∀ g ∈ gs, ∃ l, g = .lst l ∧ l.length ≤ 8 ∧ ∀ x ∈ l, RowS x) ∧ PoolAt H3 p ∧ Kept p HA H3) ?_ ?_ ?_
        · exact ⟨[], [], upd_same, .nil, rfl, fun g h => (List.not_mem_nil h).elim, hpA.upd eDp.symm, Kept.same (same_upd nD)⟩
        · rintro j H3 hj ⟨ws, gs, hD3, tD3, lg, fg, hp3, k3⟩
          have ts3 : Ts (fun b => b = p ∨ b = D) H3 vt (.lst (tbT Y)) := (tgA.ts (fun b hb => hb.elim .inl fun e => .inr (e ▸ nD))).keep (KeepsB.kept k3 hpA (.inl rfl))
          have oc3 : Occ (fun b => b = p ∨ b = D) H3 := fun b hb z => by
            rcases hb with rfl | rfl
            · obtain ⟨o, eo, _⟩ := hp3
              rw [z] at eo
              cases eo
            · rw [z] at hD3
              cases hD3
          refine ⟨rfl, tyes ?_⟩
          refine ⟨_, rfl, _, rfl, _, rfl, p, fun b => b = p ∨ b = D, vt, Y, firstP ms2.length (1 + r1), ms2.length, 1 + r1, rfl, hp3, .inl rfl, oc3, ts3, okY, by omega, by omega, y0, m12, by omega, by omega, fun v' H' l k' hp' t' ll rl => ?_⟩
          have hD' := k' _ _ hD3 eDp
          refine ⟨ws, hD', ?_, ws ++ [v'], gs ++ [.lst l], upd_same, ((tD3.keep (KeepsB.kept k' hp3 (.inl rfl))).app (.cons t' .nil)).keep (KeepsB.upd hD' (.inr rfl)), by rw [List.length_append, lg]; rfl, fun g hg => ?_, hp'.upd eDp.symm, fun b o eb nb => ?_⟩
          · rw [tD3.len, lg]
            exact sz1000 (by omega)
          · rcases List.mem_append.mp hg with h | h
            · exact fg g h
            · rw [List.mem_singleton.mp h]
              exact ⟨l, rfl, by omega, rl⟩
          · rw [upd_ne (ne_of_none eb nD)]
            exact k' _ _ (k3 _ _ eb nb) nb
        · rintro H3 ⟨ws, gs, hD3, tD3, lg, fg, hp3, k3⟩
          refine ⟨c0, D, [vt], ws, rfl, rfl, k3 _ _ hc0 ec0p, hD3, ?_, fun d nd => ?_⟩
          · rw [tD3.len, lg]
            show 1 + 8 ≤ sizeLine
            decide
          have hp10 := hp3.same (same_upd (o := .lst ([vt] ++ ws)) nd)
          have u10 : Same H3 (upd H3 d (.lst ([vt] ++ ws))) := same_upd nd
          have kA10 : Kept p HA (upd H3 d (.lst ([vt] ++ ws))) := k3.trans (Kept.same u10)
          have tgd : Tg p (upd H3 d (.lst ([vt] ++ ws))) (.ref d) (.lst (.lst (tbT Y) :: gs)) := .lst (pool_ne hp3 nd) upd_same (.cons (tgA.keep (Keeps.of kA10 hpA)) ((tD3.keep (KeepsB.same u10)).tg (.inl rfl)))
          have tgt := tgA.keep (Keeps.of kA10 hpA)
          have hWB := hWA.kept kA10 hpA eWp
          generalize upd H3 d (.lst ([vt] ++ ws)) = HB at hp10 kA10 tgd tgt hWB ⊢
          dsimp only [gName, tSeq, tAsg]
          let σ1 : L2.St := [some (.ref a), some (.int (0 + (i : Int))), some (.ref p), some (.ref W), some (.int (1 + r1)), some (.ref L), some vt, some (.ref d), y8, y9, y10, y11]
          obtain ⟨wvs, eWB, rWB⟩ := hWB
          have wl := rWB.len
          have vlen : EOk p HB σ1 (tCB (rLenS K) (tCons (tVar 3) tNil)) (.int (rs.length : Nat)) := fun H Q hp s q => ⟨_, rfl, W, wvs, rfl, .inl (SqL.of (s _ _ eWB)), by rw [wl]; exact q _ H hp (Same.refl H) (.int _)⟩
          have vt1 : EOk p HB σ1 (tVar 6) (.lst (tbT Y)) := EOk.var rfl tgt
          have e2 := EOk.cat (EOk.var (σ := σ1) (i := 7) rfl tgd) (EOk.lst (EsOk.cons (EOk.rep (EOk.lst (EsOk.cons EOk.non EsOk.nil) (Nat.le_of_ble_eq_true rfl)) vlen (by omega)) (EsOk.cons (EOk.rep (EOk.lst (EsOk.cons (EOk.ixL (K := K) (i := 0) vt1 (by unfold tbT; rw [List.getElem?_map, y0]; rfl)) EsOk.nil) (Nat.le_of_ble_eq_true rfl)) vlen (by omega)) EsOk.nil)) (Nat.le_of_ble_eq_true rfl)) (by rw [List.length_cons, lg]; exact Nat.le_of_ble_eq_true rfl)
          refine e2 HB _ hp10 (Same.refl HB) (fun v7 HC hpC sC tC7 => ?_)
          have tgtC := tgt.keep (Keeps.same sC)
          let σ2 : L2.St := [some (.ref a), some (.int (0 + (i : Int))), some (.ref p), some (.ref W), some (.int (1 + r1)), some (.ref L), some vt, some v7, y8, y9, y10, y11]
          have e3 := EOk.cat (EOk.var (σ := σ2) (i := 7) rfl tC7) (EOk.lst (EsOk.cons EOk.non (EsOk.cons (EOk.tup EsOk.nil (Nat.zero_le _)) (EsOk.cons EOk.dct (EsOk.cons (EOk.tupOf (K := K) (EOk.var (i := 6) rfl tgtC)) (EsOk.cons (EOk.str (Str.ofString "ages")) EsOk.nil))))) (Nat.le_of_ble_eq_true rfl)) (by rw [List.length_append, List.length_cons, lg]; exact Nat.le_of_ble_eq_true rfl)
          have rY : ∀ x ∈ tbT Y, RowS x := rowS_tb okY m12 (by omega)
          have lY' : (tbT Y).length ≤ 7 := by unfold tbT; rw [List.length_map]; omega
          have tha : ∀ g ∈ (G.lst (tbT Y) :: gs ++ [.lst (List.replicate rs.length .non), .lst (List.replicate rs.length (cellT (some (firstP ms2.length (1 + r1)))))]) ++ [.non, .tup [], .dct, .tup (tbT Y), .str (Str.ofString "ages")], Thg g := fun g hg => by
            rcases List.mem_append.mp hg with h | h
            · rcases List.mem_append.mp h with h | h
              · rcases List.mem_cons.mp h with rfl | h
                · exact thg_lst rY (by omega)
                · obtain ⟨l, rfl, ll, rl⟩ := fg g h
                  exact thg_lst rl (by omega)
              · simp only [List.mem_cons, List.not_mem_nil, or_false] at h
                rcases h with rfl | rfl
                · exact thg_lst (fun x hx => by
                    rw [List.eq_of_mem_replicate hx]
                    exact (sm0_non.one (fun m h => by cases h)).row (fun l h => by cases h)) (by rw [List.length_replicate]; omega)
                · exact thg_lst (fun x hx => by
                    rw [List.eq_of_mem_replicate hx]
                    exact rowS_tb okY m12 (by omega) _ (List.mem_map.mpr ⟨_, List.mem_of_getElem? y0, rfl⟩)) (by rw [List.length_replicate]; omega)
            · simp only [List.mem_cons, List.not_mem_nil, or_false] at h
              rcases h with rfl | rfl | rfl | rfl | rfl
              · exact thg_non
              · exact thg_tup (fun x hx => (List.not_mem_nil hx).elim) (by decide)
              · exact thg_dct
              · exact thg_tup rY (by omega)
              · exact thg_ages
          refine e3 HC _ hpC (Same.refl HC) (fun vd HD hpD sD tD => ?_)
          obtain ⟨d2, dvs, rfl, nd2, ed2, td2⟩ := lst_at tD
          have hWD : WebAt HD W rs := (WebAt.same ⟨wvs, eWB, rWB⟩ sC).same sD
          refine ⟨d2, rfl, ⟨_, SqL.of ed2⟩, ?_⟩
          refine for_list (K := K) (a := d2) (xs := dvs) (fun i2 σ HE => ∃ y8 y9 y10 : Option V, σ = [some (.ref a), some (.int (0 + (i : Int))), some (.ref p), some (.ref W), some (.int (1 + r1)), some (.ref L), some vt, some v7, y8, y9, y10, y11] ∧ Same HD HE) ?_ ?_ ?_ ?_
          · exact ⟨_, _, _, rfl, Same.refl _⟩
          · rintro i2 σ HE _ ⟨_, _, _, _, sE⟩
            exact SqL.of (sE _ _ ed2)
          · rintro i2 v σ HE hv2 ⟨y8, y9, y10, rfl, sE⟩
            obtain ⟨g, eg, tg⟩ := td2.get hv2
            have th := tha g (List.mem_of_getElem? eg)
            have hpE := hpD.same sE
            have tgE := tg.keep (Keeps.same sE)
            have hWE := hWD.same sE
            refine ⟨_, rfl, _, rfl, (by show 2 ≤ sizeLine; decide), fun c1 n1 => ?_⟩
            have uF : Same HE (upd HE c1 (.lst [V.ref W, v])) := same_upd n1
            refine ⟨p, .ref c1, .lst [.lst (rs.map rowT), g], rfl, .lst (pool_ne hpE n1) upd_same (.cons ((tg_web hWE eWp).keep (Keeps.same uF)) (.cons (tgE.keep (Keeps.same uF)) .nil)), pair_shw ok l7 th, ?_⟩
            refine ⟨_, rfl, _, rfl, _, rfl, p, W, v, g, rs, 1 + r1, rfl, hWE.same uF, ok, tgE.keep (Keeps.same uF), z1, z8, fun ms3 HG pw3 mem3 sG => ?_⟩
            have em3 : ms3 = ms2 := sorted_one pw3 pw2 fun k => (mem3 k).trans (mem2 k).symm
            rw [em3]
            have sG' := uF.trans sG
            have tgG := (tgE.keep (Keeps.same uF)).keep (Keeps.same (p := p) sG)
            have hWG := (hWE.same uF).same sG
            have hpG := (hpE.same uF).same sG
            refine ⟨_, rfl, _, _, _, _, _, rfl, .ty _, (Tg.bl (p := p) (H := HG) _).ty, kit_bool (.bl _), _, rfl, iteF ?_⟩
            refine ⟨_, rfl, _, rfl, _, rfl, _, rfl, p, W, v, g, rs, 1 + r1, rfl, hWG, ok, tgG, th.tf, z1, z8, fun ms4 HI pw4 mem4 sI => ?_⟩
            have em4 : ms4 = ms2 := sorted_one pw4 pw2 fun k => (mem4 k).trans (mem2 k).symm
            rw [em4]
            generalize letsB ms2 (1 + r1) rs g = bb
            refine ⟨rfl, _, rfl, ?_⟩
            rw [bl_self]
            refine iteF ?_
            have tgI := tgG.keep (Keeps.same (p := p) sI)
            have hWI := hWG.same sI
            have hpI := hpG.same sI
            refine ⟨_, rfl, _, rfl, (by show 2 ≤ sizeLine; decide), fun c2 n2 => ?_⟩
            have uJ : Same HI (upd HI c2 (.lst [V.ref W, v])) := same_upd n2
            refine ⟨p, .ref c2, .lst [.lst (rs.map rowT), g], rfl, .lst (pool_ne hpI n2) upd_same (.cons ((tg_web hWI eWp).keep (Keeps.same uJ)) (.cons (tgI.keep (Keeps.same uJ)) .nil)), pair_shw ok l7 th, ?_⟩
            refine ⟨_, rfl, rfl, _, rfl, ?_⟩
            rw [str_self]
            refine iteF ?_
            exact ⟨_, _, _, rfl, ((sE.trans uF).trans sG).trans (sI.trans uJ)⟩
          · rintro σ HE ⟨y8, y9, y10, rfl, sE⟩
            exact ⟨_, _, _, _, _, _, rfl, hpD.same sE, k9.trans (((Kept.same u1).trans kA10).trans ((Kept.same sC).trans ((Kept.same sD).trans (Kept.same sE))))⟩
      · rintro σ H9 ⟨y6, y7, y8, y9, y10, y11, rfl, hp9, k9⟩
        have hW9 := hW8.kept k9 hp8 eWp
        refine ⟨_, rfl, _, rfl, W, rs, 4, rfl, hW9, ok, by decide, by decide, fun ms5 X5 L5 ad5 own5 HA pw5 mem5 le5 sA nL5 hT5 => ?_⟩
        obtain ⟨lets5, e05⟩ := letsB_least (by decide) le5
        refine ⟨p, W, .ref L5, .lst (tbT X5), rs, 4, rfl, hW9.same sA, ok, hT5.tg hp9 nL5, by decide, by decide, fun ms6 HB pw6 mem6 sB => ?_⟩
        have em6 : ms6 = ms5 := sorted_one pw6 pw5 fun k => (mem6 k).trans (mem5 k).symm
        rw [em6, lets5]
        refine ⟨_, true, rfl, rfl, _, rfl, iteF ?_⟩
        exact ⟨_, _, _, _, _, _, _, _, _, _, _, rfl, back ((k18.trans k9).trans (Kept.same (sA.trans sB)))⟩
    · rintro σ H2 ⟨y1, y2, y3, y4, y5, y6, y7, y8, y9, y10, y11, rfl, hS2⟩
      exact q _
end
end Su
namespace Su
open PySem PySem.Spec PyProof.Rows L2
theorem at_mk {K : PySem.W.Frag} {h : Heap} {mg : Str → Option Value} {x : Str} {st : Stmt} {f : Addr} {fd : FuncData} {ps : List Str} (X : K.In h) (G : h.Ns mainGlobals mg) (a : PySem.W.nsIn K mainGlobals x = some (some (.ref f))) (F : Fun K x x st f fd) (b : Binds K fd ps []) : At K mg x st ps :=
  ⟨f, fd, F, PySem.W.mg_of X G a, b⟩
theorem all_mk {l : PySem.W.OpenLaw} {w : World} {K : PySem.W.Frag} {h : Heap} {mg : Str → Option Value} {fa f1 f2 f3 f4 f5 f6 f7 f8 f9 f10 f11 f12 f13 f14 f15 f16 f17 f18 f19 f20 f21 f22 f23 f24 f25 f26 f27 f28 f29 f30 f31 f32 f33 f34 f35 f36 f37 f38 : Addr} {g1 g2 g3 g4 : Tok} {aW aZ : Addr} {u1 u2 u3 u4 u5 u6 u7 : Tok} {dW dZ : Option Addr} {nW nZ : Nat} {slW slZ : Array (Option Value)} {aD14 : Addr} {dD14 : Option Addr} {nD14 : Nat} {sD14 : Array (Option Value)} {tk14_0 : Tok} {aD19 : Addr} {dD19 : Option Addr} {nD19 : Nat} {sD19 : Array (Option Value)} {tk19_0 : Tok} (X : K.In h) (G : h.Ns mainGlobals mg) (hfa : mg "law" = some (.ref fa))
    {od1 an1 od2 an2 od3 an3 od4 an4 od5 an5 od6 an6 od7 an7 od8 an8 od9 an9 od10 an10 od11 an11 od12 an12 od13 an13 od14 an14 od15 an15 od16 an16 od17 an17 od18 an18 od19 an19 od20 an20 od21 an21 od22 an22 od23 an23 od24 an24 od25 an25 od26 an26 od27 an27 od28 an28 od29 an29 od30 an30 od31 an31 od32 an32 od33 an33 od34 an34 od35 an35 od36 an36 od37 an37 od38 an38 : Option Addr} {sl1 sl2 sl3 sl4 sl5 sl6 sl7 sl8 sl9 sl10 sl11 sl12 sl13 sl14 sl15 sl16 sl17 sl18 sl19 sl20 sl21 sl22 sl23 sl24 sl25 sl26 sl27 sl28 sl29 sl30 sl31 sl32 sl33 sl34 sl35 sl36 sl37 sl38 : Array (Option Value)} {oc1 kV1 dc1 pm1 cd1 ct1 oc2 kV2 dc2 pm2 cd2 ct2 oc3 kV3 dc3 pm3 cd3 ct3 oc4 kV4 dc4 pm4 cd4 ct4 oc5 kV5 dc5 pm5 cd5 ct5 oc6 kV6 dc6 pm6 cd6 ct6 oc7 kV7 dc7 pm7 cd7 ct7 oc8 kV8 dc8 pm8 cd8 ct8 oc9 kV9 dc9 pm9 cd9 ct9 oc10 kV10 dc10 pm10 cd10 ct10 oc11 kV11 dc11 pm11 cd11 ct11 oc12 kV12 dc12 pm12 cd12 ct12 oc13 kV13 dc13 pm13 cd13 ct13 oc14 kV14 dc14 pm14 cd14 ct14 oc15 kV15 dc15 pm15 cd15 ct15 oc16 kV16 dc16 pm16 cd16 ct16 oc17 kV17 dc17 pm17 cd17 ct17 oc18 kV18 dc18 pm18 cd18 ct18 oc19 kV19 dc19 pm19 cd19 ct19 oc20 kV20 dc20 pm20 cd20 ct20 oc21 kV21 dc21 pm21 cd21 ct21 oc22 kV22 dc22 pm22 cd22 ct22 oc23 kV23 dc23 pm23 cd23 ct23 oc24 kV24 dc24 pm24 cd24 ct24 oc25 kV25 dc25 pm25 cd25 ct25 oc26 kV26 dc26 pm26 cd26 ct26 oc27 kV27 dc27 pm27 cd27 ct27 oc28 kV28 dc28 pm28 cd28 ct28 oc29 kV29 dc29 pm29 cd29 ct29 oc30 kV30 dc30 pm30 cd30 ct30 oc31 kV31 dc31 pm31 cd31 ct31 oc32 kV32 dc32 pm32 cd32 ct32 oc33 kV33 dc33 pm33 cd33 ct33 oc34 kV34 dc34 pm34 cd34 ct34 oc35 kV35 dc35 pm35 cd35 ct35 oc36 kV36 dc36 pm36 cd36 ct36 oc37 kV37 dc37 pm37 cd37 ct37 oc38 kV38 dc38 pm38 cd38 ct38 : Value}
    (a1 : PySem.W.nsIn K mainGlobals "is_whole" = some (some (.ref f1))) (l1 : K.lookup f1 = some ⟨oc1, od1, .func (PySem.W.fnOf "is_whole" "is_whole" (defArgs s_is_whole) (defBody s_is_whole) (defScope s_is_whole) .none kV1 dc1 pm1 an1 cd1 ct1), sl1⟩) (c1 : PySem.W.codeIn K cd1 "is_whole" = true) (k1 : PySem.W.keepIn K (.ref f1) = true)
    (a2 : PySem.W.nsIn K mainGlobals "is_room" = some (some (.ref f2))) (l2 : K.lookup f2 = some ⟨oc2, od2, .func (PySem.W.fnOf "is_room" "is_room" (defArgs s_is_room) (defBody s_is_room) (defScope s_is_room) .none kV2 dc2 pm2 an2 cd2 ct2), sl2⟩) (c2 : PySem.W.codeIn K cd2 "is_room" = true) (k2 : PySem.W.keepIn K (.ref f2) = true)
    (a3 : PySem.W.nsIn K mainGlobals "are_rising" = some (some (.ref f3))) (l3 : K.lookup f3 = some ⟨oc3, od3, .func (PySem.W.fnOf "are_rising" "are_rising" (defArgs s_are_rising) (defBody s_are_rising) (defScope s_are_rising) .none kV3 dc3 pm3 an3 cd3 ct3), sl3⟩) (c3 : PySem.W.codeIn K cd3 "are_rising" = true) (k3 : PySem.W.keepIn K (.ref f3) = true)
    (a4 : PySem.W.nsIn K mainGlobals "are_rooms" = some (some (.ref f4))) (l4 : K.lookup f4 = some ⟨oc4, od4, .func (PySem.W.fnOf "are_rooms" "are_rooms" (defArgs s_are_rooms) (defBody s_are_rooms) (defScope s_are_rooms) .none kV4 dc4 pm4 an4 cd4 ct4), sl4⟩) (c4 : PySem.W.codeIn K cd4 "are_rooms" = true) (k4 : PySem.W.keepIn K (.ref f4) = true)
    (a5 : PySem.W.nsIn K mainGlobals "is_way" = some (some (.ref f5))) (l5 : K.lookup f5 = some ⟨oc5, od5, .func (PySem.W.fnOf "is_way" "is_way" (defArgs s_is_way) (defBody s_is_way) (defScope s_is_way) .none kV5 dc5 pm5 an5 cd5 ct5), sl5⟩) (c5 : PySem.W.codeIn K cd5 "is_way" = true) (k5 : PySem.W.keepIn K (.ref f5) = true)
    (a6 : PySem.W.nsIn K mainGlobals "is_size" = some (some (.ref f6))) (l6 : K.lookup f6 = some ⟨oc6, od6, .func (PySem.W.fnOf "is_size" "is_size" (defArgs s_is_size) (defBody s_is_size) (defScope s_is_size) .none kV6 dc6 pm6 an6 cd6 ct6), sl6⟩) (c6 : PySem.W.codeIn K cd6 "is_size" = true) (k6 : PySem.W.keepIn K (.ref f6) = true)
    (a7 : PySem.W.nsIn K mainGlobals "how_many_bits" = some (some (.ref f7))) (l7 : K.lookup f7 = some ⟨oc7, od7, .func (PySem.W.fnOf "how_many_bits" "how_many_bits" (defArgs s_how_many_bits) (defBody s_how_many_bits) (defScope s_how_many_bits) .none kV7 dc7 pm7 an7 cd7 ct7), sl7⟩) (c7 : PySem.W.codeIn K cd7 "how_many_bits" = true) (k7 : PySem.W.keepIn K (.ref f7) = true)
    (a8 : PySem.W.nsIn K mainGlobals "wrong_part" = some (some (.ref f8))) (l8 : K.lookup f8 = some ⟨oc8, od8, .func (PySem.W.fnOf "wrong_part" "wrong_part" (defArgs s_wrong_part) (defBody s_wrong_part) (defScope s_wrong_part) .none kV8 dc8 pm8 an8 cd8 ct8), sl8⟩) (c8 : PySem.W.codeIn K cd8 "wrong_part" = true) (k8 : PySem.W.keepIn K (.ref f8) = true)
    (a9 : PySem.W.nsIn K mainGlobals "look_at_kind" = some (some (.ref f9))) (l9 : K.lookup f9 = some ⟨oc9, od9, .func (PySem.W.fnOf "look_at_kind" "look_at_kind" (defArgs s_look_at_kind) (defBody s_look_at_kind) (defScope s_look_at_kind) .none kV9 dc9 pm9 an9 cd9 ct9), sl9⟩) (c9 : PySem.W.codeIn K cd9 "look_at_kind" = true) (k9 : PySem.W.keepIn K (.ref f9) = true)
    (a10 : PySem.W.nsIn K mainGlobals "are_tos" = some (some (.ref f10))) (l10 : K.lookup f10 = some ⟨oc10, od10, .func (PySem.W.fnOf "are_tos" "are_tos" (defArgs s_are_tos) (defBody s_are_tos) (defScope s_are_tos) .none kV10 dc10 pm10 an10 cd10 ct10), sl10⟩) (c10 : PySem.W.codeIn K cd10 "are_tos" = true) (k10 : PySem.W.keepIn K (.ref f10) = true)
    (a11 : PySem.W.nsIn K mainGlobals "is_row" = some (some (.ref f11))) (l11 : K.lookup f11 = some ⟨oc11, od11, .func (PySem.W.fnOf "is_row" "is_row" (defArgs s_is_row) (defBody s_is_row) (defScope s_is_row) .none kV11 dc11 pm11 an11 cd11 ct11), sl11⟩) (c11 : PySem.W.codeIn K cd11 "is_row" = true) (k11 : PySem.W.keepIn K (.ref f11) = true)
    (a12 : PySem.W.nsIn K mainGlobals "rooms_in" = some (some (.ref f12))) (l12 : K.lookup f12 = some ⟨oc12, od12, .func (PySem.W.fnOf "rooms_in" "rooms_in" (defArgs s_rooms_in) (defBody s_rooms_in) (defScope s_rooms_in) .none kV12 dc12 pm12 an12 cd12 ct12), sl12⟩) (c12 : PySem.W.codeIn K cd12 "rooms_in" = true) (k12 : PySem.W.keepIn K (.ref f12) = true)
    (a13 : PySem.W.nsIn K mainGlobals "look_at_web" = some (some (.ref f13))) (l13 : K.lookup f13 = some ⟨oc13, od13, .func (PySem.W.fnOf "look_at_web" "look_at_web" (defArgs s_look_at_web) (defBody s_look_at_web) (defScope s_look_at_web) .none kV13 dc13 pm13 an13 cd13 ct13), sl13⟩) (c13 : PySem.W.codeIn K cd13 "look_at_web" = true) (k13 : PySem.W.keepIn K (.ref f13) = true)
    (a14 : PySem.W.nsIn K mainGlobals "ages" = some (some (.ref f14))) (l14 : K.lookup f14 = some ⟨oc14, od14, .func (PySem.W.fnOf "ages" "ages" (defArgs s_ages) (defBody s_ages) (defScope s_ages) (.ref aD14) kV14 dc14 pm14 an14 cd14 ct14), sl14⟩) (c14 : PySem.W.codeIn K cd14 "ages" = true) (k14 : PySem.W.keepIn K (.ref f14) = true)
    (a15 : PySem.W.nsIn K mainGlobals "first_ages" = some (some (.ref f15))) (l15 : K.lookup f15 = some ⟨oc15, od15, .func (PySem.W.fnOf "first_ages" "first_ages" (defArgs s_first_ages) (defBody s_first_ages) (defScope s_first_ages) .none kV15 dc15 pm15 an15 cd15 ct15), sl15⟩) (c15 : PySem.W.codeIn K cd15 "first_ages" = true) (k15 : PySem.W.keepIn K (.ref f15) = true)
    (a16 : PySem.W.nsIn K mainGlobals "joined_ages" = some (some (.ref f16))) (l16 : K.lookup f16 = some ⟨oc16, od16, .func (PySem.W.fnOf "joined_ages" "joined_ages" (defArgs s_joined_ages) (defBody s_joined_ages) (defScope s_joined_ages) .none kV16 dc16 pm16 an16 cd16 ct16), sl16⟩) (c16 : PySem.W.codeIn K cd16 "joined_ages" = true) (k16 : PySem.W.keepIn K (.ref f16) = true)
    (a17 : PySem.W.nsIn K mainGlobals "behind_ask" = some (some (.ref f17))) (l17 : K.lookup f17 = some ⟨oc17, od17, .func (PySem.W.fnOf "behind_ask" "behind_ask" (defArgs s_behind_ask) (defBody s_behind_ask) (defScope s_behind_ask) .none kV17 dc17 pm17 an17 cd17 ct17), sl17⟩) (c17 : PySem.W.codeIn K cd17 "behind_ask" = true) (k17 : PySem.W.keepIn K (.ref f17) = true)
    (a18 : PySem.W.nsIn K mainGlobals "behind_row" = some (some (.ref f18))) (l18 : K.lookup f18 = some ⟨oc18, od18, .func (PySem.W.fnOf "behind_row" "behind_row" (defArgs s_behind_row) (defBody s_behind_row) (defScope s_behind_row) .none kV18 dc18 pm18 an18 cd18 ct18), sl18⟩) (c18 : PySem.W.codeIn K cd18 "behind_row" = true) (k18 : PySem.W.keepIn K (.ref f18) = true)
    (a19 : PySem.W.nsIn K mainGlobals "lets_ages" = some (some (.ref f19))) (l19 : K.lookup f19 = some ⟨oc19, od19, .func (PySem.W.fnOf "lets_ages" "lets_ages" (defArgs s_lets_ages) (defBody s_lets_ages) (defScope s_lets_ages) (.ref aD19) kV19 dc19 pm19 an19 cd19 ct19), sl19⟩) (c19 : PySem.W.codeIn K cd19 "lets_ages" = true) (k19 : PySem.W.keepIn K (.ref f19) = true)
    (a20 : PySem.W.nsIn K mainGlobals "are_ages" = some (some (.ref f20))) (l20 : K.lookup f20 = some ⟨oc20, od20, .func (PySem.W.fnOf "are_ages" "are_ages" (defArgs s_are_ages) (defBody s_are_ages) (defScope s_are_ages) .none kV20 dc20 pm20 an20 cd20 ct20), sl20⟩) (c20 : PySem.W.codeIn K cd20 "are_ages" = true) (k20 : PySem.W.keepIn K (.ref f20) = true)
    (a21 : PySem.W.nsIn K mainGlobals "is_list_of_ages" = some (some (.ref f21))) (l21 : K.lookup f21 = some ⟨oc21, od21, .func (PySem.W.fnOf "is_list_of_ages" "is_list_of_ages" (defArgs s_is_list_of_ages) (defBody s_is_list_of_ages) (defScope s_is_list_of_ages) .none kV21 dc21 pm21 an21 cd21 ct21), sl21⟩) (c21 : PySem.W.codeIn K cd21 "is_list_of_ages" = true) (k21 : PySem.W.keepIn K (.ref f21) = true)
    (a22 : PySem.W.nsIn K mainGlobals "allows" = some (some (.ref f22))) (l22 : K.lookup f22 = some ⟨oc22, od22, .func (PySem.W.fnOf "allows" "allows" (defArgs s_allows) (defBody s_allows) (defScope s_allows) .none kV22 dc22 pm22 an22 cd22 ct22), sl22⟩) (c22 : PySem.W.codeIn K cd22 "allows" = true) (k22 : PySem.W.keepIn K (.ref f22) = true)
    (a23 : PySem.W.nsIn K mainGlobals "_law_pool" = some (some (.ref f23))) (l23 : K.lookup f23 = some ⟨oc23, od23, .func (PySem.W.fnOf "_law_pool" "_law_pool" (defArgs s_law_pool) (defBody s_law_pool) (defScope s_law_pool) .none kV23 dc23 pm23 an23 cd23 ct23), sl23⟩) (c23 : PySem.W.codeIn K cd23 "_law_pool" = true) (k23 : PySem.W.keepIn K (.ref f23) = true)
    (a24 : PySem.W.nsIn K mainGlobals "_law_take" = some (some (.ref f24))) (l24 : K.lookup f24 = some ⟨oc24, od24, .func (PySem.W.fnOf "_law_take" "_law_take" (defArgs s_law_take) (defBody s_law_take) (defScope s_law_take) .none kV24 dc24 pm24 an24 cd24 ct24), sl24⟩) (c24 : PySem.W.codeIn K cd24 "_law_take" = true) (k24 : PySem.W.keepIn K (.ref f24) = true)
    (a25 : PySem.W.nsIn K mainGlobals "_law_picked" = some (some (.ref f25))) (l25 : K.lookup f25 = some ⟨oc25, od25, .func (PySem.W.fnOf "_law_picked" "_law_picked" (defArgs s_law_picked) (defBody s_law_picked) (defScope s_law_picked) .none kV25 dc25 pm25 an25 cd25 ct25), sl25⟩) (c25 : PySem.W.codeIn K cd25 "_law_picked" = true) (k25 : PySem.W.keepIn K (.ref f25) = true)
    (a26 : PySem.W.nsIn K mainGlobals "_law_tos" = some (some (.ref f26))) (l26 : K.lookup f26 = some ⟨oc26, od26, .func (PySem.W.fnOf "_law_tos" "_law_tos" (defArgs s_law_tos) (defBody s_law_tos) (defScope s_law_tos) .none kV26 dc26 pm26 an26 cd26 ct26), sl26⟩) (c26 : PySem.W.codeIn K cd26 "_law_tos" = true) (k26 : PySem.W.keepIn K (.ref f26) = true)
    (a27 : PySem.W.nsIn K mainGlobals "_law_web" = some (some (.ref f27))) (l27 : K.lookup f27 = some ⟨oc27, od27, .func (PySem.W.fnOf "_law_web" "_law_web" (defArgs s_law_web) (defBody s_law_web) (defScope s_law_web) .none kV27 dc27 pm27 an27 cd27 ct27), sl27⟩) (c27 : PySem.W.codeIn K cd27 "_law_web" = true) (k27 : PySem.W.keepIn K (.ref f27) = true)
    (a28 : PySem.W.nsIn K mainGlobals "_law_web_rooms" = some (some (.ref f28))) (l28 : K.lookup f28 = some ⟨oc28, od28, .func (PySem.W.fnOf "_law_web_rooms" "_law_web_rooms" (defArgs s_law_web_rooms) (defBody s_law_web_rooms) (defScope s_law_web_rooms) .none kV28 dc28 pm28 an28 cd28 ct28), sl28⟩) (c28 : PySem.W.codeIn K cd28 "_law_web_rooms" = true) (k28 : PySem.W.keepIn K (.ref f28) = true)
    (a29 : PySem.W.nsIn K mainGlobals "_law_aged" = some (some (.ref f29))) (l29 : K.lookup f29 = some ⟨oc29, od29, .func (PySem.W.fnOf "_law_aged" "_law_aged" (defArgs s_law_aged) (defBody s_law_aged) (defScope s_law_aged) .none kV29 dc29 pm29 an29 cd29 ct29), sl29⟩) (c29 : PySem.W.codeIn K cd29 "_law_aged" = true) (k29 : PySem.W.keepIn K (.ref f29) = true)
    (a30 : PySem.W.nsIn K mainGlobals "_law_both_ages" = some (some (.ref f30))) (l30 : K.lookup f30 = some ⟨oc30, od30, .func (PySem.W.fnOf "_law_both_ages" "_law_both_ages" (defArgs s_law_both_ages) (defBody s_law_both_ages) (defScope s_law_both_ages) .none kV30 dc30 pm30 an30 cd30 ct30), sl30⟩) (c30 : PySem.W.codeIn K cd30 "_law_both_ages" = true) (k30 : PySem.W.keepIn K (.ref f30) = true)
    (a31 : PySem.W.nsIn K mainGlobals "_law_behind" = some (some (.ref f31))) (l31 : K.lookup f31 = some ⟨oc31, od31, .func (PySem.W.fnOf "_law_behind" "_law_behind" (defArgs s_law_behind) (defBody s_law_behind) (defScope s_law_behind) .none kV31 dc31 pm31 an31 cd31 ct31), sl31⟩) (c31 : PySem.W.codeIn K cd31 "_law_behind" = true) (k31 : PySem.W.keepIn K (.ref f31) = true)
    (a32 : PySem.W.nsIn K mainGlobals "_law_numbers_so" = some (some (.ref f32))) (l32 : K.lookup f32 = some ⟨oc32, od32, .func (PySem.W.fnOf "_law_numbers_so" "_law_numbers_so" (defArgs s_law_numbers_so) (defBody s_law_numbers_so) (defScope s_law_numbers_so) .none kV32 dc32 pm32 an32 cd32 ct32), sl32⟩) (c32 : PySem.W.codeIn K cd32 "_law_numbers_so" = true) (k32 : PySem.W.keepIn K (.ref f32) = true)
    (a33 : PySem.W.nsIn K mainGlobals "_law_row_so" = some (some (.ref f33))) (l33 : K.lookup f33 = some ⟨oc33, od33, .func (PySem.W.fnOf "_law_row_so" "_law_row_so" (defArgs s_law_row_so) (defBody s_law_row_so) (defScope s_law_row_so) .none kV33 dc33 pm33 an33 cd33 ct33), sl33⟩) (c33 : PySem.W.codeIn K cd33 "_law_row_so" = true) (k33 : PySem.W.keepIn K (.ref f33) = true)
    (a34 : PySem.W.nsIn K mainGlobals "_law_due" = some (some (.ref f34))) (l34 : K.lookup f34 = some ⟨oc34, od34, .func (PySem.W.fnOf "_law_due" "_law_due" (defArgs s_law_due) (defBody s_law_due) (defScope s_law_due) .none kV34 dc34 pm34 an34 cd34 ct34), sl34⟩) (c34 : PySem.W.codeIn K cd34 "_law_due" = true) (k34 : PySem.W.keepIn K (.ref f34) = true)
    (a35 : PySem.W.nsIn K mainGlobals "_law_wider" = some (some (.ref f35))) (l35 : K.lookup f35 = some ⟨oc35, od35, .func (PySem.W.fnOf "_law_wider" "_law_wider" (defArgs s_law_wider) (defBody s_law_wider) (defScope s_law_wider) .none kV35 dc35 pm35 an35 cd35 ct35), sl35⟩) (c35 : PySem.W.codeIn K cd35 "_law_wider" = true) (k35 : PySem.W.keepIn K (.ref f35) = true)
    (a36 : PySem.W.nsIn K mainGlobals "_law_bent_row" = some (some (.ref f36))) (l36 : K.lookup f36 = some ⟨oc36, od36, .func (PySem.W.fnOf "_law_bent_row" "_law_bent_row" (defArgs s_law_bent_row) (defBody s_law_bent_row) (defScope s_law_bent_row) .none kV36 dc36 pm36 an36 cd36 ct36), sl36⟩) (c36 : PySem.W.codeIn K cd36 "_law_bent_row" = true) (k36 : PySem.W.keepIn K (.ref f36) = true)
    (a37 : PySem.W.nsIn K mainGlobals "_law_bent" = some (some (.ref f37))) (l37 : K.lookup f37 = some ⟨oc37, od37, .func (PySem.W.fnOf "_law_bent" "_law_bent" (defArgs s_law_bent) (defBody s_law_bent) (defScope s_law_bent) .none kV37 dc37 pm37 an37 cd37 ct37), sl37⟩) (c37 : PySem.W.codeIn K cd37 "_law_bent" = true) (k37 : PySem.W.keepIn K (.ref f37) = true)
    (a38 : PySem.W.nsIn K mainGlobals "law" = some (some (.ref f38))) (l38 : K.lookup f38 = some ⟨oc38, od38, .func (PySem.W.fnOf "law" "law" (defArgs s_law) (defBody s_law) (defScope s_law) .none kV38 dc38 pm38 an38 cd38 ct38), sl38⟩) (c38 : PySem.W.codeIn K cd38 "law" = true) (k38 : PySem.W.keepIn K (.ref f38) = true)
    (m1 : PySem.W.nsIn K mainGlobals "LAST_ROOM" = some (some (.int 99 g1)))
    (m2 : PySem.W.nsIn K mainGlobals "MOST_ROWS" = some (some (.int 80 g2)))
    (m3 : PySem.W.nsIn K mainGlobals "MOST_ROOMS" = some (some (.int 12 g3)))
    (m4 : PySem.W.nsIn K mainGlobals "MOST_SLOTS" = some (some (.int 8 g4)))
    (w1 : PySem.W.nsIn K mainGlobals "WAYS" = some (some (.ref aW)))
    (w2 : K.lookup aW = some ⟨.type "tuple", dW, .seq #[.str "last" u1, .str "first" u2, .str "tree" u3] nW, slW⟩)
    (w3 : PySem.W.nsIn K mainGlobals "TREE_SIZES" = some (some (.ref aZ)))
    (w4 : K.lookup aZ = some ⟨.type "tuple", dZ, .seq #[.int 1 u4, .int 2 u5, .int 4 u6, .int 8 u7] nZ, slZ⟩)
    (q14 : K.lookup aD14 = some ⟨.type "tuple", dD14, .seq #[.int 4 tk14_0] nD14, sD14⟩)
    (q19 : K.lookup aD19 = some ⟨.type "tuple", dD19, .seq #[.int 4 tk19_0] nD19, sD19⟩)
    (z1 : PySem.W.nsIn K mainGlobals "len" = some none) (z2 : PySem.W.nsIn K mainGlobals "sum" = some none) (z3 : PySem.W.nsIn K mainGlobals "abs" = some none) (z4 : PySem.W.nsIn K mainGlobals "int" = some none) (z5 : PySem.W.nsIn K mainGlobals "min" = some none) (z6 : PySem.W.nsIn K mainGlobals "max" = some none) (z7 : PySem.W.nsIn K mainGlobals "range" = some none) (z8 : PySem.W.nsIn K mainGlobals "sorted" = some none) (z9 : PySem.W.nsIn K mainGlobals "list" = some none) (z10 : PySem.W.nsIn K mainGlobals "tuple" = some none) (z11 : PySem.W.nsIn K mainGlobals "repr" = some none) (z12 : PySem.W.nsIn K mainGlobals "set" = some none) (z13 : PySem.W.nsIn K mainGlobals "all" = some none) (z14 : PySem.W.nsIn K mainGlobals "isinstance" = some none) (z15 : PySem.W.nsIn K mainGlobals "str" = some none) (z16 : PySem.W.nsIn K mainGlobals "bool" = some none) (z17 : PySem.W.nsIn K mainGlobals "reversed" = some none) (z18 : PySem.W.nsIn K mainGlobals "enumerate" = some none) (z19 : PySem.W.nsIn K mainGlobals "zip" = some none) (z20 : PySem.W.nsIn K mainGlobals "any" = some none) (z21 : PySem.W.nsIn K mainGlobals "dict" = some none) :
    ∃ fd : FuncData, (∀ (s : Shared) (v : Value), BindsTo s fd ⟨[v], []⟩ [("_law_script", v)]) ∧ ∀ base : Heap, K.In base → base.Ns mainGlobals mg → FnG l.prog w K mg base CX0 8 fa fd ["_law_script"] (spLaw K) := by
  have e := hfa.symm.trans (PySem.W.mg_of X G a38)
  cases e
  have B : Bt mg := ⟨PySem.W.mg_none_of X G z1, PySem.W.mg_none_of X G z2, PySem.W.mg_none_of X G z3, PySem.W.mg_none_of X G z4, PySem.W.mg_none_of X G z5, PySem.W.mg_none_of X G z6, PySem.W.mg_none_of X G z7, PySem.W.mg_none_of X G z8, PySem.W.mg_none_of X G z9, PySem.W.mg_none_of X G z10, PySem.W.mg_none_of X G z11, PySem.W.mg_none_of X G z12, PySem.W.mg_none_of X G z13, PySem.W.mg_none_of X G z14, PySem.W.mg_none_of X G z15, PySem.W.mg_none_of X G z16, PySem.W.mg_none_of X G z17, PySem.W.mg_none_of X G z18, PySem.W.mg_none_of X G z19, PySem.W.mg_none_of X G z20, PySem.W.mg_none_of X G z21⟩
  have F1 := fun_mk (st := s_is_whole) l1 c1 k1
  have b1 := F1.binds (ps := ["thing"]) fun _ _ _ _ _ _ us hl => match us, hl with | [_], _ => rfl
  have T1 := at_mk X G a1 F1 b1
  have F2 := fun_mk (st := s_is_room) l2 c2 k2
  have b2 := F2.binds (ps := ["thing"]) fun _ _ _ _ _ _ us hl => match us, hl with | [_], _ => rfl
  have T2 := at_mk X G a2 F2 b2
  have F3 := fun_mk (st := s_are_rising) l3 c3 k3
  have b3 := F3.binds (ps := ["numbers"]) fun _ _ _ _ _ _ us hl => match us, hl with | [_], _ => rfl
  have T3 := at_mk X G a3 F3 b3
  have F4 := fun_mk (st := s_are_rooms) l4 c4 k4
  have b4 := F4.binds (ps := ["thing", "least", "most"]) fun _ _ _ _ _ _ us hl => match us, hl with | [_, _, _], _ => rfl
  have T4 := at_mk X G a4 F4 b4
  have F5 := fun_mk (st := s_is_way) l5 c5 k5
  have b5 := F5.binds (ps := ["thing"]) fun _ _ _ _ _ _ us hl => match us, hl with | [_], _ => rfl
  have T5 := at_mk X G a5 F5 b5
  have F6 := fun_mk (st := s_is_size) l6 c6 k6
  have b6 := F6.binds (ps := ["thing", "way"]) fun _ _ _ _ _ _ us hl => match us, hl with | [_, _], _ => rfl
  have T6 := at_mk X G a6 F6 b6
  have F7 := fun_mk (st := s_how_many_bits) l7 c7 k7
  have b7 := F7.binds (ps := ["size", "way"]) fun _ _ _ _ _ _ us hl => match us, hl with | [_, _], _ => rfl
  have T7 := at_mk X G a7 F7 b7
  have F8 := fun_mk (st := s_wrong_part) l8 c8 k8
  have b8 := F8.binds (ps := ["size", "way", "slots", "bits"]) fun _ _ _ _ _ _ us hl => match us, hl with | [_, _, _, _], _ => rfl
  have T8 := at_mk X G a8 F8 b8
  have F9 := fun_mk (st := s_look_at_kind) l9 c9 k9
  have b9 := F9.binds (ps := ["size", "way"]) fun _ _ _ _ _ _ us hl => match us, hl with | [_, _], _ => rfl
  have T9 := at_mk X G a9 F9 b9
  have F10 := fun_mk (st := s_are_tos) l10 c10 k10
  have b10 := F10.binds (ps := ["thing", "rows"]) fun _ _ _ _ _ _ us hl => match us, hl with | [_, _], _ => rfl
  have T10 := at_mk X G a10 F10 b10
  have F11 := fun_mk (st := s_is_row) l11 c11 k11
  have b11 := F11.binds (ps := ["thing", "rows"]) fun _ _ _ _ _ _ us hl => match us, hl with | [_, _], _ => rfl
  have T11 := at_mk X G a11 F11 b11
  have F12 := fun_mk (st := s_rooms_in) l12 c12 k12
  have b12 := F12.binds (ps := ["rows"]) fun _ _ _ _ _ _ us hl => match us, hl with | [_], _ => rfl
  have T12 := at_mk X G a12 F12 b12
  have F13 := fun_mk (st := s_look_at_web) l13 c13 k13
  have b13 := F13.binds (ps := ["thing"]) fun _ _ _ _ _ _ us hl => match us, hl with | [_], _ => rfl
  have T13 := at_mk X G a13 F13 b13
  have F14 : FunD K "ages" "ages" (defArgs s_ages) (defBody s_ages) (defScope s_ages) [.int 4] [] f14 _ := ⟨⟨oc14, od14, _, kV14, dc14, pm14, an14, cd14, ct14, sl14, rfl, l14, c14, .inr ⟨by simp, aD14, _, [.int 4 tk14_0], nD14, rfl, q14, rfl, .cons ⟨_, rfl⟩ (.nil)⟩, .inl rfl⟩, k14⟩
  have T14 : AtD K mg "ages" s_ages ["web", "size"] [.int 4] := by
    refine ⟨f14, _, F14, PySem.W.mg_of X G a14, fun j hj => ?_⟩
    by_cases e0 : j = 0
    · subst e0
      exact F14.binds1 (ps := ["web", "size"]) 1 0 (by simp) rfl fun T kV doc pm an cdv ct us its hu hi => match us, its, hu, hi with | [_], [_], _, _ => ⟨_, rfl, rfl⟩
    by_cases e1 : j = 1
    · subst e1
      exact F14.binds1 (ps := ["web", "size"]) 2 1 (by simp) rfl fun T kV doc pm an cdv ct us its hu hi => match us, its, hu, hi with | [_, _], [_], _, _ => ⟨_, rfl, rfl⟩
    exact absurd (show j ≤ 1 from hj) (by omega)
  have F15 := fun_mk (st := s_first_ages) l15 c15 k15
  have b15 := F15.binds (ps := ["rooms", "size"]) fun _ _ _ _ _ _ us hl => match us, hl with | [_, _], _ => rfl
  have T15 := at_mk X G a15 F15 b15
  have F16 := fun_mk (st := s_joined_ages) l16 c16 k16
  have b16 := F16.binds (ps := ["one", "other"]) fun _ _ _ _ _ _ us hl => match us, hl with | [_, _], _ => rfl
  have T16 := at_mk X G a16 F16 b16
  have F17 := fun_mk (st := s_behind_ask) l17 c17 k17
  have b17 := F17.binds (ps := ["pair", "place", "size"]) fun _ _ _ _ _ _ us hl => match us, hl with | [_, _, _], _ => rfl
  have T17 := at_mk X G a17 F17 b17
  have F18 := fun_mk (st := s_behind_row) l18 c18 k18
  have b18 := F18.binds (ps := ["pair", "asks", "rooms", "size"]) fun _ _ _ _ _ _ us hl => match us, hl with | [_, _, _, _], _ => rfl
  have T18 := at_mk X G a18 F18 b18
  have F19 : FunD K "lets_ages" "lets_ages" (defArgs s_lets_ages) (defBody s_lets_ages) (defScope s_lets_ages) [.int 4] [] f19 _ := ⟨⟨oc19, od19, _, kV19, dc19, pm19, an19, cd19, ct19, sl19, rfl, l19, c19, .inr ⟨by simp, aD19, _, [.int 4 tk19_0], nD19, rfl, q19, rfl, .cons ⟨_, rfl⟩ (.nil)⟩, .inl rfl⟩, k19⟩
  have T19 : AtD K mg "lets_ages" s_lets_ages ["web", "thing", "size"] [.int 4] := by
    refine ⟨f19, _, F19, PySem.W.mg_of X G a19, fun j hj => ?_⟩
    by_cases e0 : j = 0
    · subst e0
      exact F19.binds1 (ps := ["web", "thing", "size"]) 2 0 (by simp) rfl fun T kV doc pm an cdv ct us its hu hi => match us, its, hu, hi with | [_, _], [_], _, _ => ⟨_, rfl, rfl⟩
    by_cases e1 : j = 1
    · subst e1
      exact F19.binds1 (ps := ["web", "thing", "size"]) 3 1 (by simp) rfl fun T kV doc pm an cdv ct us its hu hi => match us, its, hu, hi with | [_, _, _], [_], _, _ => ⟨_, rfl, rfl⟩
    exact absurd (show j ≤ 1 from hj) (by omega)
  have F20 := fun_mk (st := s_are_ages) l20 c20 k20
  have b20 := F20.binds (ps := ["thing", "rooms", "size"]) fun _ _ _ _ _ _ us hl => match us, hl with | [_, _, _], _ => rfl
  have T20 := at_mk X G a20 F20 b20
  have F21 := fun_mk (st := s_is_list_of_ages) l21 c21 k21
  have b21 := F21.binds (ps := ["thing", "many", "size"]) fun _ _ _ _ _ _ us hl => match us, hl with | [_, _, _], _ => rfl
  have T21 := at_mk X G a21 F21 b21
  have F22 := fun_mk (st := s_allows) l22 c22 k22
  have b22 := F22.binds (ps := ["pair", "come"]) fun _ _ _ _ _ _ us hl => match us, hl with | [_, _], _ => rfl
  have T22 := at_mk X G a22 F22 b22
  have F23 := fun_mk (st := s_law_pool) l23 c23 k23
  have b23 := F23.binds (ps := ["_law_script", "_law_k"]) fun _ _ _ _ _ _ us hl => match us, hl with | [_, _], _ => rfl
  have T23 := at_mk X G a23 F23 b23
  have F24 := fun_mk (st := s_law_take) l24 c24 k24
  have b24 := F24.binds (ps := ["_law_pool_here", "_law_many"]) fun _ _ _ _ _ _ us hl => match us, hl with | [_, _], _ => rfl
  have T24 := at_mk X G a24 F24 b24
  have F25 := fun_mk (st := s_law_picked) l25 c25 k25
  have b25 := F25.binds (ps := ["_law_pool_here", "_law_some", "_law_many"]) fun _ _ _ _ _ _ us hl => match us, hl with | [_, _, _], _ => rfl
  have T25 := at_mk X G a25 F25 b25
  have F26 := fun_mk (st := s_law_tos) l26 c26 k26
  have b26 := F26.binds (ps := ["_law_pool_here", "_law_row", "_law_many"]) fun _ _ _ _ _ _ us hl => match us, hl with | [_, _, _], _ => rfl
  have T26 := at_mk X G a26 F26 b26
  have F27 := fun_mk (st := s_law_web) l27 c27 k27
  have b27 := F27.binds (ps := ["_law_pool_here", "_law_most_rows", "_law_most_rooms"]) fun _ _ _ _ _ _ us hl => match us, hl with | [_, _, _], _ => rfl
  have T27 := at_mk X G a27 F27 b27
  have F28 := fun_mk (st := s_law_web_rooms) l28 c28 k28
  have b28 := F28.binds (ps := ["_law_web_here"]) fun _ _ _ _ _ _ us hl => match us, hl with | [_], _ => rfl
  have T28 := at_mk X G a28 F28 b28
  have F29 := fun_mk (st := s_law_aged) l29 c29 k29
  have b29 := F29.binds (ps := ["_law_found", "_law_at", "_law_size"]) fun _ _ _ _ _ _ us hl => match us, hl with | [_, _, _], _ => rfl
  have T29 := at_mk X G a29 F29 b29
  have F30 := fun_mk (st := s_law_both_ages) l30 c30 k30
  have b30 := F30.binds (ps := ["_law_one", "_law_other"]) fun _ _ _ _ _ _ us hl => match us, hl with | [_, _], _ => rfl
  have T30 := at_mk X G a30 F30 b30
  have F31 := fun_mk (st := s_law_behind) l31 c31 k31
  have b31 := F31.binds (ps := ["_law_web_here", "_law_rooms", "_law_row", "_law_found", "_law_size"]) fun _ _ _ _ _ _ us hl => match us, hl with | [_, _, _, _, _], _ => rfl
  have T31 := at_mk X G a31 F31 b31
  have F32 := fun_mk (st := s_law_numbers_so) l32 c32 k32
  have b32 := F32.binds (ps := ["_law_thing", "_law_many", "_law_size"]) fun _ _ _ _ _ _ us hl => match us, hl with | [_, _, _], _ => rfl
  have T32 := at_mk X G a32 F32 b32
  have F33 := fun_mk (st := s_law_row_so) l33 c33 k33
  have b33 := F33.binds (ps := ["_law_thing", "_law_many", "_law_size"]) fun _ _ _ _ _ _ us hl => match us, hl with | [_, _, _], _ => rfl
  have T33 := at_mk X G a33 F33 b33
  have F34 := fun_mk (st := s_law_due) l34 c34 k34
  have b34 := F34.binds (ps := ["_law_web_here", "_law_size", "_law_thing"]) fun _ _ _ _ _ _ us hl => match us, hl with | [_, _, _], _ => rfl
  have T34 := at_mk X G a34 F34 b34
  have F35 := fun_mk (st := s_law_wider) l35 c35 k35
  have b35 := F35.binds (ps := ["_law_pool_here", "_law_told", "_law_size"]) fun _ _ _ _ _ _ us hl => match us, hl with | [_, _, _], _ => rfl
  have T35 := at_mk X G a35 F35 b35
  have F36 := fun_mk (st := s_law_bent_row) l36 c36 k36
  have b36 := F36.binds (ps := ["_law_pool_here", "_law_one", "_law_size", "_law_many"]) fun _ _ _ _ _ _ us hl => match us, hl with | [_, _, _, _], _ => rfl
  have T36 := at_mk X G a36 F36 b36
  have F37 := fun_mk (st := s_law_bent) l37 c37 k37
  have b37 := F37.binds (ps := ["_law_pool_here", "_law_table", "_law_size"]) fun _ _ _ _ _ _ us hl => match us, hl with | [_, _, _], _ => rfl
  have T37 := at_mk X G a37 F37 b37
  have F38 := fun_mk (st := s_law) l38 c38 k38
  refine ⟨PySem.W.fnOf "law" "law" (defArgs s_law) (defBody s_law) (defScope s_law) .none kV38 dc38 pm38 an38 cd38 ct38, fun s v => .of_eq rfl, fun base _ _ => ?_⟩
  have D : GbW mg := ⟨⟨_, PySem.W.mg_of X G m1⟩, ⟨_, PySem.W.mg_of X G m2⟩, ⟨_, PySem.W.mg_of X G m3⟩⟩
  have D2 : GbK K mg := by
    refine ⟨⟨_, PySem.W.mg_of X G m4⟩, ⟨aW, PySem.W.mg_of X G w1, fun H => .inr ⟨_, _, _, w2, rfl, rfl, by show 3 ≤ sizeLine; decide, ?_⟩⟩, ⟨aZ, PySem.W.mg_of X G w3, fun H => .inr ⟨_, _, _, w4, rfl, rfl, by show 4 ≤ sizeLine; decide, ?_⟩⟩⟩
    · exact .cons ⟨_, rfl⟩ (.cons ⟨_, rfl⟩ (.cons ⟨_, rfl⟩ .nil))
    · exact .cons ⟨_, rfl⟩ (.cons ⟨_, rfl⟩ (.cons ⟨_, rfl⟩ (.cons ⟨_, rfl⟩ .nil)))
  have v1 := ok_whole (P := l.prog) (w := w) (base := base) T1 B
  have v2 := ok_room (P := l.prog) (w := w) (base := base) T2 D v1
  have v3 := ok_rising (P := l.prog) (w := w) (base := base) T3 B
  have v4 := ok_row (P := l.prog) (w := w) (base := base) T11 B (ok_rooms T4 B v2 v3) (ok_tos T10 B v1 v3)
  have v5 := ok_rooms_in (P := l.prog) (w := w) (base := base) T12 B
  have v6 := ok_look (P := l.prog) (w := w) (base := base) T13 B D v4 v5
  have v7 := ok_kind (P := l.prog) (w := w) (base := base) T9 (ok_part T8 (ok_way T5 B D2) (ok_size T6 D2 v1))
  have j := ok_joined (P := l.prog) (w := w) (base := base) T16 B
  have f1 := ok_first (P := l.prog) (w := w) (base := base) T15 B
  have brow := ok_brow (P := l.prog) (w := w) (base := base) T18 B j (ok_bask T17 B)
  have v8 := ok_ages (P := l.prog) (w := w) (base := base) T14 B v6 v7 v5 f1 j brow
  have v9 := ok_lets (P := l.prog) (w := w) (base := base) T19 B v6 v7 v5 f1 (ok_pr T20 B (ok_nl T21 B (ok_wholeA T1 B))) brow (ok_allows T22 j)
  have t1 := ok_take (P := l.prog) (w := w) (base := base) T24
  have t2 := ok_picked (P := l.prog) (w := w) (base := base) T25 B t1
  have t3 := ok_lrooms (P := l.prog) (w := w) (base := base) T28 B
  have t4 := ok_both (P := l.prog) (w := w) (base := base) T30 B
  have t5 := ok_due (P := l.prog) (w := w) (base := base) T34 B t3 (ok_lrow T33 B (ok_lnl T32 B)) (ok_lbeh T31 B t4 (ok_aged T29 B)) t4
  have t6 := ok_bent (P := l.prog) (w := w) (base := base) T37 B t1 (ok_bent_row T36 B t1)
  exact ok_law F38 B ⟨ok_pool T23 B, t1, ok_lweb T27 B t1 t2 (ok_ltos T26 B t1), v8, v9, ok_wider T35 B t1, t6, t5⟩
end Su
open PySem PySem.W PyProof.Rows
set_option maxRecDepth 100000 in
set_option maxHeartbeats 0 in
theorem PySem.Challenge.cw_surehand_k37_ages_looked_at_holds : PySem.Challenge.rw_surehand_k37_ages_looked_at.Holds := by
  w_on; o_law; k_head; (case hw => w_witness2)
  k_fill
  refine Su.walk_ofG (l := PySem.Challenge.rw_surehand_k37_ages_looked_at) (n := 63) (k := 8) (x := "_law_script") (CX := L2.CX0) (sp := Su.spLaw) rfl (by decide) rfl ⟨rfl, by decide, by decide⟩ (fun w h Y => PySem.W.kIn_of Y) ?F (fun _ _ a ns hl hS => ⟨a, ns, rfl, hS, hl, fun _ => rfl⟩) (fun _ _ _ _ h => h)
  case F =>
    intro w mg fa h KX G hmg
    refine' Su.all_mk KX G hmg ?a1 ?l1 ?c1 ?k1 ?a2 ?l2 ?c2 ?k2 ?a3 ?l3 ?c3 ?k3 ?a4 ?l4 ?c4 ?k4 ?a5 ?l5 ?c5 ?k5 ?a6 ?l6 ?c6 ?k6 ?a7 ?l7 ?c7 ?k7 ?a8 ?l8 ?c8 ?k8 ?a9 ?l9 ?c9 ?k9 ?a10 ?l10 ?c10 ?k10 ?a11 ?l11 ?c11 ?k11 ?a12 ?l12 ?c12 ?k12 ?a13 ?l13 ?c13 ?k13 ?a14 ?l14 ?c14 ?k14 ?a15 ?l15 ?c15 ?k15 ?a16 ?l16 ?c16 ?k16 ?a17 ?l17 ?c17 ?k17 ?a18 ?l18 ?c18 ?k18 ?a19 ?l19 ?c19 ?k19 ?a20 ?l20 ?c20 ?k20 ?a21 ?l21 ?c21 ?k21 ?a22 ?l22 ?c22 ?k22 ?a23 ?l23 ?c23 ?k23 ?a24 ?l24 ?c24 ?k24 ?a25 ?l25 ?c25 ?k25 ?a26 ?l26 ?c26 ?k26 ?a27 ?l27 ?c27 ?k27 ?a28 ?l28 ?c28 ?k28 ?a29 ?l29 ?c29 ?k29 ?a30 ?l30 ?c30 ?k30 ?a31 ?l31 ?c31 ?k31 ?a32 ?l32 ?c32 ?k32 ?a33 ?l33 ?c33 ?k33 ?a34 ?l34 ?c34 ?k34 ?a35 ?l35 ?c35 ?k35 ?a36 ?l36 ?c36 ?k36 ?a37 ?l37 ?c37 ?k37 ?a38 ?l38 ?c38 ?k38 ?m1 ?m2 ?m3 ?m4 ?w1 ?w2 ?w3 ?w4 ?q14 ?q19 ?z1 ?z2 ?z3 ?z4 ?z5 ?z6 ?z7 ?z8 ?z9 ?z10 ?z11 ?z12 ?z13 ?z14 ?z15 ?z16 ?z17 ?z18 ?z19 ?z20 ?z21
    (case a1 => k_is); (case l1 => k_is); (case c1 => k_is); (case k1 => k_is); (case a2 => k_is); (case l2 => k_is)
    (case c2 => k_is); (case k2 => k_is); (case a3 => k_is); (case l3 => k_is); (case c3 => k_is); (case k3 => k_is)
    (case a4 => k_is); (case l4 => k_is); (case c4 => k_is); (case k4 => k_is); (case a5 => k_is); (case l5 => k_is)
    (case c5 => k_is); (case k5 => k_is); (case a6 => k_is); (case l6 => k_is); (case c6 => k_is); (case k6 => k_is)
    (case a7 => k_is); (case l7 => k_is); (case c7 => k_is); (case k7 => k_is); (case a8 => k_is); (case l8 => k_is)
    (case c8 => k_is); (case k8 => k_is); (case a9 => k_is); (case l9 => k_is); (case c9 => k_is); (case k9 => k_is)
    (case a10 => k_is); (case l10 => k_is); (case c10 => k_is); (case k10 => k_is); (case a11 => k_is); (case l11 => k_is)
    (case c11 => k_is); (case k11 => k_is); (case a12 => k_is); (case l12 => k_is); (case c12 => k_is); (case k12 => k_is)
    (case a13 => k_is); (case l13 => k_is); (case c13 => k_is); (case k13 => k_is); (case a14 => k_is); (case l14 => k_is)
    (case c14 => k_is); (case k14 => k_is); (case a15 => k_is); (case l15 => k_is); (case c15 => k_is); (case k15 => k_is)
    (case a16 => k_is); (case l16 => k_is); (case c16 => k_is); (case k16 => k_is); (case a17 => k_is); (case l17 => k_is)
    (case c17 => k_is); (case k17 => k_is); (case a18 => k_is); (case l18 => k_is); (case c18 => k_is); (case k18 => k_is)
    (case a19 => k_is); (case l19 => k_is); (case c19 => k_is); (case k19 => k_is); (case a20 => k_is); (case l20 => k_is)
    (case c20 => k_is); (case k20 => k_is); (case a21 => k_is); (case l21 => k_is); (case c21 => k_is); (case k21 => k_is)
    (case a22 => k_is); (case l22 => k_is); (case c22 => k_is); (case k22 => k_is); (case a23 => k_is); (case l23 => k_is)
    (case c23 => k_is); (case k23 => k_is); (case a24 => k_is); (case l24 => k_is); (case c24 => k_is); (case k24 => k_is)
    (case a25 => k_is); (case l25 => k_is); (case c25 => k_is); (case k25 => k_is); (case a26 => k_is); (case l26 => k_is)
    (case c26 => k_is); (case k26 => k_is); (case a27 => k_is); (case l27 => k_is); (case c27 => k_is); (case k27 => k_is)
    (case a28 => k_is); (case l28 => k_is); (case c28 => k_is); (case k28 => k_is); (case a29 => k_is); (case l29 => k_is)
    (case c29 => k_is); (case k29 => k_is); (case a30 => k_is); (case l30 => k_is); (case c30 => k_is); (case k30 => k_is)
    (case a31 => k_is); (case l31 => k_is); (case c31 => k_is); (case k31 => k_is); (case a32 => k_is); (case l32 => k_is)
    (case c32 => k_is); (case k32 => k_is); (case a33 => k_is); (case l33 => k_is); (case c33 => k_is); (case k33 => k_is)
    (case a34 => k_is); (case l34 => k_is); (case c34 => k_is); (case k34 => k_is); (case a35 => k_is); (case l35 => k_is)
    (case c35 => k_is); (case k35 => k_is); (case a36 => k_is); (case l36 => k_is); (case c36 => k_is); (case k36 => k_is)
    (case a37 => k_is); (case l37 => k_is); (case c37 => k_is); (case k37 => k_is); (case a38 => k_is); (case l38 => k_is)
    (case c38 => k_is); (case k38 => k_is); (case m1 => k_is); (case m2 => k_is); (case m3 => k_is); (case m4 => k_is)
    (case w1 => k_is); (case w2 => k_is); (case w3 => k_is); (case w4 => k_is); (case q14 => k_is); (case q19 => k_is)
    (case z1 => k_is); (case z2 => k_is); (case z3 => k_is); (case z4 => k_is); (case z5 => k_is); (case z6 => k_is)
    (case z7 => k_is); (case z8 => k_is); (case z9 => k_is); (case z10 => k_is); (case z11 => k_is); (case z12 => k_is)
    (case z13 => k_is); (case z14 => k_is); (case z15 => k_is); (case z16 => k_is); (case z17 => k_is); (case z18 => k_is)
    (case z19 => k_is); (case z20 => k_is); (case z21 => k_is)
